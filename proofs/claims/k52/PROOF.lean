import PyProof.Rows.All
import Wide.All
import OpenK.AllK
import Wide.FinOn
import PyProof.EqAt
import PyProof.EqKinds
import PyProof.TupleCall
import PySem.Challenge.RW_selfword_k52_nothing_beneath
set_option Elab.async false
set_option linter.all false
set_option maxRecDepth 100000
namespace L2
open PySem PySem.Spec PyProof.Rows
abbrev Key:=Sum Int Str
def keyIs:Key→Value→Bool
 | .inl k,v=>Value.isInt k v
 | .inr x,v=>Value.isStrOf x v
def keyH (w:World):Key→Int
 | .inl k=>hashInt k
 | .inr x=>hashStr w x
theorem keyIs_shape:∀ {k:Key}{v:Value},keyIs k v=true→(∃ i t,k=Sum.inl i∧v=Value.int i t)∨(∃ x t,k=Sum.inr x∧v=Value.str x t)
 | .inl i,v,h=>by
  obtain⟨t,e⟩:=Value.isInt_shape (k:=i) (v:=v) h
  exact .inl ⟨i,t,rfl,e⟩
 | .inr x,v,h=>by
  obtain⟨t,e⟩:=Value.isStrOf_shape (x:=x) (v:=v) h
  exact .inr ⟨x,t,rfl,e⟩
theorem key_ll (a b:Int):decide ((Sum.inl a:Key)=Sum.inl b)=(a == b):=by
 by_cases e:a=b
 ·subst e; simp
 ·have h:¬ (Sum.inl a:Key)=Sum.inl b:=fun q=>e (Sum.inl.inj q)
  rw [decide_eq_false h]
  exact (beq_eq_false_iff_ne.mpr e).symm
theorem key_rr (a b:Str):decide ((Sum.inr a:Key)=Sum.inr b)=decide (a=b):=by
 by_cases e:a=b
 ·subst e; simp
 ·have h:¬ (Sum.inr a:Key)=Sum.inr b:=fun q=>e (Sum.inr.inj q)
  rw [decide_eq_false h,decide_eq_false e]
theorem key_lr (a:Int) (b:Str):decide ((Sum.inl a:Key)=Sum.inr b)=false:=decide_eq_false (fun q=>nomatch q)
theorem key_rl (a:Str) (b:Int):decide ((Sum.inr a:Key)=Sum.inl b)=false:=decide_eq_false (fun q=>nomatch q)
def mixKind (prog:Program) (w:World):PySem.KeyKind prog w Key where
 is:=keyIs
 hash:=keyH w
 inj:=fun v a b ha hb=>by
  rcases keyIs_shape ha with⟨i,t,rfl,rfl⟩ | ⟨x,t,rfl,rfl⟩
  ·rcases keyIs_shape hb with⟨j,u,rfl,e⟩ | ⟨y,u,rfl,e⟩
   ·injection e with e1 _; rw [e1]
   ·exact nomatch e
  ·rcases keyIs_shape hb with⟨j,u,rfl,e⟩ | ⟨y,u,rfl,e⟩
   ·exact nomatch e
   ·injection e with e1 _; rw [e1]
 byValue:=fun k v h=>by
  rcases keyIs_shape h with⟨i,t,rfl,rfl⟩ | ⟨x,t,rfl,rfl⟩ <;> rfl
 pyHash:=fun hv h=>by
  rcases keyIs_shape hv with⟨i,t,rfl,rfl⟩ | ⟨x,t,rfl,rfl⟩
  ·exact wpAny_pyHash_int h
  ·exact wpAny_pyHash_str h
 eqBool:=fun hu hv h=>by
  rcases keyIs_shape hu with⟨i,t,rfl,rfl⟩ | ⟨x,t,rfl,rfl⟩
  ·rcases keyIs_shape hv with⟨j,u,rfl,rfl⟩ | ⟨y,u,rfl,rfl⟩
   ·rw [key_ll] at h; exact wpAny_eqBool_int h
   ·rw [key_lr] at h; exact SeqAt.EqAt.int_str i t y u _ _ _ _ h
  ·rcases keyIs_shape hv with⟨j,u,rfl,rfl⟩ | ⟨y,u,rfl,rfl⟩
   ·rw [key_rl] at h; exact SeqAt.EqAt.str_int x t j u _ _ _ _ h
   ·rw [key_rr] at h; exact wpAny_eqBool_str h
 «strs»:=fun k x t v h=>by
  rcases keyIs_shape h with⟨i,u,rfl,e⟩ | ⟨y,u,rfl,e⟩
  ·exact nomatch e
  ·injection e with e1 _
   subst e1
   cases v <;> rfl
inductive V where
 | non | bl (b:Bool) | int (i:Int) | str (x:Str) | byt (b:Array UInt8) | flt (b:UInt64) | ref (a:Addr) | ty (n:String)
 deriving DecidableEq
def RelV:V→Value→Prop
 | .non,u=>u=Value.none
 | .bl b,u=>u=Value.bool b
 | .int i,u=>∃ t,u=Value.int i t
 | .str x,u=>∃ t,u=Value.str x t
 | .byt b,u=>∃ t,u=Value.bytes b t
 | .flt b,u=>∃ t,u=Value.float b t
 | .ref a,u=>u=Value.ref a
 | .ty n,u=>u=Value.type n
abbrev Vals:List V→List Value→Prop:=Paired RelV
theorem Vals.length {xs:List V}{us:List Value} (r:Vals xs us):xs.length=us.length:=Paired.length r
theorem Vals.get:∀ {xs:List V}{us:List Value}{i:Nat}{x:V},Vals xs us→xs[i]?=some x→∃ u,us[i]?=some u∧RelV x u
 | _,_,_,_,.nil,e=>by simp at e
 | _,_,0,_,.cons r _,e=>by simp at e; subst e; exact⟨_,rfl,r⟩
 | _,_,i+1,x,.cons _ t,e=>by
  obtain⟨u,h1,h2⟩:=Vals.get (i:=i) (x:=x) t (by simpa using e)
  exact⟨u,by simpa using h1,h2⟩
theorem Vals.set {x:V}{u:Value} (r:RelV x u):∀ {xs:List V}{us:List Value} (i:Nat),Vals xs us→Vals (xs.set i x) (us.set i u)
 | _,_,_,.nil=>.nil
 | _,_,0,.cons _ t=>.cons r t
 | _,_,i+1,.cons q t=>.cons q (Vals.set r i t)
theorem Vals.append:∀ {xs ys:List V}{us ws:List Value},Vals xs us→Vals ys ws→Vals (xs++ys) (us++ws)
 | _,_,_,_,.nil,s=>s
 | _,_,_,_,.cons r t,s=>.cons r (Vals.append t s)
theorem Vals.take:∀ {xs:List V}{us:List Value} (n:Nat),Vals xs us→Vals (xs.take n) (us.take n)
 | _,_,0,_=>.nil
 | _,_,_+1,.nil=>.nil
 | _,_,n+1,.cons r t=>.cons r (Vals.take n t)
theorem Vals.drop:∀ {xs:List V}{us:List Value} (n:Nat),Vals xs us→Vals (xs.drop n) (us.drop n)
 | _,_,0,r=>r
 | _,_,_+1,.nil=>.nil
 | _,_,n+1,.cons _ t=>Vals.drop n t
def RelO:Option V→Option Value→Prop
 | some v,some u=>RelV v u
 | none,none=>True
 | _,_=>False
def KV {κ:Type}:List (κ×V)→List (κ×Value)→Prop:=Paired fun (p:κ×V) (q:κ×Value)=>p.1=q.1∧RelV p.2 q.2
def kV:Key→V
 | .inl i=>.int i
 | .inr x=>.str x
inductive HO where
 | lst (xs:List V)
 | tup (xs:List V)
 | dK (kvs:List (Key×V)) | dT (kvs:List (List Key×V))
 | set (S:Int→Bool) (n:Nat)
 | ins (C dx:Addr) (fs:List (Str×V))
 | own (x:Addr)
 | xd (fs:List (Str×V))
 | met (f x:Addr)
 | rng (lo hi:Int)
 | frz (o:Obj) (u:HO)
 | tbl (ps:Array Value)
 | ext (φ:Heap→Prop)
abbrev Hp:=Addr→Option HO
def upd (H:Hp) (a:Addr) (o:HO):Hp:=fun b=>if b=a then some o else H b
theorem upd_same {H:Hp}{a:Addr}{o:HO}:upd H a o a=some o:=by unfold upd; rw [if_pos rfl]
theorem upd_ne {H:Hp}{a b:Addr}{o:HO} (h:b≠a):upd H a o b=H b:=by unfold upd; rw [if_neg h]
theorem Ea {H:Hp}{a:Addr}{o u:HO}:upd (upd H a o) a u=upd H a u:=by
 funext b; unfold upd; split <;> rfl
theorem ne_of {H:Hp}{a b:Addr}{o u:HO} (h:H a=some o) (h':H b=some u) (d:o≠u):a≠b:=by
 intro e; subst e; rw [h] at h'; exact d (Option.some.inj h')
theorem ne_of_none {H:Hp}{a b:Addr}{o:HO} (h:H a=some o) (h':H b=none):a≠b:=by
 intro e; subst e; rw [h] at h'; cases h'
section
variable (P:Program) (w:World)
def ObjOk (H:Hp) (h:Heap) (a:Addr):HO→Prop
 | .lst xs=>xs.length≤sizeLine∧∃ (its:List Value) (n:Nat),Vals xs its∧h.get? a=some { cls:=.type "list",data:=.seq its.toArray n }
 | .tup xs=>xs.length≤sizeLine∧∃ its:List Value,Vals xs its∧IsTup h a its.toArray
 | .dK kvs=>kvs.length≤sizeLine∧(a == sysModules)=false∧∃ vs,KV kvs vs∧h.DictOf (mixKind P w) a vs
 | .dT kvs=>kvs.length≤sizeLine∧(a == sysModules)=false∧∃ xs:List (List Key×Addr×Value),
   Paired (fun (p:List Key×V) (q:List Key×Addr×Value)=>p.1=q.1∧H q.2.1=some (.tup (p.1.map kV))∧RelV p.2 q.2.2) kvs xs ∧
   ∃ o es ep,h.get? a=some o∧o.ExactDict∧o.data=.dict es ep∧es.toList=xs.map (entryOfKey (tupleKind (mixKind P w)))∧(xs.map (·.1)).Nodup
 | .set S n=>h.SetOf (intKind P w) a S n
 | .ins C dx fs=>H dx=some (.own a)∧fs.length≤1000∧dx≠a∧h.get? a=some (PySem.W.instObj C dx) ∧
   ∃ mA,h.Ns1 dx mA∧(∀ f,RelO (fs.lookup f) (mA f))∧PySem.Within mA (fs.map (·.1))
 | .own _=>∃ o,h.get? a=some o
 | .xd fs=>∃ mA,h.Ns1 a mA∧∀ f,RelO (fs.lookup f) (mA f)
 | .rng lo hi=>∃ t u v,h.get? a=some { cls:=.type "range",data:=.fields #[.int lo t,.int hi u,.int 1 v] }
 | .frz o u=>h.get? a=some o∧ObjOk H h a u
 | .tbl ps=>h.get? a=some { cls:=.none,data:=.fields ps }
 | .met f x=>h.get? a=some (PySem.W.methodObj (.ref f) (.ref x))
 | .ext φ=>φ h∧(∃ o,h.get? a=some o)∧∀ h1 h2:Heap,φ h1→(∀ o,h1.get? a=some o→h2.get? a=some o)→φ h2
def HOk (H:Hp) (h:Heap):Prop:=∀ a o,H a=some o→ObjOk P w H h a o
end
section
variable {P:Program}{w:World}{H H':Hp}{h h':Heap}{a:Addr}{o:HO}
theorem ObjOk.lt (x:ObjOk P w H h a o):a<h.objs.size:=by
 cases o with
 | lst xs=>obtain⟨_,_,_,_,e⟩:=x; exact Heap.lt_size e
 | tup xs=>obtain⟨_,_,_,p⟩:=x; exact p.lt
 | dK kvs=>obtain⟨_,_,_,_,o,_,_,e,_⟩:=x; exact Heap.lt_size e
 | dT kvs=>obtain⟨_,_,_,_,o,_,_,e,_⟩:=x; exact Heap.lt_size e
 | set S n=>obtain⟨o,_,_,_,e,_⟩:=x; exact Heap.lt_size e
 | ins C dx fs=>obtain⟨_,_,_,e,_⟩:=x; exact Heap.lt_size e
 | own y=>obtain⟨_,e⟩:=x; exact Heap.lt_size e
 | xd fs=>obtain⟨_,⟨_,_,_,e,_⟩,_⟩:=x; exact Heap.lt_size e
 | rng lo hi=>obtain⟨_,_,_,e⟩:=x; exact Heap.lt_size e
 | frz ob u=>obtain⟨e,_⟩:=x; exact Heap.lt_size e
 | tbl ps=>exact Heap.lt_size (show h.get? a=some _ from x)
 | met f y=>exact Heap.lt_size (show h.get? a=some _ from x)
 | ext φ=>obtain⟨_,⟨_,e⟩,_⟩:=x; exact Heap.lt_size e
theorem Paired.mapP {α β:Type}{F G:α→β→Prop}:∀ {l₁:List α}{l₂:List β},Paired F l₁ l₂→(∀ a b,F a b→G a b)→Paired G l₁ l₂
 | _,_,.nil,_=>.nil
 | _,_,.cons r t,f=>.cons (f _ _ r) (Paired.mapP t f)
theorem ObjOk.stay (x:ObjOk P w H h a o) (k:∀ b u,(b=a∨H b=some (.own a))→h.get? b=some u→h'.get? b=some u)
  (ho:∀ b,H b=some (.own a)→H' b=some (.own a)) (ht:∀ b xs,H b=some (.tup xs)→H' b=some (.tup xs)):ObjOk P w H' h' a o:=by
 induction o with
 | lst xs=>obtain⟨z,its,n,r,e⟩:=x; exact⟨z,its,n,r,k _ _ (.inl rfl) e⟩
 | tup xs=>obtain⟨z,its,r,ob,e,c⟩:=x; exact⟨z,its,r,ob,k _ _ (.inl rfl) e,c⟩
 | dK kvs=>obtain⟨z,y,vs,r,ob,es,ep,e,c⟩:=x; exact⟨z,y,vs,r,ob,es,ep,k _ _ (.inl rfl) e,c⟩
 | dT kvs =>
  obtain⟨z,y,xs,r,ob,es,ep,e,c⟩:=x
  exact⟨z,y,xs,Paired.mapP r fun p q z=>⟨z.1,ht _ _ z.2.1,z.2.2⟩,ob,es,ep,k _ _ (.inl rfl) e,c⟩
 | set S n=>obtain⟨ob,es,ep,t,e,c⟩:=x; exact⟨ob,es,ep,t,k _ _ (.inl rfl) e,c⟩
 | ins C dx fs =>
  obtain⟨d,z,ne,e,mA,⟨od,es,ep,e2,c⟩,r⟩:=x
  exact⟨ho _ d,z,ne,k _ _ (.inl rfl) e,mA,⟨od,es,ep,k _ _ (.inr d) e2,c⟩,r⟩
 | own y=>obtain⟨ob,e⟩:=x; exact⟨ob,k _ _ (.inl rfl) e⟩
 | xd fs=>obtain⟨mA,⟨od,es,ep,e,c⟩,r⟩:=x; exact⟨mA,⟨od,es,ep,k _ _ (.inl rfl) e,c⟩,r⟩
 | rng lo hi=>obtain⟨t,u,v,e⟩:=x; exact⟨t,u,v,k _ _ (.inl rfl) e⟩
 | frz ob u ih=>obtain⟨e,q⟩:=x; exact⟨k _ _ (.inl rfl) e,ih q⟩
 | tbl ps =>
  have e:h.get? a=some { cls:=.none,data:=.fields ps }:=x
  show h'.get? a=some { cls:=.none,data:=.fields ps }
  exact k a _ (.inl rfl) e
 | met f y =>
  have e:h.get? a=some (PySem.W.methodObj (.ref f) (.ref y)):=x
  show h'.get? a=some (PySem.W.methodObj (.ref f) (.ref y))
  exact k a _ (.inl rfl) e
 | ext φ=>obtain⟨p,⟨o,e⟩,st⟩:=x; exact⟨st _ _ p fun o q=>k _ _ (.inl rfl) q,⟨o,k _ _ (.inl rfl) e⟩,st⟩
theorem HOk.lt (x:HOk P w H h) (e:H a=some o):a<h.objs.size:=(x a o e).lt
theorem HOk.fresh (x:HOk P w H h) (e:h.objs.size≤a):H a=none:=by
 cases q:H a with
 | none=>rfl
 | some u=>exact absurd (Nat.lt_of_lt_of_le (x.lt q) e) (Nat.lt_irrefl _)
theorem HOk.kept (x:HOk P w H h) (k:∀ b u,h.get? b=some u→h'.get? b=some u):HOk P w H h':=fun a o e =>
 (x a o e).stay (fun b u _ q=>k b u q) (fun _ q=>q) fun _ _ q=>q
theorem HOk.laid (x:HOk P w H h) (k:∀ b u,h.get? b=some u→h'.get? b=some u) (hp:h.objs.size≤a) (new:ObjOk P w (upd H a o) h' a o):HOk P w (upd H a o) h':=fun b u e=>by
 have hn:=x.fresh hp
 by_cases hb:b=a
 ·subst hb; rw [upd_same] at e; cases e; exact new
 ·rw [upd_ne hb] at e
  exact (x b u e).stay (fun c v _ q=>k c v q) (fun c q=>by rw [upd_ne (ne_of_none q hn)]; exact q) fun c xs q=>by rw [upd_ne (ne_of_none q hn)]; exact q
end
def Rd (H:Hp) (a:Addr) (u:HO):Prop:=H a=some u∨∃ o,H a=some (.frz o u)
theorem Rd.ok {P:Program}{w:World}{H:Hp}{h:Heap}{a:Addr}{u:HO} (r:Rd H a u) (x:HOk P w H h):ObjOk P w H h a u:=by
 rcases r with r | ⟨o,r⟩
 ·exact x a u r
 ·obtain⟨_,q⟩:=x a _ r
  exact q
def Mut:Option HO→Prop
 | some (.lst _)=>True
 | some (.dK _)=>True
 | some (.dT _)=>True
 | some (.set _ _)=>True
 | some (.ins _ _ _)=>True
 | some (.ext _)=>True
 | _=>False
section
variable {P:Program}{w:World}{H:Hp}{h h':Heap}{x e:Addr}{o':HO}
theorem HOk.write (ok:HOk P w H h) (mu:Mut (H x)) (he:e=x∨H e=some (.own x)) (k:∀ b u,b≠e→h.get? b=some u→h'.get? b=some u) (heo:∃ u,h'.get? e=some u)
  (new:ObjOk P w (upd H x o') h' x o'):HOk P w (upd H x o') h':=fun b u q=>by
 have nown:∀ c y,H c=some (.own y)→c≠x:=fun c y r z=>by subst z; rw [r] at mu; exact mu
 have ntup:∀ c xs,H c=some (.tup xs)→c≠x:=fun c xs r z=>by subst z; rw [r] at mu; exact mu
 by_cases hb:b=x
 ·subst hb; rw [upd_same] at q; cases q; exact new
 ·rw [upd_ne hb] at q
  by_cases hbe:b=e
  ·have q':H b=some (.own x):=by
    rcases he with z | z
    ·exact absurd (hbe.trans z) hb
    ·rw [hbe]; exact z
   rw [q] at q'; cases q'
   obtain⟨v,hv⟩:=heo
   exact⟨v,by rw [hbe]; exact hv⟩
  ·refine (ok b u q).stay (fun c v hc r=>k c v ?_ r) (fun c r=>by rw [upd_ne (nown c b r)]; exact r) fun c xs r=>by rw [upd_ne (ntup c xs r)]; exact r
   rcases hc with rfl | hc
   ·exact hbe
   ·rintro rfl
    rcases he with z | z
    ·exact nown c b hc z
    ·rw [hc] at z; cases z; exact hb rfl
end
structure Un (fs ex:List Addr) (H H':Hp) (h h':Heap):Prop where
 keep:∀ b o,h.get? b=some o→H b=none→b ∉ fs→b ∉ ex→h'.get? b=some o
 slot:∀ b o,h.get? b=some o→H b=none→b∈fs→b ∉ ex→∃ sl,h'.get? b=some { o with slots:=sl }
 free:∀ b o,h.get? b=some o→H b=none→b ∉ ex→H' b=none
 there:∀ b o,h.get? b=some o→b ∉ ex→∃ o',h'.get? b=some o'
 tups:∀ b xs,H b=some (.tup xs)→H' b=some (.tup xs)
 frzs:∀ b o u,H b=some (.frz o u)→H' b=some (.frz o u)
 tbls:∀ b ps,H b=some (.tbl ps)→∃ more,H' b=some (.tbl (ps++more))
section
variable {fs fs' ex ex':List Addr}{H H1 H2:Hp}{h h1 h2 h':Heap}{a x e:Addr}{o:HO}
theorem Un.any (u:Un fs ex H H1 h h1) {b:Addr}{ob:Obj} (q:h.get? b=some ob) (n:H b=none) (hx:b ∉ ex):∃ sl,h1.get? b=some { ob with slots:=sl }:=by
 by_cases hb:b∈fs
 ·exact u.slot b ob q n hb hx
 ·exact⟨ob.slots,u.keep b ob q n hb hx⟩
theorem Un.kept (k:∀ b u,h.get? b=some u→h'.get? b=some u):Un fs ex H H h h' :=
 ⟨fun b ob q _ _ _=>k b ob q,fun b ob q _ _ _=>⟨ob.slots,k b ob q⟩,fun _ _ _ n _=>n,fun b ob q _=>⟨ob,k b ob q⟩,fun _ _ q=>q,fun _ _ _ q=>q,fun _ ps q=>⟨#[],by rw [q]; simp⟩⟩
theorem Un.refl:Un fs ex H H h h:=Un.kept fun _ _ q=>q
theorem Un.laid (k:∀ b u,h.get? b=some u→h'.get? b=some u) (hp:h.objs.size≤a) (hn:H a=none):Un fs ex H (upd H a o) h h' where
 keep:=fun b u q _ _ _=>k b u q
 slot:=fun b u q _ _ _=>⟨u.slots,k b u q⟩
 free:=fun b u q n _=>by rw [upd_ne (Nat.ne_of_lt (Nat.lt_of_lt_of_le (Heap.lt_size q) hp))]; exact n
 there:=fun b u q _=>⟨u,k b u q⟩
 tups:=fun b xs q=>by rw [upd_ne (ne_of_none q hn)]; exact q
 frzs:=fun b u xs q=>by rw [upd_ne (ne_of_none q hn)]; exact q
 tbls:=fun b ps q=>⟨#[],by rw [upd_ne (ne_of_none q hn),q]; simp⟩
theorem Un.write (mu:Mut (H x)) (he:e=x∨H e=some (.own x)) (k:∀ b u,b≠e→h.get? b=some u→h'.get? b=some u) (heo:∃ u,h'.get? e=some u):Un fs ex H (upd H x o) h h':=by
 have hx:∀ b,H b=none→b≠x:=fun b n z=>by subst z; rw [n] at mu; exact mu
 have hb:∀ b,H b=none→b≠e:=fun b n z=>by
  subst z
  rcases he with r | r
  ·exact hx b n r
  ·rw [n] at r; cases r
 have hm:∀ b u,H b=some u→¬ Mut (some u)→b≠x:=fun b u q nm z=>by subst z; rw [q] at mu; exact nm mu
 refine⟨fun b u q n _ _=>k b u (hb b n) q,fun b u q n _ _=>⟨u.slots,k b u (hb b n) q⟩,fun b u q n _=>by rw [upd_ne (hx b n)]; exact n,fun b u q _=>?_,
  fun b xs q=>by rw [upd_ne (hm b _ q fun z=>z)]; exact q,fun b u xs q=>by rw [upd_ne (hm b _ q fun z=>z)]; exact q,fun b ps q=>⟨#[],by rw [upd_ne (hm b _ q fun z=>z),q]; simp⟩⟩
 by_cases hbe:b=e
 ·subst hbe; exact heo
 ·exact⟨u,k b u hbe q⟩
end
def trk (h:Heap) (H:Hp):List Addr:=(List.range h.objs.size).filter fun a=>(H a).isSome
def hidT (h:Heap) (H:Hp):Heap:=PySem.W.hideAll h (trk h H)
theorem hidT_size (h:Heap) (H:Hp):(hidT h H).objs.size=h.objs.size:=PySem.W.hideAll_size _ _
theorem hidT_get {h:Heap}{H:Hp}{b:Addr}{o:Obj} (e:h.get? b=some o) (n:H b=none):(hidT h H).get? b=some o :=
 PySem.W.hideAll_get _ e fun hm=>by
  have q:(H b).isSome=true:=(List.mem_filter.mp hm).2
  rw [n] at q; simp at q
theorem of_hidT {h:Heap}{H:Hp}{b:Addr}{o:Obj} (e:(hidT h H).get? b=some o):h.get? b=some o∧H b=none:=by
 have e':h.get? b=some o:=PySem.W.of_hideAll (trk h H) e
 refine⟨e',?_⟩
 cases q:H b with
 | none=>rfl
 | some x =>
  have hm:b∈trk h H:=List.mem_filter.mpr ⟨List.mem_range.mpr (Heap.lt_size e'),by simp [q]⟩
  have z:(hidT h H).get? b=none:=PySem.W.hideAll_none (trk h H) hm
  rw [z] at e; cases e
structure Mod (K:PySem.W.Frag) (mg:Str→Option Value) (base:Heap):Prop where
 kin:K.In base
 glob:base.Ns mainGlobals mg
 blt:∃ mb,base.Ns builtinsNs mb∧∀ x:Str,x≠"__name__"→mb x=bootBuiltins x
 nolimit:base.NoLimit
structure Cx where
 prog:Program
 w:World
 K:PySem.W.Frag
 mg:Str→Option Value
 base:Heap
 A:Around
 N:List Str
 s₀:Shared
 H₀:Hp
 env:Env
 outer:List Env
 stack:List Env
 ex:List Addr
 fn:Str→Bool
 calm:Bool
 pn:List (Addr×Obj)
 xe:Value→Shared→Prop
def frs (l:List Env):List Addr:=l.filterMap (·.frame)
abbrev Cx.fs (X:Cx):List Addr:=frs X.outer
def Vis (sc:Scope) (x:Str):Prop:=sc.names.lookup x=some .local∨sc.names.lookup x=some .cell∨sc.names.lookup x=some .free
def Loc (sc:Scope) (x:Str):Prop:=sc.names.lookup x=some .local∨sc.names.lookup x=some .cell
def Look (env:Env) (h:Heap) (m:Str→Option Value) (x:Str) (u:Value):Prop :=
 (env.kindOf x=some .local∧m x=some u)∨((env.kindOf x=some .cell∨env.kindOf x=some .free)∧∃ c,env.cells.lookup x=some c∧h.IsCell c (some u))
structure Cx.Ok (X:Cx):Prop where
 mod:Mod X.K X.mg X.base
 kind:X.env.scope.kind=.function
 glob:X.env.globals=mainGlobals
 blt:X.env.builtins=builtinsNs
 above:X.s₀.heap.objs.size≤X.env.locals
 inj:∀ x y c,X.env.cells.lookup x=some c→X.env.cells.lookup y=some c→x=y
 has:∀ x,(X.env.kindOf x=some .cell∨X.env.kindOf x=some .free)→∃ c,X.env.cells.lookup x=some c
 cab:∀ x c,X.fn x=true→X.env.cells.lookup x=some c→X.s₀.heap.objs.size≤c
 hd:X.calm=true→X.A.handled=none
 frames:X.A.frames=some X.stack
 stk:X.stack=X.outer∨(X.stack=X.env::X.outer∧X.env.frame=some X.env.locals)
 exf:∀ b∈X.ex,b≠X.env.locals∧∀ x c,X.env.cells.lookup x=some c→c≠b
 bs:∀ b o,X.base.get? b=some o→X.s₀.heap.get? b=some o∧X.H₀ b=none
 bsz:X.base.objs.size≤X.s₀.heap.objs.size
 noex:∀ b o,X.base.get? b=some o→b ∉ X.ex
 exfs:∀ b∈X.ex,b ∉ X.fs
 funs:X.s₀.heap.FunFrames X.base X.outer
 frf:∀ b∈X.fs,X.H₀ b=none
structure Inv (X:Cx) (pins:List (Addr×Obj)) (σ:List (Option V)) (H:Hp) (s:Shared):Prop where
 ok:X.Ok
 os:s.os=X.s₀.os
 bare:AllBare s.gens
 base:Un X.fs X.ex X.H₀ H X.s₀.heap s.heap
 loc:∃ m,s.heap.Ns X.env.locals m∧∀ (i:Nat) (x:Str) (v:V),X.N[i]?=some x→σ[i]?=some (some v)→Vis X.env.scope x→∃ u,RelV v u∧Look X.env s.heap m x u
 cell:∀ x c,X.env.cells.lookup x=some c→∃ v,s.heap.IsCell c v
 free:H X.env.locals=none
 freeC:∀ x c,X.env.cells.lookup x=some c→H c=none
 pin:∀ p∈X.pn++pins,s.heap.get? p.1=some p.2∧H p.1=none∧p.1≠X.env.locals∧p.1 ∉ X.fs∧∀ v,p.2.data≠.cell v
 hok:HOk X.prog X.w H s.heap
 len:σ.length=X.N.length
section
variable {X:Cx}{pins:List (Addr×Obj)}{σ:List (Option V)}{H H':Hp}{s:Shared}{h':Heap}
theorem Cx.Ok.nofr (ok:X.Ok) {b:Addr}{o:Obj} (e:X.base.get? b=some o):b ∉ X.fs:=fun hb=>by
 have:=(ok.funs.mem hb).1
 rw [e] at this; cases this
theorem Inv.bs (I:Inv X pins σ H s):∀ b o,X.base.get? b=some o→s.heap.get? b=some o∧H b=none:=fun b o e =>
 ⟨I.base.keep b o (I.ok.bs b o e).1 (I.ok.bs b o e).2 (I.ok.nofr e) (I.ok.noex b o e),I.base.free b o (I.ok.bs b o e).1 (I.ok.bs b o e).2 (I.ok.noex b o e)⟩
theorem Inv.bk (I:Inv X pins σ H s):∀ b o,X.base.get? b=some o→s.heap.get? b=some o:=fun b o e=>(I.bs b o e).1
theorem Inv.mod (I:Inv X pins σ H s):Mod X.K X.mg X.base:=I.ok.mod
theorem Inv.kIn (I:Inv X pins σ H s):X.K.In s.heap:=I.ok.mod.kin.keeps I.bk
theorem Inv.lt (I:Inv X pins σ H s):X.env.locals<s.heap.objs.size:=let ⟨_,hn,_⟩:=I.loc; hn.lt
theorem Inv.sz (I:Inv X pins σ H s):X.s₀.heap.objs.size≤s.heap.objs.size:=Nat.le_trans I.ok.above (Nat.le_of_lt I.lt)
theorem Inv.nofs (I:Inv X pins σ H s) {a:Addr} (h:s.heap.objs.size≤a):a ∉ X.fs:=fun hb=>by
 obtain⟨_,o,ho,_⟩:=I.ok.funs.mem hb
 exact absurd (Nat.lt_of_lt_of_le (Heap.lt_size ho) (Nat.le_trans I.sz h)) (Nat.lt_irrefl _)
theorem Inv.cne (I:Inv X pins σ H s):∀ x c,X.env.cells.lookup x=some c→c≠X.env.locals:=fun x c e z=>by
 obtain⟨v,o,ho,hd⟩:=I.cell x c e
 obtain⟨m,⟨o',es,ep,ho',hd',_⟩,_⟩:=I.loc
 rw [z,ho'] at ho; cases ho; rw [hd'] at hd; cases hd
theorem Inv.funs (I:Inv X pins σ H s):s.heap.FunFrames X.base X.outer:=by
 have all:∀ (l:List Env),(∀ b∈frs l,b∈X.fs)→X.s₀.heap.FunFrames X.base l→s.heap.FunFrames X.base l:=by
  intro l
  induction l with
  | nil=>intro _ _; trivial
  | cons env r ih =>
   intro hs hl
   obtain⟨hk,⟨L,o,hf,hn,ho,hd⟩,hr⟩:=hl
   have hL:L∈X.fs:=hs L (by unfold frs; rw [List.filterMap_cons,hf]; exact List.mem_cons_self)
   obtain⟨sl,e⟩:=I.base.slot L o ho (I.ok.frf L hL) hL fun z=>I.ok.exfs L z hL
   exact⟨hk,⟨L,_,hf,hn,e,hd⟩,ih (fun b hb=>hs b (by unfold frs; rw [List.filterMap_cons,hf]; exact List.mem_cons_of_mem _ hb)) hr⟩
 exact all X.outer (fun _ hb=>hb) I.ok.funs
theorem Inv.stack (I:Inv X pins σ H s):s.heap.FunFrames X.base X.stack:=by
 rcases I.ok.stk with e | ⟨e,hf⟩
 ·rw [e]; exact I.funs
 ·rw [e]
  obtain⟨m,hn,_⟩:=I.loc
  refine .cons (by rw [I.ok.kind]; decide) hf hn ?_ I.funs
  exact Heap.get?_none_of_le (Nat.le_trans I.ok.bsz I.ok.above)
theorem Inv.stkSub (I:Inv X pins σ H s):∀ b∈frs X.stack,b∈X.env.locals::X.fs:=fun b hb=>by
 rcases I.ok.stk with e | ⟨e,hf⟩
 ·rw [e] at hb; exact List.mem_cons_of_mem _ hb
 ·rw [e] at hb
  unfold frs at hb
  rw [List.filterMap_cons,hf] at hb
  exact hb
theorem Inv.stkFree (I:Inv X pins σ H s):∀ b∈frs X.stack,H b=none:=fun b hb=>by
 rcases List.mem_cons.mp (I.stkSub b hb) with e | hb
 ·rw [e]; exact I.free
 ·obtain⟨_,o,ho,_⟩:=I.ok.funs.mem hb
  exact I.base.free b o ho (I.ok.frf b hb) fun z=>I.ok.exfs b z hb
theorem Inv.step {g':Array GenState}{t':Nat}{d':Drawn}{ch:List Addr} (I:Inv X pins σ H s)
  (hch:∀ b∈ch,(b∈X.ex∨X.s₀.heap.objs.size≤b)∧b≠X.env.locals∧(∀ x c,X.env.cells.lookup x=some c→c≠b)∧∀ p∈X.pn++pins,p.1≠b)
  (keep:∀ b o,b≠X.env.locals→b ∉ X.fs→b ∉ ch→s.heap.get? b=some o→H b=none→h'.get? b=some o)
  (slot:∀ b o,b≠X.env.locals→b∈X.fs→b ∉ ch→s.heap.get? b=some o→H b=none→∃ sl,h'.get? b=some { o with slots:=sl }) (free:∀ b o,b ∉ ch→s.heap.get? b=some o→H b=none→H' b=none)
  (there:∀ b o,b ∉ ch→s.heap.get? b=some o→∃ o',h'.get? b=some o')
  (tups:∀ b xs,H b=some (.tup xs)→H' b=some (.tup xs)) (frzs:∀ b o u,H b=some (.frz o u)→H' b=some (.frz o u)) (tbls:∀ b ps,H b=some (.tbl ps)→∃ more,H' b=some (.tbl (ps++more)))
  (ns:∀ m,s.heap.Ns X.env.locals m→h'.Ns X.env.locals m) (hok:HOk X.prog X.w H' h') (hg:AllBare g') :
  Inv X pins σ H' { s with heap:=h',gens:=g',drawn:=d',toks:=t' }:=by
 have neL:∀ b o,X.s₀.heap.get? b=some o→b≠X.env.locals:=fun b o e=>Nat.ne_of_lt (Nat.lt_of_lt_of_le (Heap.lt_size e) I.ok.above)
 have neC:∀ b o,X.s₀.heap.get? b=some o→b ∉ X.ex→b ∉ ch:=fun b o e hx hb=>by
  rcases (hch b hb).1 with z | z
  ·exact hx z
  ·exact absurd (Nat.lt_of_lt_of_le (Heap.lt_size e) z) (Nat.lt_irrefl _)
 have cellK:∀ x c,X.env.cells.lookup x=some c→∀ v,s.heap.IsCell c v→h'.IsCell c v:=fun x c e v ⟨o,ho,hd⟩=>by
  have nch:c ∉ ch:=fun z=>(hch c z).2.2.1 x c e rfl
  by_cases hc:c∈X.fs
  ·obtain⟨sl,q⟩:=slot c o (I.cne x c e) hc nch ho (I.freeC x c e)
   exact⟨_,q,hd⟩
  ·exact⟨o,keep c o (I.cne x c e) hc nch ho (I.freeC x c e),hd⟩
 refine⟨I.ok,I.os,hg,⟨fun b o e n hb hx=>?_,fun b o e n hb hx=>?_,fun b o e n hx=>?_,fun b o e hx=>?_,fun b xs e=>tups b xs (I.base.tups b xs e),fun b o xs e=>frzs b o xs (I.base.frzs b o xs e),fun b ps e=>?_⟩,?_,fun x c e=>?_,?_,fun x c e=>?_,fun p hp=>?_,hok,I.len⟩
 ·exact keep b o (neL b o e) hb (neC b o e hx) (I.base.keep b o e n hb hx) (I.base.free b o e n hx)
 ·obtain⟨sl,e1⟩:=I.base.slot b o e n hb hx
  obtain⟨sl',e2⟩:=slot b _ (neL b o e) hb (neC b o e hx) e1 (I.base.free b o e n hx)
  exact⟨sl',e2⟩
 ·obtain⟨o',e1⟩:=I.base.there b o e hx
  exact free b o' (neC b o e hx) e1 (I.base.free b o e n hx)
 ·obtain⟨o',e1⟩:=I.base.there b o e hx
  exact there b o' (neC b o e hx) e1
 ·obtain⟨m1,e1⟩:=I.base.tbls b ps e
  obtain⟨m2,e2⟩:=tbls b _ e1
  exact⟨m1++m2,by rw [e2,Array.append_assoc]⟩
 ·obtain⟨m,hn,hl⟩:=I.loc
  refine⟨m,ns m hn,fun i x v e1 e2 e3=>?_⟩
  obtain⟨u,r,l⟩:=hl i x v e1 e2 e3
  refine⟨u,r,?_⟩
  rcases l with l | ⟨k,c,e,z⟩
  ·exact .inl l
  ·exact .inr ⟨k,c,e,cellK x c e _ z⟩
 ·obtain⟨v,z⟩:=I.cell x c e
  exact⟨v,cellK x c e v z⟩
 ·obtain⟨m,⟨o,_,_,ho,_⟩,_⟩:=I.loc
  exact free _ o (fun z=>(hch _ z).2.1 rfl) ho I.free
 ·obtain⟨v,o,ho,hd⟩:=I.cell x c e
  exact free c o (fun z=>(hch c z).2.2.1 x c e rfl) ho (I.freeC x c e)
 ·obtain⟨e,n,ne,nf,d⟩:=I.pin p hp
  have nch:p.1 ∉ ch:=fun z=>(hch p.1 z).2.2.2 p hp rfl
  exact⟨keep p.1 p.2 ne nf nch e n,free p.1 p.2 nch e n,ne,nf,d⟩
theorem Inv.un {t':Nat} (I:Inv X pins σ H s) (u:Un X.fs [] H H' s.heap h') (hok:HOk X.prog X.w H' h'):Inv X pins σ H' { s with heap:=h',toks:=t' }:=by
 obtain⟨m,⟨o,es,ep,ho,r⟩,_⟩:=id I.loc
 obtain⟨sl,hL⟩:=u.any ho I.free (by simp)
 exact I.step (g':=s.gens) (d':=s.drawn) (ch:=[]) (fun _ z=>nomatch z) (fun b o _ hb _ e n=>u.keep b o e n hb (by simp)) (fun b o _ hb _ e n=>u.slot b o e n hb (by simp)) (fun b o _ e n=>u.free b o e n (by simp)) (fun b o _ e=>u.there b o e (by simp)) u.tups u.frzs u.tbls (fun m' hm=>by
  obtain⟨o',es',ep',ho',r'⟩:=hm
  rw [ho] at ho'; cases ho'
  exact⟨_,es',ep',hL,r'⟩) hok I.bare
theorem Inv.call {g':Array GenState}{t':Nat}{d':Drawn}{ch:List Addr} (I:Inv X pins σ H s) (u:Un (frs X.stack) ch H H' s.heap h') (hok:HOk X.prog X.w H' h') (hg:AllBare g')
  (hch:∀ b∈ch,(b∈X.ex∨X.s₀.heap.objs.size≤b)∧b≠X.env.locals∧(∀ x c,X.env.cells.lookup x=some c→c≠b)∧∀ p∈X.pn++pins,p.1≠b) :
  Inv X pins σ H' { s with heap:=h',gens:=g',drawn:=d',toks:=t' }:=by
 obtain⟨m,⟨o,es,ep,ho,r⟩,_⟩:=id I.loc
 obtain⟨sl,hL⟩:=u.any ho I.free fun z=>(hch _ z).2.1 rfl
 exact I.step (ch:=ch) hch (fun b o hL hb hc e n=>u.keep b o e n (fun z=>(List.mem_cons.mp (I.stkSub b z)).elim hL hb) hc) (fun b o _ _ hc e n=>u.any e n hc) (fun b o hc e n=>u.free b o e n hc) (fun b o hc e=>u.there b o e hc) u.tups u.frzs u.tbls (fun m' hm=>by
  obtain⟨o',es',ep',ho',r'⟩:=hm
  rw [ho] at ho'; cases ho'
  exact⟨_,es',ep',hL,r'⟩) hok hg
theorem Inv.turned {t':Nat}{it:Addr} (I:Inv X pins σ H s) (k:∀ b o,b≠it→s.heap.get? b=some o→h'.get? b=some o) (hn:H it=none) (hL:it≠X.env.locals)
  (h1:it∈X.ex∨X.s₀.heap.objs.size≤it) (h2:∀ x c,X.env.cells.lookup x=some c→c≠it) (h3:∀ p∈X.pn++pins,p.1≠it):Inv X pins σ H { s with heap:=h',toks:=t' }:=by
 have nit:∀ b u,H b=some u→b≠it:=fun b u e z=>by rw [z,hn] at e; cases e
 refine I.step (g':=s.gens) (d':=s.drawn) (ch:=[it]) (fun b hb=>?_) (fun b o _ _ hc e _=>k b o (fun z=>hc (by simp [z])) e) (fun b o _ _ hc e _=>⟨o.slots,k b o (fun z=>hc (by simp [z])) e⟩) (fun _ _ _ _ n=>n)
  (fun b o hc e=>⟨o,k b o (fun z=>hc (by simp [z])) e⟩) (fun _ _ e=>e) (fun _ _ _ e=>e) (fun b ps e=>⟨#[],by rw [e]; simp⟩) (fun m hm=>?_) (fun b u e=>?_) I.bare
 ·have e:b=it:=by simpa using hb
  subst e
  exact⟨h1,hL,h2,h3⟩
 ·obtain⟨o,es,ep,ho,r⟩:=hm
  exact⟨o,es,ep,k _ o (Ne.symm hL) ho,r⟩
 ·refine (I.hok b u e).stay (fun c v hc q=>k c v ?_ q) (fun _ q=>q) fun _ _ q=>q
  rcases hc with z | z
  ·rw [z]; exact nit b u e
  ·exact nit c _ z
theorem Inv.tok (I:Inv X pins σ H s) (t:Nat):Inv X pins σ H { s with toks:=t }:=I.un (h':=s.heap) (t':=t) Un.refl I.hok
theorem Inv.kept {t':Nat} (I:Inv X pins σ H s) (k:∀ b u,s.heap.get? b=some u→h'.get? b=some u):Inv X pins σ H { s with heap:=h',toks:=t' }:=I.un (Un.kept k) (I.hok.kept k)
theorem Inv.laid {a:Addr}{o:HO}{t':Nat} (I:Inv X pins σ H s) (k:∀ b u,s.heap.get? b=some u→h'.get? b=some u) (hp:s.heap.objs.size≤a) (new:ObjOk X.prog X.w (upd H a o) h' a o) :
  Inv X pins σ (upd H a o) { s with heap:=h',toks:=t' }:=I.un (Un.laid k hp (I.hok.fresh hp)) (I.hok.laid k hp new)
theorem Inv.write {x e:Addr}{o:HO}{t':Nat} (I:Inv X pins σ H s) (mu:Mut (H x)) (he:e=x∨H e=some (.own x)) (k:∀ b u,b≠e→s.heap.get? b=some u→h'.get? b=some u) (heo:∃ u,h'.get? e=some u)
  (new:ObjOk X.prog X.w (upd H x o) h' x o):Inv X pins σ (upd H x o) { s with heap:=h',toks:=t' }:=I.un (Un.write mu he k heo) (I.hok.write mu he k heo new)
theorem Inv.pins_of {pins':List (Addr×Obj)} (I:Inv X pins σ H s) (h:∀ p∈pins',s.heap.get? p.1=some p.2∧H p.1=none∧p.1≠X.env.locals∧p.1 ∉ X.fs∧∀ v,p.2.data≠.cell v):Inv X pins' σ H s :=
 ⟨I.ok,I.os,I.bare,I.base,I.loc,I.cell,I.free,I.freeC,fun p hp=>(List.mem_append.mp hp).elim (fun z=>I.pin p (List.mem_append_left _ z)) (h p),I.hok,I.len⟩
theorem nodup_ix {N:List Str} (hN:N.Nodup) {i j:Nat}{x:Str} (a:N[i]?=some x) (b:N[j]?=some x):i=j:=by
 obtain⟨h1,e1⟩:=List.getElem?_eq_some_iff.mp a
 obtain⟨h2,e2⟩:=List.getElem?_eq_some_iff.mp b
 exact (List.getElem_inj hN).mp (e1.trans e2.symm)
theorem store_ok2 {M:Model}{A:Around}{E:Value→Shared→Prop}{i:Nat}{x:Str}{v:V}{u:Value}{Q:Unit→Shared→Prop} (I:Inv X pins σ H s) (hN:X.N.Nodup) (hi:X.N[i]?=some x) (hx:Loc X.env.scope x) (r:RelV v u)
  (h:∀ s',Inv X pins (σ.set i (some v)) H s'→(∃ a,Heap.SameBut a s.heap s'.heap∧(a=X.env.locals∨X.env.cells.lookup x=some a))→Q () s') (hf:X.fn x=true∨X.env.scope.names.lookup x=some .local:=by first | exact .inl rfl | exact .inr rfl | assumption):wpAny M A (storeName X.env x u) Q E s:=by
 obtain⟨m,hn,hl⟩:=id I.loc
 have hcls:(X.env.scope.kind == .class || (X.env.scope.kind == .module && X.env.locals != X.env.globals))=false:=by rw [I.ok.kind]; rfl
 have hiσ:i<σ.length:=by rw [I.len]; exact (List.getElem?_eq_some_iff.mp hi).1
 have cne:=I.cne
 have tracked:∀ {a:Addr}{h':Heap},(∃ o,s.heap.get? a=some o∧H a=none)→Heap.SameBut a s.heap h'→HOk X.prog X.w H h':=fun {a h'} ha hs b ob e=>by
  obtain⟨_,_,hfree⟩:=ha
  refine (I.hok b ob e).stay (fun c w' hc q=>(hs.2 c ?_).trans q) (fun _ q=>q) fun _ _ q=>q
  rintro rfl
  rcases hc with rfl | hc
  ·rw [hfree] at e; cases e
  ·rw [hfree] at hc; cases hc
 rcases hx with hk | hk
 ·refine wpAny_storeName_local hk hn (fun h' hn' hs=>?_) hcls
  obtain⟨oL,_,_,hoL,_⟩:=id hn
  refine h _ ⟨I.ok,I.os,I.bare,⟨fun b o e n hb hx=>?_,fun b o e n hb hx=>?_,I.base.free,fun b o e hx=>?_,I.base.tups,I.base.frzs,I.base.tbls⟩,⟨_,hn',fun j y v' e1 e2 e3=>?_⟩,fun y c e=>?_,I.free,I.freeC,fun p hp=>?_,tracked ⟨oL,hoL,I.free⟩ hs,by simpa using I.len⟩ ⟨_,hs,.inl rfl⟩
  ·exact (hs.2 b (Nat.ne_of_lt (Nat.lt_of_lt_of_le (Heap.lt_size e) I.ok.above))).trans (I.base.keep b o e n hb hx)
  ·obtain⟨sl,e1⟩:=I.base.slot b o e n hb hx
   exact⟨sl,(hs.2 b (Nat.ne_of_lt (Nat.lt_of_lt_of_le (Heap.lt_size e) I.ok.above))).trans e1⟩
  ·obtain⟨o',e1⟩:=I.base.there b o e hx
   exact⟨o',(hs.2 b (Nat.ne_of_lt (Nat.lt_of_lt_of_le (Heap.lt_size e) I.ok.above))).trans e1⟩
  ·by_cases hj:j=i
   ·subst hj
    rw [hi] at e1; cases e1
    rw [List.getElem?_set_self hiσ] at e2
    cases e2
    exact⟨u,r,.inl ⟨hk,by simp⟩⟩
   ·rw [List.getElem?_set_ne (Ne.symm hj)] at e2
    obtain⟨u',r',q⟩:=hl j y v' e1 e2 e3
    refine⟨u',r',?_⟩
    rcases q with⟨k,e⟩ | ⟨k,c,e,z⟩
    ·refine .inl ⟨k,?_⟩
     have:y≠x:=fun e=>hj (nodup_ix hN e1 (e ▸ hi))
     simp [this,e]
    ·exact .inr ⟨k,c,e,z.sameBut hs (cne y c e)⟩
  ·obtain⟨w',z⟩:=I.cell y c e
   exact⟨w',z.sameBut hs (cne y c e)⟩
  ·obtain⟨e,n,ne,nf,d⟩:=I.pin p hp
   exact⟨(hs.2 p.1 ne).trans e,n,ne,nf,d⟩
 ·have hfn:X.fn x=true:=by
   rcases hf with z | z
   ·exact z
   ·rw [z] at hk; cases hk
  obtain⟨c,hc⟩:=I.ok.has x (.inl hk)
  obtain⟨w',z⟩:=I.cell x c hc
  refine wpAny_storeName_cell I.ok.kind hk hc z (fun h' hc' hs=>?_)
  obtain⟨oc,hoc,hocd⟩:=id z
  refine h { s with heap:=h' } ⟨I.ok,I.os,I.bare,⟨fun b o e n hb hx=>?_,fun b o e n hb hx=>?_,I.base.free,fun b o e hx=>?_,I.base.tups,I.base.frzs,I.base.tbls⟩,⟨m,hn.sameBut hs (Ne.symm (cne x c hc)),fun j y v' e1 e2 e3=>?_⟩,fun y c' e=>?_,I.free,I.freeC,fun p hp=>?_,tracked ⟨oc,hoc,I.freeC x c hc⟩ hs,by simpa using I.len⟩ ⟨c,hs,.inr hc⟩
  ·exact (hs.2 b (Nat.ne_of_lt (Nat.lt_of_lt_of_le (Heap.lt_size e) (I.ok.cab x c hfn hc)))).trans (I.base.keep b o e n hb hx)
  ·obtain⟨sl,e1⟩:=I.base.slot b o e n hb hx
   exact⟨sl,(hs.2 b (Nat.ne_of_lt (Nat.lt_of_lt_of_le (Heap.lt_size e) (I.ok.cab x c hfn hc)))).trans e1⟩
  ·obtain⟨o',e1⟩:=I.base.there b o e hx
   exact⟨o',(hs.2 b (Nat.ne_of_lt (Nat.lt_of_lt_of_le (Heap.lt_size e) (I.ok.cab x c hfn hc)))).trans e1⟩
  ·by_cases hj:j=i
   ·subst hj
    rw [hi] at e1; cases e1
    rw [List.getElem?_set_self hiσ] at e2
    cases e2
    exact⟨u,r,.inr ⟨.inl hk,c,hc,hc'⟩⟩
   ·rw [List.getElem?_set_ne (Ne.symm hj)] at e2
    obtain⟨u',r',q⟩:=hl j y v' e1 e2 e3
    refine⟨u',r',?_⟩
    rcases q with q | ⟨k,c',e,z'⟩
    ·exact .inl q
    ·refine .inr ⟨k,c',e,z'.sameBut hs ?_⟩
     rintro rfl
     exact hj (nodup_ix hN e1 (I.ok.inj _ _ _ e hc ▸ hi))
  ·by_cases hcc:c'=c
   ·subst hcc; exact⟨_,hc'⟩
   ·obtain⟨w2,z2⟩:=I.cell y c' e
    exact⟨w2,z2.sameBut hs hcc⟩
  ·obtain⟨e,n,ne,nf,d⟩:=I.pin p hp
   refine⟨(hs.2 p.1 ?_).trans e,n,ne,nf,d⟩
   intro q
   rw [q,hoc] at e
   have q':oc=p.2:=Option.some.inj e
   exact d w' (by rw [← q']; exact hocd)
theorem store_ok {M:Model}{A:Around}{E:Value→Shared→Prop}{i:Nat}{x:Str}{v:V}{u:Value}{Q:Unit→Shared→Prop} (I:Inv X pins σ H s) (hN:X.N.Nodup) (hi:X.N[i]?=some x) (hx:Loc X.env.scope x) (r:RelV v u)
  (h:∀ s',Inv X pins (σ.set i (some v)) H s'→Q () s') (hf:X.fn x=true∨X.env.scope.names.lookup x=some .local:=by first | exact .inl rfl | exact .inr rfl | assumption):wpAny M A (storeName X.env x u) Q E s :=
 store_ok2 I hN hi hx r (fun s' I' _=>h s' I') hf
end
abbrev XK:=Value→Option Addr→Hp→Prop
abbrev St:=List (Option V)
abbrev VK:=V→Hp→Prop
abbrev TE:=St→Hp→VK→Prop
abbrev TT:=St→Hp→(Bool→Hp→Prop)→Prop
abbrev TA:=St→Hp→(List V→Hp→Prop)→Prop
structure Ends where
 nx:St→Hp→Prop
 rt:VK
 bk:St→Hp→Prop:=fun _ _=>False
 ct:St→Hp→Prop:=fun _ _=>False
abbrev TS:=Ends→St→Hp→Prop
def EP (X:Cx) (pins:List (Addr×Obj)) (σ:St) (Q:VK) (u:Value) (s':Shared):Prop:=∃ v H',Inv X pins σ H' s'∧RelV v u∧Q v H'
def TP (X:Cx) (pins:List (Addr×Obj)) (σ:St) (Q:Bool→Hp→Prop) (b:Bool) (s':Shared):Prop:=∃ H',Inv X pins σ H' s'∧Q b H'
def AP (X:Cx) (pins:List (Addr×Obj)) (σ:St) (Q:List V→Hp→Prop) (us:List Value) (s':Shared):Prop:=∃ vs H',Inv X pins σ H' s'∧Vals vs us∧Q vs H'
def SP (X:Cx) (pins:List (Addr×Obj)) (D:Ends) (f:Flow) (s':Shared):Prop :=
 match f with
 | .next=>∃ σ' H',Inv X pins σ' H' s'∧D.nx σ' H'
 | .brk=>∃ σ' H',Inv X pins σ' H' s'∧D.bk σ' H'
 | .cont=>∃ σ' H',Inv X pins σ' H' s'∧D.ct σ' H'
 | .ret u=>∃ v σ' H',Inv X pins σ' H' s'∧RelV v u∧D.rt v H'
def PE (X:Cx) (e:Expr) (t:TE):Prop :=
 ∀ (pins:List (Addr×Obj)) (s:Shared) (σ:St) (H:Hp) (Q:VK),Inv X pins σ H s→t σ H Q→wpAny (model X.prog X.w) X.A (eval e X.env) (EP X pins σ Q) X.xe s
def PT (X:Cx) (e:Expr) (t:TT):Prop :=
 ∀ (pins:List (Addr×Obj)) (s:Shared) (σ:St) (H:Hp) (Q:Bool→Hp→Prop),Inv X pins σ H s→t σ H Q→wpAny (model X.prog X.w) X.A (isTrue e X.env (eval e X.env)) (TP X pins σ Q) X.xe s
def PW (X:Cx) (e:Expr) (t:TT):Prop :=
 ∀ (whole:Sem Value) (pins:List (Addr×Obj)) (s:Shared) (σ:St) (H:Hp) (Q:Bool→Hp→Prop),Inv X pins σ H s→t σ H Q→wpAny (model X.prog X.w) X.A (isTrue e X.env whole) (TP X pins σ Q) X.xe s
theorem PW.pt {X:Cx}{e:Expr}{t:TT} (h:PW X e t):PT X e t:=h _
def PA (X:Cx) (es:List Expr) (t:TA):Prop :=
 ∀ (pos:Pos) (pins:List (Addr×Obj)) (s:Shared) (σ:St) (H:Hp) (Q:List V→Hp→Prop),Inv X pins σ H s→t σ H Q→wpAny (model X.prog X.w) X.A (spliced (backTo pos (starEach es X.env))) (AP X pins σ Q) X.xe s
def PS (X:Cx) (st:Stmt) (t:TS):Prop :=
 ∀ (pins:List (Addr×Obj)) (s:Shared) (σ:St) (H:Hp) (D:Ends),Inv X pins σ H s→t D σ H→wpAny (model X.prog X.w) X.A (exec st X.env) (SP X pins D) X.xe s
def PSs (X:Cx) (st:List Stmt) (t:TS):Prop :=
 ∀ (pins:List (Addr×Obj)) (s:Shared) (σ:St) (H:Hp) (D:Ends),Inv X pins σ H s→t D σ H→wpAny (model X.prog X.w) X.A (execs st X.env) (SP X pins D) X.xe s
theorem thn {α:Type}{t:Sem α}{Q Q':α→Shared→Prop}{M:Model}{A:Around}{E:Value→Shared→Prop}{s:Shared} (h:wpAny M A t Q E s) (hQ:∀ a s,Q a s→Q' a s):wpAny M A t Q' E s:=wpAny_mono h hQ fun _ _ x=>x
section
variable {X:Cx}
def tVar (i:Nat):TE:=fun σ H Q=>∃ v,σ[i]?=some (some v)∧Q v H
def tC (v:V):TE:=fun _ H Q=>Q v H
theorem pe_var {i:Nat}{x:Str}{pos:Pos} (hN:X.N[i]?=some x) (hv:Vis X.env.scope x) (hd:(x == ("__debug__":Str))=false:=by decide) (hcd:(x == ("__classdict__":Str))=false:=by decide):PE X (.Name x pos) (tVar i):=by
 intro pins s σ H Q I h
 obtain⟨v,e,h⟩:=h
 obtain⟨m,hn,hl⟩:=I.loc
 obtain⟨u,r,l⟩:=hl i x v hN e hv
 have fin:EP X pins σ Q u s:=⟨v,H,I,r,h⟩
 rcases l with⟨hk,hm⟩ | ⟨hk,c,hc,hcell⟩
 ·exact wpAny_Name (wpAny_loadName_local I.ok.kind hk hn hm fin) hd
 ·rcases hk with hk | hk
  ·exact wpAny_Name (wpAny_loadName_cell I.ok.kind hk hc hcell fin) hd
  ·exact wpAny_Name (wpAny_loadName_free I.ok.kind hk hc hcell fin hcd) hd
theorem pe_int {i j pos}:PE X (.Constant (.int i) j pos) (tC (.int i)):=fun _ _ _ H _ I h=>wpAny_Constant_int ⟨.int i,H,I.tok _,⟨_,rfl⟩,h⟩
theorem pe_bl {b j pos}:PE X (.Constant (.bool b) j pos) (tC (.bl b)):=fun _ _ _ H _ I h=>Constant_bool ⟨.bl b,H,I,rfl,h⟩
theorem ahP {j pos}:PE X (.Constant .none j pos) (tC .non):=fun _ _ _ H _ I h=>Constant_none ⟨.non,H,I,rfl,h⟩
theorem ahO {x j pos}:PE X (.Constant (.str x) j pos) (tC (.str x)):=fun _ _ _ H _ I h=>Calls.Constant_str ⟨.str x,H,I.tok _,⟨_,rfl⟩,h⟩
def Gl (X:Cx) (x:Str):Prop:=X.env.kindOf x=some .globalImplicit
theorem ld_glob {E:Value→Shared→Prop}{pins:List (Addr×Obj)}{s:Shared}{σ:St}{H:Hp}{x:Str}{u:Value}{pos:Pos}{Q:Value→Shared→Prop} (I:Inv X pins σ H s) (hg:Gl X x) (hm:X.mg x=some u) (h:Q u s)
  (hd:(x == ("__debug__":Str))=false:=by decide):wpAny (model X.prog X.w) X.A (eval (.Name x pos) X.env) Q E s :=
 Calls.Name_function_global I.ok.kind hg (Calls.loadGlobal_global (by rw [I.ok.glob]; exact I.mod.glob.keeps I.bk) hm h) hd
theorem ld_blt {E:Value→Shared→Prop}{pins:List (Addr×Obj)}{s:Shared}{σ:St}{H:Hp}{x:Str}{u:Value}{pos:Pos}{Q:Value→Shared→Prop} (I:Inv X pins σ H s) (hg:Gl X x) (hm:X.mg x=none) (hv:bootBuiltins x=some u) (h:Q u s)
  (hn:x≠"__name__":=by decide) (hd:(x == ("__debug__":Str))=false:=by decide):wpAny (model X.prog X.w) X.A (eval (.Name x pos) X.env) Q E s:=by
 obtain⟨mb,h1,h2⟩:=I.mod.blt
 exact Calls.Name_function_global I.ok.kind hg (Calls.loadGlobal_builtin (by rw [I.ok.glob]; exact I.mod.glob.keeps I.bk) hm (by rw [I.ok.blt]; exact h1.keeps I.bk) ((h2 x hn).trans hv) h) hd
theorem agm {x:Str}{v:V}{u:Value}{pos:Pos} (hg:Gl X x) (hm:X.mg x=some u) (r:RelV v u) (hd:(x == ("__debug__":Str))=false:=by decide):PE X (.Name x pos) (tC v) :=
 fun _ _ _ H _ I h=>ld_glob I hg hm ⟨v,H,I,r,h⟩ hd
variable {a b:Expr}{ta tb:TE}{pos:Pos}
def tB (t:TE):TT:=fun σ H Q=>t σ H fun x H1=>∃ c,x=.bl c∧Q c H1
theorem ahG {e:Expr}{t:TE} (h:PE X e t) (he:∀ whole,isTrue e X.env whole=(do let v ← whole; standAt e.pos; holding [v] (truthy v)):=by intro _; rfl):PT X e (tB t):=by
 intro pins s σ H Q I hw
 refine isTrue_plain (thn (h pins s σ H _ I hw) fun v s1 ⟨x,H1,I1,r1,q1⟩=>?_) (he _)
 obtain⟨d,rfl,q⟩:=q1
 cases r1
 exact wpAny_truthy_bool ⟨H1,I1,q⟩
variable {tA tB':TT}{rest:List Expr}
def aa8 (t u:TT):TT:=fun σ H Q=>t σ H fun c H1=>if c=true then u σ H1 Q else Q false H1
def tOr (t u:TT):TT:=fun σ H Q=>t σ H fun c H1=>if c=true then Q true H1 else u σ H1 Q
def ahe (t:TT):TT:=fun σ H Q=>t σ H fun c H1=>Q (!c) H1
theorem af_ (ha:PT X a tA):PW X (.BoolOp .And [a] pos) tA:=by
 intro wh pins s σ H Q I h
 refine isTrue_and (thn (ha pins s σ H Q I h) fun c s1 e=>?_)
 cases c with
 | true=>exact isTrue_and_nil e
 | false=>exact e
theorem ahD (ha:PT X a tA):PW X (.BoolOp .Or [a] pos) tA:=by
 intro wh pins s σ H Q I h
 refine isTrue_or (thn (ha pins s σ H Q I h) fun c s1 e=>?_)
 cases c with
 | false=>exact isTrue_or_nil e
 | true=>exact e
theorem ahE (ha:PT X a tA) (hb:PW X (.BoolOp .And (b::rest) pos) tB'):PW X (.BoolOp .And (a::b::rest) pos) (aa8 tA tB'):=by
 intro wh pins s σ H Q I h
 refine isTrue_and (thn (ha pins s σ H _ I h) fun c s1 ⟨H1,I1,q1⟩=>?_)
 cases c with
 | true=>exact hb wh pins s1 σ H1 Q I1 q1
 | false=>exact⟨H1,I1,q1⟩
theorem ajZ (ha:PT X a tA) (hb:PW X (.BoolOp .Or (b::rest) pos) tB'):PW X (.BoolOp .Or (a::b::rest) pos) (tOr tA tB'):=by
 intro wh pins s σ H Q I h
 refine isTrue_or (thn (ha pins s σ H _ I h) fun c s1 ⟨H1,I1,q1⟩=>?_)
 cases c with
 | true=>exact⟨H1,I1,q1⟩
 | false=>exact hb wh pins s1 σ H1 Q I1 q1
theorem ahH (ha:PT X a tA):PT X (.UnaryOp .Not a pos) (ahe tA):=by
 intro pins s σ H Q I h
 exact isTrue_not (ha pins s σ H (fun c H1=>Q (!c) H1) I h)
def tIf (t:TT) (ta tb:TE):TE:=fun σ H Q=>t σ H fun c H1=>if c=true then ta σ H1 Q else tb σ H1 Q
theorem aeD {c:Expr} (hc:PT X c tA) (ha:PE X a ta) (hb:PE X b tb):PE X (.IfExp c a b pos) (tIf tA ta tb):=by
 intro pins s σ H Q I h
 refine wpAny_IfExp (thn (hc pins s σ H _ I h) fun d s1 ⟨H1,I1,q1⟩=>?_)
 cases d with
 | true=>exact ha pins s1 σ H1 Q I1 q1
 | false=>exact hb pins s1 σ H1 Q I1 q1
end
def SqL (K:PySem.W.Frag) (H:Hp) (a:Addr) (xs:List V):Prop :=
 Rd H a (.lst xs) ∨
  ∃ (o:Obj) (its:Array Value) (n:Nat),K.lookup a=some o∧o.cls=.type "list"∧o.dict=none∧o.data=.seq its n∧its.size≤sizeLine∧Vals xs its.toList
def SqT (K:PySem.W.Frag) (H:Hp) (a:Addr) (xs:List V):Prop :=
 Rd H a (.tup xs) ∨
  ∃ (o:Obj) (its:Array Value) (n:Nat),K.lookup a=some o∧o.cls=.type "tuple"∧o.data=.seq its n∧its.size≤sizeLine∧Vals xs its.toList
def absV:Value→Option V
 | .none=>some .non
 | .bool b=>some (.bl b)
 | .int i _=>some (.int i)
 | .str x _=>some (.str x)
 | .bytes b _=>some (.byt b)
 | .float b _=>some (.flt b)
 | .ref a=>some (.ref a)
 | .type n=>some (.ty n)
 | _=>none
theorem RelV.abs {x:V}{u:Value} (r:RelV x u):absV u=some x:=by
 cases x with
 | non=>cases r; rfl
 | bl _=>cases r; rfl
 | int _=>obtain⟨t,rfl⟩:=r; rfl
 | str _=>obtain⟨t,rfl⟩:=r; rfl
 | byt _=>obtain⟨t,rfl⟩:=r; rfl
 | flt _=>obtain⟨t,rfl⟩:=r; rfl
 | ref _=>cases r; rfl
 | ty _=>cases r; rfl
theorem RelV.inj {x y:V}{u:Value} (r:RelV x u) (q:RelV y u):x=y:=Option.some.inj (r.abs.symm.trans q.abs)
theorem Vals.inj:∀ {xs ys:List V}{us:List Value},Vals xs us→Vals ys us→xs=ys
 | _,_,_,.nil,.nil=>rfl
 | _,_,_,.cons r t,.cons r' t'=>by rw [r.inj r',Vals.inj t t']
section
variable {X:Cx}{pins:List (Addr×Obj)}{σ:St}{H:Hp}{s:Shared}{a:Addr}{xs ys:List V}
theorem SqL.of {K:PySem.W.Frag} (h:H a=some (.lst xs)):SqL K H a xs:=.inl (.inl h)
theorem SqT.of {K:PySem.W.Frag} (h:H a=some (.tup xs)):SqT K H a xs:=.inl (.inl h)
theorem Inv.list (I:Inv X pins σ H s) (h:SqL X.K H a xs):∃ its:List Value,Vals xs its∧PlainL s.heap a its.toArray∧xs.length≤sizeLine:=by
 rcases h with h | ⟨o,its,n,hk,hc,hd,hs,hz,r⟩
 ·obtain⟨z,its,n,r,e⟩:=h.ok I.hok
  exact⟨its,r,⟨_,n,e,rfl,rfl,rfl⟩,z⟩
 ·refine⟨its.toList,r,⟨o,n,I.kIn a o hk,hc,hd,by simpa using hs⟩,?_⟩
  have e:=r.length
  simp only [Array.length_toList] at e
  lia
theorem Inv.tuple (I:Inv X pins σ H s) (h:SqT X.K H a xs):∃ its:List Value,Vals xs its∧IsTup s.heap a its.toArray∧xs.length≤sizeLine:=by
 rcases h with h | ⟨o,its,n,hk,hc,hs,hz,r⟩
 ·obtain⟨z,its,r,p⟩:=h.ok I.hok
  exact⟨its,r,p,z⟩
 ·refine⟨its.toList,r,⟨o,I.kIn a o hk,hc,n,by simpa using hs⟩,?_⟩
  have e:=r.length
  simp only [Array.length_toList] at e
  lia
theorem Inv.list_inj (I:Inv X pins σ H s) (h:SqL X.K H a xs) (h':SqL X.K H a ys):xs=ys:=by
 obtain⟨its,r,⟨o,n,e,_,_,d⟩,_⟩:=I.list h
 obtain⟨its',r',⟨o',n',e',_,_,d'⟩,_⟩:=I.list h'
 rw [e] at e'; cases e'
 rw [d] at d'
 injection d' with d1 _
 have:its=its':=by simpa using congrArg Array.toList d1
 subst this
 exact r.inj r'
theorem Inv.HS (I:Inv X pins σ H s) (h:SqT X.K H a xs) (h':SqT X.K H a ys):xs=ys:=by
 obtain⟨its,r,⟨o,e,_,n,d⟩,_⟩:=I.tuple h
 obtain⟨its',r',⟨o',e',_,n',d'⟩,_⟩:=I.tuple h'
 rw [e] at e'; cases e'
 rw [d] at d'
 injection d' with d1 _
 have:its=its':=by simpa using congrArg Array.toList d1
 subst this
 exact r.inj r'
end
abbrev Cx.wish (X:Cx) (E:Value→Shared→Prop):Cx:={ X with xe:=E }
abbrev Cx.nox (X:Cx):Cx:=X.wish fun _ _=>False
theorem Cx.Ok.wish {X:Cx} (ok:X.Ok) (E:Value→Shared→Prop):(X.wish E).Ok :=
 ⟨ok.mod,ok.kind,ok.glob,ok.blt,ok.above,ok.inj,ok.has,ok.cab,ok.hd,ok.frames,ok.stk,ok.exf,ok.bs,ok.bsz,ok.noex,ok.exfs,ok.funs,ok.frf⟩
theorem Cx.Ok.unwish {X:Cx}{E:Value→Shared→Prop} (ok:(X.wish E).Ok):X.Ok :=
 ⟨ok.mod,ok.kind,ok.glob,ok.blt,ok.above,ok.inj,ok.has,ok.cab,ok.hd,ok.frames,ok.stk,ok.exf,ok.bs,ok.bsz,ok.noex,ok.exfs,ok.funs,ok.frf⟩
section
variable {X:Cx}{pins:List (Addr×Obj)}{σ:St}{H:Hp}{s:Shared}{E:Value→Shared→Prop}
theorem Inv.wish (I:Inv X pins σ H s) (E:Value→Shared→Prop):Inv (X.wish E) pins σ H s:=⟨I.ok.wish E,I.os,I.bare,I.base,I.loc,I.cell,I.free,I.freeC,I.pin,I.hok,I.len⟩
theorem Inv.unwish (I:Inv (X.wish E) pins σ H s):Inv X pins σ H s:=⟨I.ok.unwish,I.os,I.bare,I.base,I.loc,I.cell,I.free,I.freeC,I.pin,I.hok,I.len⟩
theorem SP.unwish {D:Ends}{f:Flow}{s':Shared} (h:SP (X.wish E) pins D f s'):SP X pins D f s':=by
 cases f with
 | next=>obtain⟨σ',H',I,q⟩:=h; exact⟨σ',H',I.unwish,q⟩
 | brk=>obtain⟨σ',H',I,q⟩:=h; exact⟨σ',H',I.unwish,q⟩
 | cont=>obtain⟨σ',H',I,q⟩:=h; exact⟨σ',H',I.unwish,q⟩
 | ret u=>obtain⟨v,σ',H',I,r,q⟩:=h; exact⟨v,σ',H',I.unwish,r,q⟩
theorem PSs.nox {st:List Stmt}{t:TS} (h:PSs X.nox st t):PSs X st t:=fun pins s σ H D I hw =>
 wpAny_mono (h pins s σ H D (I.wish _) hw) (fun _ _ q=>q.unwish) fun _ _ z=>False.elim z
end
section
variable {X:Cx}{st:Stmt}{rest:List Stmt}{t u:TS}{e:Expr}{te:TE}{pos:Pos}
def tNext:TS:=fun D σ H=>D.nx σ H
def tSeq (t u:TS):TS:=fun D σ H=>t { D with nx:=u D } σ H
theorem pss_nil:PSs X [] tNext:=fun _ _ σ H _ I h=>wpAny_execs_nil ⟨σ,H,I,h⟩
theorem pss_cons (h1:PS X st t) (h2:PSs X rest u):PSs X (st::rest) (tSeq t u):=by
 intro pins s σ H D I h
 refine wpAny_execs_cons (thn (h1 pins s σ H { D with nx:=u D } I h) fun f s1 q=>?_)
 cases f with
 | next =>
  obtain⟨σ',H',I',q⟩:=q
  exact h2 pins s1 σ' H' D I' q
 | ret v=>exact q
 | brk=>exact q
 | cont=>exact q
theorem pss_one (h1:PS X st t):PSs X [st] t:=by
 intro pins s σ H D I h
 refine wpAny_execs_cons (thn (h1 pins s σ H D I h) fun f s1 q=>?_)
 cases f with
 | next=>exact wpAny_execs_nil q
 | ret v=>exact q
 | brk=>exact q
 | cont=>exact q
def afv:TS:=fun D σ H=>D.ct σ H
theorem agb:PS X (.Pass pos) tNext:=fun _ _ σ H _ I h=>wpAny_Pass ⟨σ,H,I,h⟩
theorem Zm:PS X (.Continue pos) afv:=fun _ _ σ H _ I h=>wpAny_Continue ⟨σ,H,I,h⟩
theorem Inv.quiet {pins:List (Addr×Obj)}{σ:St}{H:Hp}{s:Shared} (I:Inv X pins σ H s):interactive X.env=false:=by simp [interactive,I.ok.kind]
def tDrop (te:TE):TS:=fun D σ H=>te σ H fun _ H1=>D.nx σ H1
theorem ps_expr (he:PE X e te) (hs:swapsWith e none pos.line X.env=pure false:=by rfl):PS X (.Expr e pos) (tDrop te):=by
 intro pins s σ H D I h
 exact wpAny_Expr_any (thn (he pins s σ H _ I h) fun v s1 ⟨x,H1,I1,r1,q1⟩=>⟨σ,H1,I1,q1⟩) I.quiet hs
def tRet (te:TE):TS:=fun D σ H=>te σ H D.rt
theorem ps_ret (he:PE X e te):PS X (.Return (some e) pos) (tRet te):=by
 intro pins s σ H D I h
 exact wpAny_Return_some (thn (he pins s σ H _ I h) fun v s1 ⟨x,H1,I1,r1,q1⟩=>⟨x,σ,H1,I1,r1,q1⟩)
def afs:TS:=fun D _ H=>D.rt .non H
theorem aga:PS X (.Return none pos) afs:=fun _ _ σ H _ I h=>wpAny_Return_none ⟨.non,σ,H,I,rfl,h⟩
def tIfS (c:TT) (t u:TS):TS:=fun D σ H=>c σ H fun b H1=>if b=true then t D σ H1 else u D σ H1
theorem ps_if {c:Expr}{a b:List Stmt}{tc:TT} (hc:PT X c tc) (ha:PSs X a t) (hb:PSs X b u):PS X (.If c a b pos) (tIfS tc t u):=by
 intro pins s σ H D I h
 refine wpAny_If (thn (hc pins s σ H _ I h) fun d s1 ⟨H1,I1,q1⟩=>?_)
 cases d with
 | true=>exact ha pins s1 σ H1 D I1 q1
 | false=>exact hb pins s1 σ H1 D I1 q1
def acM:TS:=fun _ _ _=>False
theorem aey:PS X st acM:=fun _ _ _ _ _ _ h=>h.elim
end
abbrev TG:=V→St→Hp→(St→Hp→Prop)→Prop
abbrev TGs:=List V→St→Hp→(St→Hp→Prop)→Prop
def PG (X:Cx) (target:Expr) (t:TG):Prop :=
 ∀ (pins:List (Addr×Obj)) (s:Shared) (σ:St) (H:Hp) (v:V) (u:Value) (Q:St→Hp→Prop),Inv X pins σ H s→RelV v u→t v σ H Q →
  wpAny (model X.prog X.w) X.A (assign target X.env u) (fun _ s'=>∃ σ' H',Inv X pins σ' H' s'∧Q σ' H') X.xe s
def PGs (X:Cx) (ts:List Expr) (t:TGs):Prop :=
 ∀ (pins:List (Addr×Obj)) (s:Shared) (σ:St) (H:Hp) (vs:List V) (us:List Value) (Q:St→Hp→Prop),Inv X pins σ H s→Vals vs us→t vs σ H Q →
  wpAny (model X.prog X.w) X.A (assignInOrder ((assignEach ts X.env).map (·.2)) us) (fun _ s'=>∃ σ' H',Inv X pins σ' H' s'∧Q σ' H') X.xe s
abbrev Pa:=V→V→V→Hp→(Hp→Prop)→Prop
def YW (X:Cx) (t:Pa):Prop :=
 ∀ (pins:List (Addr×Obj)) (s:Shared) (σ:St) (H:Hp) (o i v:V) (ov iv u:Value) (Q:Hp→Prop),Inv X pins σ H s→RelV o ov→RelV i iv→RelV v u→t o i v H Q →
  wpAny (model X.prog X.w) X.A (setItem ov iv u) (fun _ s'=>∃ H',Inv X pins σ H' s'∧Q H') X.xe s
abbrev TIp:=V→V→Hp→VK→Prop
def PIp (X:Cx) (op:Operator) (t:TIp):Prop :=
 ∀ (pins:List (Addr×Obj)) (s:Shared) (σ:St) (H:Hp) (x y:V) (v u:Value) (Q:VK),Inv X pins σ H s→RelV x v→RelV y u→t x y H Q →
  wpAny (model X.prog X.w) X.A (inplaceOp op v u) (EP X pins σ Q) X.xe s
section
variable {X:Cx}{pos:Pos}
def gName (i:Nat):TG:=fun v σ H Q=>Q (σ.set i (some v)) H
theorem pg_name {i:Nat}{x:Str} (hN:X.N.Nodup) (hi:X.N[i]?=some x) (hx:Loc X.env.scope x) (hf:X.fn x=true∨X.env.scope.names.lookup x=some .local:=by first | exact .inl rfl | exact .inr rfl | assumption):PG X (.Name x pos) (gName i):=by
 intro pins s σ H v u Q I r h
 exact wpAny_assign_Name (store_ok I hN hi hx r (fun s' I'=>⟨_,H,I',h⟩) hf)
def aiu:TGs:=fun vs σ H Q=>vs=[]∧Q σ H
def afK (t:TG) (u:TGs):TGs:=fun vs σ H Q=>∃ v r,vs=v::r∧t v σ H fun σ' H'=>u r σ' H' Q
theorem agj:PGs X [] aiu:=by
 intro pins s σ H vs us Q I r h
 obtain⟨e,h⟩:=h
 subst e
 cases r
 exact assignInOrder_nil ⟨σ,H,I,h⟩
theorem aeA {e:Expr}{es:List Expr}{t:TG}{u:TGs} (h1:PG X e t) (h2:PGs X es u)
  (hs:(assignEach (e::es) X.env).map (·.2)=assign e X.env::(assignEach es X.env).map (·.2):=by rfl):PGs X (e::es) (afK t u):=by
 intro pins s σ H vs us Q I r h
 obtain⟨v,vr,e1,h⟩:=h
 subst e1
 cases r with
 | cons r rr =>
  rw [hs]
  refine assignInOrder_cons (thn (h1 pins s σ H _ _ _ I r h) fun _ s1 ⟨σ1,H1,I1,q1⟩=>?_)
  exact h2 pins s1 σ1 H1 _ _ Q I1 rr q1
def ais (K:PySem.W.Frag) (n:Nat) (t:TGs):TG:=fun v σ H Q=>∃ a xs,v=.ref a∧SqT K H a xs∧xs.length=n∧t xs σ H Q
theorem ahL {es:List Expr}{k:Nat}{t:TGs}{n:Nat} (hc:X.calm=true) (h:PGs X es t)
  (hn:(assignEach es X.env).length=n:=by rfl) (hst:(assignEach es X.env).findIdx? (·.1)=none:=by rfl):PG X (.Tuple es k pos) (ais X.K n t):=by
 intro pins s σ H v u Q I r hw
 obtain⟨a,xs,e1,hq,hl,hw⟩:=hw
 subst e1
 cases r
 obtain⟨its,rv,ht,hz⟩:=I.tuple hq
 refine assign_Tuple_tuple (I.ok.hd hc) ht (by simp [hn,← hl,rv.length]) hst fun h' hx=>?_
 have I1:Inv X pins σ H { s with heap:=h' }:=I.kept (t':=s.toks) fun b o e=>hx b o (Nat.ne_of_lt (Heap.lt_size e)) e
 exact h pins _ σ H xs _ Q I1 (by simpa using rv) hw
def ait (to ti:TE) (t:Pa):TG:=fun v σ H Q=>to σ H fun o H1=>ti σ H1 fun i H2=>t o i v H2 fun H3=>Q σ H3
theorem ahM {o i:Expr}{to ti:TE}{t:Pa} (ho:PE X o to) (hi:PE X i ti) (hs:YW X t)
  (ha:∀ v,assign (.Subscript o i pos) X.env v=(do
   let ov ← holding [v] (eval o X.env)
   let iv ← holding [v,ov] (eval i X.env)
   standAt pos
   holding [v,ov,iv] (setItem ov iv v)
   release [v,ov,iv] []):=by intro _; rfl):PG X (.Subscript o i pos) (ait to ti t):=by
 intro pins s σ H v u Q I r h
 rw [ha]
 refine wpAny_bind (wpAny_holding (thn (ho pins s σ H _ I h) fun ov s1 ⟨x,H1,I1,r1,q1⟩=>?_))
 refine wpAny_bind (wpAny_holding (thn (hi pins s1 σ H1 _ I1 q1) fun iv s2 ⟨y,H2,I2,r2,q2⟩=>?_))
 refine wpAny_bind (wpAny_standAt (wpAny_bind (wpAny_holding (thn (hs pins s2 σ H2 x y v ov iv u _ I2 r1 r2 r q2) fun _ s3 ⟨H3,I3,q3⟩=>?_))))
 exact wpAny_release ⟨σ,H3,I3,q3⟩
def tAsg (te:TE) (g:TG):TS:=fun D σ H=>te σ H fun x H1=>g x σ H1 D.nx
theorem ahJ {tg e:Expr}{te:TE}{g:TG} (he:PE X e te) (hg:PG X tg g) (hs:swapsWithSole [tg] e pos.line X.env=pure false:=by rfl) (hw:swappedStores [tg] e X.env=pure none:=by rfl)
  (h1:(assignEach [tg] X.env).map (·.2)=[assign tg X.env]:=by rfl):PS X (.Assign [tg] e pos) (tAsg te g):=by
 intro pins s σ H D I h
 refine wpAny_Assign_stores (thn (he pins s σ H _ I h) fun v s1 ⟨x,H1,I1,r1,q1⟩=>?_) hs hw
 rw [h1]
 exact thn (hg pins s1 σ H1 x v _ I1 r1 q1) fun _ s2 q=>q
theorem ps_set {i:Nat}{x:Str}{e:Expr}{te:TE}{pos':Pos} (hN:X.N.Nodup) (hi:X.N[i]?=some x) (hx:Loc X.env.scope x) (he:PE X e te) (hs:swapsWith e (some (.Name x pos')) pos.line X.env=pure false:=by rfl) (hf:X.fn x=true∨X.env.scope.names.lookup x=some .local:=by first | exact .inl rfl | exact .inr rfl | assumption) :
  PS X (.Assign [.Name x pos'] e pos) (tAsg te (gName i)):=by
 intro pins s σ H D I h
 refine wpAny_Assign_Name (thn (he pins s σ H _ I h) fun v s1 ⟨y,H1,I1,r1,q1⟩=>?_) hs
 exact store_ok I1 hN hi hx r1 (fun s2 I2=>⟨_,H1,I2,q1⟩) hf
def ahg (i:Nat) (te:TE) (ti:TIp):TS:=fun D σ H=>∃ x,σ[i]?=some (some x)∧te σ H fun y H1=>ti x y H1 fun z H2=>D.nx (σ.set i (some z)) H2
theorem ahI {i:Nat}{x:Str}{e:Expr}{te:TE}{op:Operator}{ti:TIp}{pos':Pos} (hN:X.N.Nodup) (hi:X.N[i]?=some x) (hx:Loc X.env.scope x) (he:PE X e te) (ho:PIp X op ti) (hf:X.fn x=true∨X.env.scope.names.lookup x=some .local:=by first | exact .inl rfl | exact .inr rfl | assumption) :
  PS X (.AugAssign (.Name x pos') op e pos) (ahg i te ti):=by
 intro pins s σ H D I h
 obtain⟨v,e1,h⟩:=h
 obtain⟨m,hn,hl⟩:=I.loc
 have vis:Vis X.env.scope x:=by rcases hx with k | k; exact .inl k; exact .inr (.inl k)
 obtain⟨u,r,l⟩:=hl i x v hi e1 vis
 refine wpAny_AugAssign_Name ?_
 have go:wpAny (model X.prog X.w) X.A (eval e X.env) (fun w s₂=>wpAny (model X.prog X.w) X.A (inplaceOp op u w) (fun r s₃=>wpAny (model X.prog X.w) X.A (storeName X.env x r) (fun _=>SP X pins D .next) X.xe s₃) X.xe s₂) X.xe s:=by
  refine thn (he pins s σ H _ I h) fun w s1 ⟨y,H1,I1,r1,q1⟩=>?_
  refine thn (ho pins s1 σ H1 v y u w _ I1 r r1 q1) fun z s2 ⟨zv,H2,I2,r2,q2⟩=>?_
  exact store_ok I2 hN hi hx r2 (fun s3 I3=>⟨_,H2,I3,q2⟩) hf
 rcases l with⟨hk,hm⟩ | ⟨hk,c,hc,hcell⟩
 ·exact wpAny_loadName_local I.ok.kind hk hn hm go
 ·rcases hk with hk | hk
  ·exact wpAny_loadName_cell I.ok.kind hk hc hcell go
  ·rcases hx with k | k
   ·have:X.env.scope.names.lookup x=some .free:=hk
    rw [k] at this; cases this
   ·have:X.env.scope.names.lookup x=some .free:=hk
    rw [k] at this; cases this
def afw (to ti te:TE) (Ls:V→V→Hp→VK→Prop) (tip:TIp) (Lr:Pa):TS:=fun D σ H=>to σ H fun o H1=>ti σ H1 fun i H2=>Ls o i H2 fun x H3=>te σ H3 fun y H4=>tip x y H4 fun z H5=>Lr o i z H5 fun H6=>D.nx σ H6
def afk (X:Cx) (t:V→V→Hp→VK→Prop):Prop :=
 ∀ (pins:List (Addr×Obj)) (s:Shared) (σ:St) (H:Hp) (o i:V) (ov iv:Value) (Q:VK),Inv X pins σ H s→RelV o ov→RelV i iv→t o i H Q →
  wpAny (model X.prog X.w) X.A (getItem ov iv) (EP X pins σ Q) X.xe s
theorem agc {o i e:Expr}{to ti te:TE}{Ls:V→V→Hp→VK→Prop}{tip:TIp}{Lr:Pa}{op:Operator}{tpos:Pos} (ho:PE X o to) (hi:PE X i ti) (hg:afk X Ls) (he:PE X e te) (hp:PIp X op tip) (hs:YW X Lr)
  (ha:∀ ov iv new,augStore i ov iv new=(do holding [new,ov,iv] (setItem ov iv new); release [new,ov,iv] []; pure .next):=by intros; rfl):PS X (.AugAssign (.Subscript o i tpos) op e pos) (afw to ti te Ls tip Lr):=by
 intro pins s σ H D I h
 refine wpAny_AugAssign_SubscriptAny (thn (ho pins s σ H _ I h) fun ov s1 ⟨x1,H1,I1,r1,q1⟩=>?_) ha
 refine thn (hi pins s1 σ H1 _ I1 q1) fun iv s2 ⟨x2,H2,I2,r2,q2⟩=>?_
 refine thn (hg pins s2 σ H2 x1 x2 ov iv _ I2 r1 r2 q2) fun old s3 ⟨x3,H3,I3,r3,q3⟩=>?_
 refine thn (he pins s3 σ H3 _ I3 q3) fun v s4 ⟨x4,H4,I4,r4,q4⟩=>?_
 refine thn (hp pins s4 σ H4 x3 x4 old v _ I4 r3 r4 q4) fun new s5 ⟨x5,H5,I5,r5,q5⟩=>?_
 exact thn (hs pins s5 σ H5 x1 x2 x5 ov iv new _ I5 r1 r2 r5 q5) fun _ s6 ⟨H6,I6,q6⟩=>⟨σ,H6,I6,q6⟩
def ipI (f:Int→Int→Int):TIp:=fun x y H Q=>∃ i j,x=.int i∧y=.int j∧Q (.int (f i j)) H
theorem Jc:PIp X .Add (ipI fun i j=>i+j):=by
 intro pins s σ H x y v u Q I r1 r2 h
 obtain⟨i,j,e1,e2,q⟩:=h
 subst e1; subst e2
 obtain⟨t,rfl⟩:=r1
 obtain⟨t',rfl⟩:=r2
 exact iadd_int ⟨.int _,H,I.tok _,⟨_,rfl⟩,q⟩
end
section
variable {X:Cx}{pos:Pos}
def xu (c:TT) (tb:TS):TS:=fun D σ H=>∃ W:Nat→St→Hp→Prop,(∃ m,W m σ H)∧∀ m σ H,W m σ H →
 c σ H fun b H1=>if b=true then ∃ N:St→Hp→Prop,(∀ σ' H',N σ' H'→∃ m',m'<m∧W m' σ' H')∧tb { D with nx:=N,ct:=N,bk:=D.nx } σ H1 else D.nx σ H1
theorem aew {c:Expr}{body:List Stmt}{tc:TT}{tb:TS} (hp:PassesOwn (model X.prog X.w) X.A X.env X.xe) (hc:PT X c tc) (hb:PSs X body tb):PS X (.While c body [] pos) (xu tc tb):=by
 intro pins s σ H D I h
 obtain⟨W,⟨m0,w0⟩,turn⟩:=h
 refine wpAny_While (codeAny_whileLoop (fun n s'=>∃ σ' H',Inv X pins σ' H' s'∧W n σ' H') ?_ m0 ⟨σ,H,I,w0⟩)
 rintro n s1 ⟨σ1,H1,I1,w1⟩
 refine wpAny_passesOwn hp (thn (hc pins s1 σ1 H1 _ I1 (turn n σ1 H1 w1)) fun b s2 ⟨H2,I2,q2⟩=>?_)
 cases b with
 | true =>
  obtain⟨N,hN,q2⟩:=q2
  rw [if_pos rfl]
  refine wpAny_passesOwn hp (thn (hb pins s2 σ1 H2 _ I2 q2) fun f s3 q3=>?_)
  cases f with
  | next =>
   obtain⟨σ3,H3,I3,n3⟩:=q3
   obtain⟨m',hm,w3⟩:=hN σ3 H3 n3
   exact⟨m',hm,σ3,H3,I3,w3⟩
  | cont =>
   obtain⟨σ3,H3,I3,n3⟩:=q3
   obtain⟨m',hm,w3⟩:=hN σ3 H3 n3
   exact⟨m',hm,σ3,H3,I3,w3⟩
  | brk=>exact q3
  | ret v=>exact q3
 | false =>
  rw [if_neg Bool.false_ne_true]
  exact wpAny_execs_nil ⟨σ1,H2,I2,q2⟩
end
structure It where
 go:Nat→Hp→Prop
 yld:Nat→Hp→V→Hp→Prop
 stop:Nat→Hp→Prop
def FpOk (X:Cx) (pins:List (Addr×Obj)) (H:Hp) (b:Addr):Prop :=
 H b=none∧b≠X.env.locals∧b ∉ X.fs∧(b∈X.ex∨X.s₀.heap.objs.size≤b)∧(∀ x c,X.env.cells.lookup x=some c→c≠b)∧∀ p∈X.pn++pins,p.1≠b
theorem Inv.fpOk {X:Cx}{pins:List (Addr×Obj)}{σ:St}{H H':Hp}{s:Shared}{b:Addr} (I:Inv X pins σ H s) (hb:s.heap.objs.size≤b) (hn:H' b=none):FpOk X pins H' b:=by
 refine⟨hn,Nat.ne_of_gt (Nat.lt_of_lt_of_le I.lt hb),I.nofs hb,.inr (Nat.le_trans I.sz hb),fun x c e z=>?_,fun p hp z=>?_⟩
 ·obtain⟨v,q⟩:=I.cell x c e
  exact absurd (Nat.lt_of_lt_of_le q.lt (by rw [z]; exact hb)) (Nat.lt_irrefl _)
 ·exact absurd (Nat.lt_of_lt_of_le (Heap.lt_size (I.pin p hp).1) (by rw [z]; exact hb)) (Nat.lt_irrefl _)
structure Turn (P:Program) (w:World) (K:PySem.W.Frag) (tg:Expr) (J:It) (fp:List Addr) (it:Addr) (tn:Nat→Heap→Prop):Prop where
 mem:it∈fp
 obj:∀ i h,tn i h→∀ b∈fp,∃ o,h.get? b=some o∧∀ v,o.data≠.cell v
 keep:∀ i h h',tn i h→(∀ b∈fp,∀ o,h.get? b=some o→h'.get? b=some o)→tn i h'
 item:∀ (X:Cx),X.prog=P→X.w=w→X.K=K→X.calm=true→∀ (i:Nat) (pins:List (Addr×Obj)) (s:Shared) (σ:St) (H:Hp) (E:Value→Shared→Prop),Inv X pins σ H s→(∀ b∈fp,FpOk X pins H b)→tn i s.heap→J.go i H →
  wpAny (model P w) X.A (pyNext (.ref it)) (fun r s1=>∃ u,r=some u ∧
   wpAny (model P w) X.A (letOwnedTupleGo tg (.ref it) u) (fun _ s2=>∃ x H',Inv X pins σ H' s2∧RelV x u∧J.yld i H x H'∧tn (i+1) s2.heap∧∀ b∈fp,H' b=none) E s1) E s
 done:∀ (X:Cx),X.prog=P→X.w=w→X.K=K→X.calm=true→∀ (i:Nat) (pins:List (Addr×Obj)) (s:Shared) (σ:St) (H:Hp) (E:Value→Shared→Prop),Inv X pins σ H s→(∀ b∈fp,FpOk X pins H b)→tn i s.heap→J.stop i H →
  wpAny (model P w) X.A (pyNext (.ref it)) (fun r s1=>r=none∧Inv X pins σ H s1) E s
 self:∀ (A:Around) (i:Nat) (s:Shared) (Q:Value→Shared→Prop) (E:Value→Shared→Prop),tn i s.heap→Q (.ref it) s→wpAny (model P w) A (pyIter (.ref it)) Q E s
abbrev TI:=St→Hp→(It→Hp→Prop)→Prop
def PIE (X:Cx) (pins:List (Addr×Obj)) (σ:St) (tg:Expr) (R:It→Hp→Prop) (itv:Value) (s2:Shared):Prop :=
 ∃ (it:Addr) (fp:List Addr) (tn:Nat→Heap→Prop) (J:It) (H':Hp),itv=.ref it∧Inv X pins σ H' s2∧Turn X.prog X.w X.K tg J fp it tn∧tn 0 s2.heap∧(∀ b∈fp,FpOk X pins H' b)∧R J H'
def PI (X:Cx) (tg iter:Expr) (wi:TI):Prop :=
 ∀ (pins:List (Addr×Obj)) (s:Shared) (σ:St) (H:Hp) (R:It→Hp→Prop),Inv X pins σ H s→wi σ H R →
  wpAny (model X.prog X.w) X.A (eval iter X.env) (fun v s1=>wpAny (model X.prog X.w) X.A (pyIter v) (PIE X pins σ tg R) X.xe s1) X.xe s
theorem go_of {M:Model}{A:Around}{E:Value→Shared→Prop}{s:Shared}{tg:Expr}{it:Addr}{u:Value}{o:Obj}{n:String}{vs:Array Value}{Q:Unit→Shared→Prop} (ho:s.heap.get? it=some o) (hc:o.cls=.type n) (hd:o.data=.fields vs)
  (hn:["enumerate","zip","dict_itemiterator","dict_reverseitemiterator","odict_iterator","itertools.zip_longest","itertools.pairwise"].contains n=false) (hQ:Q () s):wpAny M A (letOwnedTupleGo tg (.ref it) u) Q E s:=by
 unfold letOwnedTupleGo
 cases tg <;> first
  | exact wpAny_pure hQ
  | (cases u <;> first
    | exact wpAny_pure hQ
    | (refine wpAny_bind (wpAny_load ho ?_);rw [hc,hd];show wpAny M A (if (["enumerate","zip","dict_itemiterator","dict_reverseitemiterator","odict_iterator","itertools.zip_longest","itertools.pairwise"].contains n && vs[0]? == some (rawInt _))=true then _ else _) Q E s;rw [if_neg (by intro h; rw [hn,Bool.false_and] at h; cases h)];exact wpAny_pure hQ))
def Itl (K:PySem.W.Frag) (a:Addr):It :=
 ⟨fun i H=>∃ xs x,SqL K H a xs∧xs[i]?=some x,fun i H x H'=>H'=H∧∀ xs,SqL K H a xs→xs[i]?=some x,fun i H=>∃ xs,SqL K H a xs∧xs.length≤i⟩
def Itr (lo:Int) (n:Nat):It:=⟨fun i _=>i<n,fun i H x H'=>H'=H∧x=.int (lo+i),fun i _=>n≤i⟩
theorem turn_list {P:Program}{w:World}{K:PySem.W.Frag}{tg:Expr} (a it:Addr):Turn P w K tg (Itl K a) [it] it (fun i h=>h.IsListIter it a i) where
 mem:=by simp
 obj:=fun i h st b hb=>by
  have e:b=it:=by simpa using hb
  subst e
  obtain⟨o,e,c,d⟩:=st
  exact⟨o,e,fun v z=>by rw [d] at z; cases z⟩
 keep:=fun i h h' st k=>st.at fun o e=>k it (by simp) o e
 item:=by
  intro X hP hw hK hc i pins s σ H E I hf st hg
  subst hP hw hK
  obtain⟨xs,x,hq,hx⟩:=hg
  obtain⟨its,rv,p,hz⟩:=I.list hq
  obtain⟨u,hu,ru⟩:=rv.get hx
  obtain⟨f0,f1,f2,f3,f4,f5⟩:=hf it (by simp)
  refine wpAny_pyNext_list_item st p.isList (x:=u) (by simpa using hu) fun h' st' sb=>?_
  have I1:Inv X pins σ H { s with heap:=h' }:=I.turned (t':=s.toks) (fun b o hb e=>(sb.2 b hb).trans e) f0 f1 f3 f4 f5
  obtain⟨o,e,c,d⟩:=id st'
  exact⟨u,rfl,go_of (s:={ s with heap:=h' }) e c d (by decide) ⟨x,H,I1,ru,⟨rfl,fun ys hy=>by rw [I.list_inj hy hq]; exact hx⟩,st',fun b hb=>(hf b hb).1⟩⟩
 done:=by
  intro X hP hw hK hc i pins s σ H E I hf st hg
  subst hP hw hK
  obtain⟨xs,hq,hx⟩:=hg
  obtain⟨its,rv,p,hz⟩:=I.list hq
  obtain⟨f0,f1,f2,f3,f4,f5⟩:=hf it (by simp)
  have hl:=rv.length
  exact wpAny_pyNext_list_end (I.ok.hd hc) st p.isList (by simp; lia) fun h' eb=>⟨rfl,I.turned (t':=s.toks) (fun b o hb e=>eb b o hb e) f0 f1 f3 f4 f5⟩
 self:=fun _ _ _ _ _ st h=>wpAny_pyIter_listiter st h
theorem aa3 {P:Program}{w:World}{K:PySem.W.Frag}{tg:Expr} (it:Addr) (lo:Int) (n:Nat):Turn P w K tg (Itr lo n) [it] it (fun i h=>IsRangeIter h it (lo+(i:Nat) * 1) ((n:Int) - (i:Nat)) 1) where
 mem:=by simp
 obj:=fun i h st b hb=>by
  have e:b=it:=by simpa using hb
  subst e
  exact⟨_,st,fun v z=>by
   have z':Data.fields _=Data.cell v:=z
   cases z'⟩
 keep:=fun i h h' st k=>k it (by simp) _ st
 item:=by
  intro X hP hw hK hc i pins s σ H E I hf st hg
  subst hP hw hK
  obtain⟨f0,f1,f2,f3,f4,f5⟩:=hf it (by simp)
  have W:=Walks.range (prog:=X.prog) (w:=X.w) (I.ok.hd hc) it lo 1 n
  refine W.item i s _ _ hg st fun v h' tk hv st' kk=>?_
  obtain⟨t,rfl⟩:=hv
  have I1:Inv X pins σ H { s with heap:=h',toks:=tk }:=I.turned (fun b o hb e=>kk b o (by simpa using hb) e) f0 f1 f3 f4 f5
  refine⟨_,rfl,go_of (s:={ s with heap:=h',toks:=tk }) (n:="range_iterator") st' rfl rfl (by decide) ⟨.int (lo+i),H,I1,⟨t,?_⟩,⟨rfl,rfl⟩,st',fun b hb=>(hf b hb).1⟩⟩
  rw [Int.mul_one]
 done:=by
  intro X hP hw hK hc i pins s σ H E I hf st hg
  subst hP hw hK
  obtain⟨f0,f1,f2,f3,f4,f5⟩:=hf it (by simp)
  exact wpAny_pyNext_range_end (I.ok.hd hc) st (by have:n≤i:=hg; lia) fun h' eb=>⟨rfl,I.turned (t':=s.toks) (fun b o hb e=>eb b o hb e) f0 f1 f3 f4 f5⟩
 self:=fun _ _ _ _ _ st h=>wpAny_pyIter_rangeiter st h
section
variable {X:Cx}{tg:Expr}
def iList (K:PySem.W.Frag) (tl:TE):TI:=fun σ H R=>tl σ H fun x H1=>∃ a,x=.ref a∧(∃ xs,SqL K H1 a xs)∧R (Itl K a) H1
theorem pi_list {l:Expr}{tl:TE} (hl:PE X l tl):PI X tg l (iList X.K tl):=by
 intro pins s σ H R I h
 refine thn (hl pins s σ H _ I h) fun v s1 ⟨x,H1,I1,r1,q1⟩=>?_
 obtain⟨a,e,⟨xs,hq⟩,q⟩:=q1
 subst e
 cases r1
 obtain⟨its,rv,p,hz⟩:=I1.list hq
 refine wpAny_pyIter_list p.isList ?_
 refine⟨s1.heap.objs.size,[s1.heap.objs.size],_,_,H1,rfl,I1.kept (t':=s1.toks) fun b o e=>Heap.get?_push_of_some _ e,turn_list a _,⟨_,Heap.get?_push_size _ rfl,rfl,rfl⟩,fun b hb=>?_,q⟩
 have e:b=s1.heap.objs.size:=by simpa using hb
 subst e
 exact I1.fpOk (Nat.le_refl _) (I1.hok.fresh (Nat.le_refl _))
theorem aep {pins:List (Addr×Obj)}{σ:St}{H:Hp}{s:Shared}{R:It→Hp→Prop}{E:Value→Shared→Prop}{lo hi:Int}{t u v:Tok}{tk:Nat} (I:Inv X pins σ H s) (h1:-(2 ^ 62)≤lo) (h2:lo<2 ^ 62) (h3:-(2 ^ 62)≤hi) (h4:hi<2 ^ 62)
  (q:R (Itr lo (hi - lo).toNat) H):wpAny (model X.prog X.w) X.A (pyIter (.ref s.heap.objs.size)) (PIE X pins σ tg R) E { s with heap:=s.heap.push { cls:=.type "range",data:=.fields #[.int lo t,.int hi u,.int 1 v] },toks:=tk }:=by
 refine wpAny_pyIter_range (IsRange.new ..) (small_one h1 h2 h3 h4) ?_
 have I1:Inv X pins σ H { s with heap:=s.heap.push { cls:=.type "range",data:=.fields #[.int lo t,.int hi u,.int 1 v] },toks:=tk }:=I.kept fun b o e=>Heap.get?_push_of_some _ e
 refine⟨(s.heap.push { cls:=.type "range",data:=.fields #[.int lo t,.int hi u,.int 1 v] }).objs.size,[(s.heap.push { cls:=.type "range",data:=.fields #[.int lo t,.int hi u,.int 1 v] }).objs.size],_,_,H,rfl,
  I1.kept (t':=tk) fun b o e=>Heap.get?_push_of_some _ e,aa3 _ lo (hi - lo).toNat,?_,fun b hb=>?_,q⟩
 ·have e1:lo+((0:Nat):Int) * 1=lo:=by simp
  have e2:(((hi - lo).toNat:Nat):Int) - ((0:Nat):Int)=Builtin.Range.rangeSize lo hi 1:=by rw [rangeSize_one]; split <;> lia
  show IsRangeIter _ _ (lo+((0:Nat):Int) * 1) ((((hi - lo).toNat:Nat):Int) - ((0:Nat):Int)) 1
  rw [e1,e2]
  exact Heap.get?_push_size _ rfl
 ·have e:b=(s.heap.push { cls:=.type "range",data:=.fields #[.int lo t,.int hi u,.int 1 v] }).objs.size:=by simpa using hb
  subst e
  exact I1.fpOk (Nat.le_refl _) (I1.hok.fresh (Nat.le_refl _))
def afF (ta:TA):TI:=fun σ H R=>ta σ H fun vs H1=>∃ j:Int,vs=[.int j]∧-(2 ^ 62)≤j∧j<2 ^ 62∧R (Itr 0 j.toNat) H1
theorem ac9 {a:Expr}{ta:TA}{p pos:Pos} (hg:Gl X "range") (hm:X.mg "range"=none) (ha:PA X [a] ta) (hs:starEach [a] X.env=[(false,eval a X.env)]:=by rfl):PI X tg (.Call (.Name "range" p) [a] [] pos) (afF ta):=by
 intro pins s σ H R I h
 refine Call_ (ld_blt I hg hm boot_range (PyProof.Rows.callWith_type1 (thn (ha pos pins s σ H _ I h) fun us s1 ⟨vs,H1,I1,r1,q1⟩=>?_) hs rfl))
 obtain⟨j,e,q1,q2,q⟩:=q1
 subst e
 cases r1 with
 | cons r rr =>
  cases rr
  obtain⟨t,rfl⟩:=r
  exact call_range_1 (aep I1 (by lia) (by lia) q1 q2 (by simpa using q))
def tFor (wi:TI) (g:TG) (tb:TS):TS:=fun D σ H=>wi σ H fun J H1=>∃ W:Nat→Nat→St→Hp→Prop,(∃ m,W 0 m σ H1)∧∀ i m σ H,W i m σ H →
 (J.stop i H∧D.nx σ H)∨(J.go i H∧∃ N:St→Hp→Prop,(∀ σ' H',N σ' H'→∃ m',m'<m∧W (i+1) m' σ' H')∧∀ x H',J.yld i H x H'→g x σ H' fun σ2 H2=>tb { D with nx:=N,ct:=N,bk:=D.nx } σ2 H2)
def pinsAt (fp:List Addr) (h:Heap):List (Addr×Obj):=fp.filterMap fun b=>(h.get? b).map fun o=>(b,o)
theorem mem_pinsAt {fp:List Addr}{h:Heap}{b:Addr}{o:Obj} (hb:b∈fp) (e:h.get? b=some o):(b,o)∈pinsAt fp h:=List.mem_filterMap.mpr ⟨b,hb,by rw [e]; rfl⟩
theorem of_pinsAt {fp:List Addr}{h:Heap}{p:Addr×Obj} (hp:p∈pinsAt fp h):p.1∈fp∧h.get? p.1=some p.2:=by
 obtain⟨b,hb,e⟩:=List.mem_filterMap.mp hp
 cases q:h.get? b with
 | none=>rw [q] at e; cases e
 | some o =>
  rw [q] at e
  have e':(b,o)=p:=Option.some.inj e
  subst e'
  exact⟨hb,q⟩
theorem Inv.pinned {pins:List (Addr×Obj)}{σ:St}{H:Hp}{s:Shared}{fp:List Addr} (I:Inv X pins σ H s) (hf:∀ b∈fp,FpOk X pins H b) (ho:∀ b∈fp,∃ o,s.heap.get? b=some o∧∀ v,o.data≠.cell v):Inv X (pins++pinsAt fp s.heap) σ H s :=
 I.pins_of fun p hp=>(List.mem_append.mp hp).elim (fun z=>I.pin p (List.mem_append_right _ z)) fun z=>by
  obtain⟨hb,e⟩:=of_pinsAt z
  obtain⟨f0,f1,f2,_⟩:=hf p.1 hb
  obtain⟨o,e',d⟩:=ho p.1 hb
  rw [e] at e'; cases e'
  exact⟨e,f0,f1,f2,d⟩
theorem Inv.unpinned {pins pl:List (Addr×Obj)}{σ:St}{H:Hp}{s:Shared} (I:Inv X (pins++pl) σ H s):Inv X pins σ H s:=I.pins_of fun p hp=>I.pin p (List.mem_append_right _ (List.mem_append_left _ hp))
theorem ps_for {iter:Expr}{body:List Stmt}{wi:TI}{g:TG}{tb:TS}{pos:Pos} (hp:PassesOwn (model X.prog X.w) X.A X.env X.xe) (hc:X.calm=true) (hi:PI X tg iter wi) (hg:PG X tg g) (hb:PSs X body tb)
  (hs:∀ x,foldedSetIterable iter X.env x=pure x:=by intro _; rfl):PS X (.For tg iter body [] pos) (tFor wi g tb):=by
 intro pins s σ H D I h
 refine wpAny_For (thn (hi pins s σ H _ I h) fun v s1 h1=>thn h1 fun itv s2 h2=>?_) hs
 obtain⟨it,fp,tn,J,H2,e,I2,T,st2,f2,W,⟨m0,w0⟩,turn⟩:=h2
 subst e
 have stat:∀ {H':Hp},(∀ b∈fp,H' b=none)→∀ b∈fp,FpOk X pins H' b:=fun hn b hb=>⟨hn b hb,(f2 b hb).2⟩
 refine codeAny_forLoop_any (fun n s'=>∃ i σ' H',Inv X pins σ' H' s'∧tn i s'.heap∧(∀ b∈fp,H' b=none)∧W i n σ' H') ?_ m0 ⟨0,σ,H2,I2,st2,fun b hb=>(f2 b hb).1,w0⟩
 rintro n s3 ⟨i,σ3,H3,I3,st3,fr3,w3⟩
 rcases turn i n σ3 H3 w3 with⟨stop,qn⟩ | ⟨go,N,hN,step⟩
 ·refine wpAny_passesOwn hp (thn (T.done X rfl rfl rfl hc i pins s3 σ3 H3 X.xe I3 (stat fr3) st3 stop) fun r s4 ⟨hr,I4⟩=>?_)
  subst hr
  exact wpAny_execs_nil ⟨σ3,H3,I4,qn⟩
 ·refine wpAny_passesOwn hp (thn (T.item X rfl rfl rfl hc i pins s3 σ3 H3 X.xe I3 (stat fr3) st3 go) fun r s4 ⟨u,hr,h4⟩=>?_)
  subst hr
  refine wpAny_passesOwn hp (thn h4 fun _ s5 ⟨x,H5,I5,r5,y5,st5,fr5⟩=>?_)
  have I5':=I5.pinned (stat fr5) (T.obj _ _ st5)
  refine wpAny_passesOwn hp (thn (hg _ s5 σ3 H5 x u _ I5' r5 (step x H5 y5)) fun _ s6 ⟨σ6,H6,I6,q6⟩=>?_)
  refine wpAny_passesOwn hp (thn (hb _ s6 σ6 H6 _ I6 q6) fun f s7 q7=>?_)
  have again:∀ {σ7:St}{H7:Hp},Inv X (pins++pinsAt fp s5.heap) σ7 H7 s7→N σ7 H7→∃ m,m<n∧∃ i σ' H',Inv X pins σ' H' s7∧tn i s7.heap∧(∀ b∈fp,H' b=none)∧W i m σ' H':=fun {σ7 H7} I7 n7=>by
   obtain⟨m',hm,w7⟩:=hN σ7 H7 n7
   refine⟨m',hm,i+1,σ7,H7,I7.unpinned,T.keep _ _ _ st5 fun b hb o e=>(I7.pin (b,o) (List.mem_append_right _ (List.mem_append_right _ (mem_pinsAt hb e)))).1,fun b hb=>?_,w7⟩
   obtain⟨o,e,d⟩:=T.obj _ _ st5 b hb
   exact (I7.pin (b,o) (List.mem_append_right _ (List.mem_append_right _ (mem_pinsAt hb e)))).2.1
  cases f with
  | next=>obtain⟨σ7,H7,I7,n7⟩:=q7; exact again I7 n7
  | cont=>obtain⟨σ7,H7,I7,n7⟩:=q7; exact again I7 n7
  | brk=>obtain⟨σ7,H7,I7,q7⟩:=q7; exact⟨σ7,H7,I7.unpinned,q7⟩
  | ret v=>obtain⟨x7,σ7,H7,I7,r7,q7⟩:=q7; exact⟨x7,σ7,H7,I7.unpinned,r7,q7⟩
end
theorem Jd {lo:Int}{n:Nat}{g:TG}{tb:TS}{D:Ends}{σ:St}{H:Hp} (Pv:Nat→St→Hp→Prop) (h0:Pv 0 σ H)
  (hs:∀ i σ H,i<n→Pv i σ H→g (.int (lo+i)) σ H fun σ2 H2=>tb { D with nx:=Pv (i+1),ct:=Pv (i+1),bk:=D.nx } σ2 H2) (hd:∀ σ H,Pv n σ H→D.nx σ H) :
  ∃ W:Nat→Nat→St→Hp→Prop,(∃ m,W 0 m σ H)∧∀ i m σ H,W i m σ H →
   ((Itr lo n).stop i H∧D.nx σ H)∨((Itr lo n).go i H∧∃ N:St→Hp→Prop,(∀ σ' H',N σ' H'→∃ m',m'<m∧W (i+1) m' σ' H')∧∀ x H',(Itr lo n).yld i H x H'→g x σ H' fun σ2 H2=>tb { D with nx:=N,ct:=N,bk:=D.nx } σ2 H2):=by
 refine⟨fun i m σ H=>m=n - i∧i≤n∧Pv i σ H,⟨n,by simp,Nat.zero_le _,h0⟩,?_⟩
 rintro i m σ H ⟨rfl,hi,p⟩
 by_cases hlt:i<n
 ·refine .inr ⟨hlt,Pv (i+1),fun σ' H' p'=>⟨n - (i+1),by lia,rfl,hlt,p'⟩,fun x H' y=>?_⟩
  obtain⟨e,y⟩:=y
  subst e y
  exact hs i σ _ hlt p
 ·have e:i=n:=by lia
  subst e
  exact .inl ⟨Nat.le_refl _,hd σ H p⟩
abbrev R2:=V→V→Hp→VK→Prop
def OpR (X:Cx) (f:Value→Value→Sem Value) (r:R2):Prop :=
 ∀ (pins:List (Addr×Obj)) (s:Shared) (σ:St) (H:Hp) (x y:V) (v u:Value) (Q:VK),Inv X pins σ H s→RelV x v→RelV y u→r x y H Q →
  wpAny (model X.prog X.w) X.A (f v u) (EP X pins σ Q) X.xe s
def UnR (X:Cx) (f:Value→Sem Value) (r:V→Hp→VK→Prop):Prop :=
 ∀ (pins:List (Addr×Obj)) (s:Shared) (σ:St) (H:Hp) (x:V) (v:Value) (Q:VK),Inv X pins σ H s→RelV x v→r x H Q →
  wpAny (model X.prog X.w) X.A (f v) (EP X pins σ Q) X.xe s
def CallR (X:Cx) (f:Value) (r:List V→Hp→VK→Prop):Prop :=
 ∀ (pins:List (Addr×Obj)) (s:Shared) (σ:St) (H:Hp) (xs:List V) (us:List Value) (Q:VK),Inv X pins σ H s→Vals xs us→r xs H Q →
  wpAny (model X.prog X.w) X.A (call f us) (EP X pins σ Q) X.xe s
def aq_ (X:Cx) (r:V→Hp→(Bool→Hp→Prop)→Prop):Prop :=
 ∀ (pins:List (Addr×Obj)) (s:Shared) (σ:St) (H:Hp) (x:V) (v:Value) (Q:Bool→Hp→Prop),Inv X pins σ H s→RelV x v→r x H Q →
  wpAny (model X.prog X.w) X.A (truthy v) (TP X pins σ Q) X.xe s
def tOp (r:R2) (ta tb:TE):TE:=fun σ H Q=>ta σ H fun x H1=>tb σ H1 fun y H2=>r x y H2 Q
def tUn (r:V→Hp→VK→Prop) (ta:TE):TE:=fun σ H Q=>ta σ H fun x H1=>r x H1 Q
def rI (C:Int→Int→Prop) (g:Int→Int→V):R2:=fun x y H Q=>∃ i j,x=.int i∧y=.int j∧C i j∧Q (g i j) H
def rI0 (g:Int→Int→V):R2:=fun x y H Q=>∃ i j,x=.int i∧y=.int j∧Q (g i j) H
def rU (g:Int→V):V→Hp→VK→Prop:=fun x H Q=>∃ i,x=.int i∧Q (g i) H
section
variable {X:Cx}{a b c:Expr}{ta tb tc:TE}{pos:Pos}
theorem binT (ha:PE X a ta) (hb:PE X b tb) {pins:List (Addr×Obj)}{s:Shared}{σ:St}{H:Hp}{R:V→V→Hp→Prop} (I:Inv X pins σ H s)
  (h:ta σ H fun x H1=>tb σ H1 fun y H2=>R x y H2) {Q:Value→Shared→Prop}{f:Value→Value→Sem Value}
  (hf:∀ v u s2 x y H2,Inv X pins σ H2 s2→RelV x v→RelV y u→R x y H2→wpAny (model X.prog X.w) X.A (f v u) Q X.xe s2) :
  wpAny (model X.prog X.w) X.A (eval a X.env) (fun v s₁=>wpAny (model X.prog X.w) X.A (eval b X.env) (fun u s₂=>wpAny (model X.prog X.w) X.A (f v u) Q X.xe s₂) X.xe s₁) X.xe s:=by
 refine thn (ha pins s σ H _ I h) fun v s1 ⟨x,H1,I1,r1,q1⟩=>?_
 refine thn (hb pins s1 σ H1 _ I1 q1) fun u s2 ⟨y,H2,I2,r2,q2⟩=>?_
 exact hf v u s2 x y H2 I2 r1 r2 q2
theorem pe_op {op:Operator}{r:R2} (ho:OpR X (binaryOp op) r) (ha:PE X a ta) (hb:PE X b tb):PE X (.BinOp a op b pos) (tOp r ta tb):=by
 intro pins s σ H Q I h
 exact wpAny_BinOp (binT ha hb I h fun v u s2 x y H2 I2 rx ry q=>ho pins s2 σ H2 x y v u Q I2 rx ry q)
theorem aj1 {op:UnaryOp}{r:V→Hp→VK→Prop} (ho:UnR X (unaryOp op) r) (ha:PE X a ta):PE X (.UnaryOp op a pos) (tUn r ta):=by
 intro pins s σ H Q I h
 exact UnaryOp_ (thn (ha pins s σ H _ I h) fun v s1 ⟨x,H1,I1,r1,q1⟩=>ho pins s1 σ H1 x v Q I1 r1 q1)
theorem opI {f:Value→Value→Sem Value}{C:Int→Int→Prop}{g:Int→Int→Int}
  (rule:∀ (i j:Int) (t u:Tok) (s:Shared) (Q:Value→Shared→Prop) (E:Value→Shared→Prop),C i j→Q (.int (g i j) s.toks) { s with toks:=s.toks+1 }→wpAny (model X.prog X.w) X.A (f (.int i t) (.int j u)) Q E s) :
  OpR X f (rI C fun i j=>.int (g i j)):=by
 intro pins s σ H x y v u Q I rx ry h
 obtain⟨i,j,rfl,rfl,hc,q⟩:=h
 obtain⟨t,rfl⟩:=rx
 obtain⟨t',rfl⟩:=ry
 exact rule i j t t' s _ _ hc ⟨.int (g i j),H,I.tok _,⟨_,rfl⟩,q⟩
theorem opI0 {f:Value→Value→Sem Value}{g:Int→Int→Int}
  (rule:∀ (i j:Int) (t u:Tok) (s:Shared) (Q:Value→Shared→Prop) (E:Value→Shared→Prop),Q (.int (g i j) s.toks) { s with toks:=s.toks+1 }→wpAny (model X.prog X.w) X.A (f (.int i t) (.int j u)) Q E s) :
  OpR X f (rI0 fun i j=>.int (g i j)):=by
 intro pins s σ H x y v u Q I rx ry h
 obtain⟨i,j,rfl,rfl,q⟩:=h
 obtain⟨t,rfl⟩:=rx
 obtain⟨t',rfl⟩:=ry
 exact rule i j t t' s _ _ ⟨.int (g i j),H,I.tok _,⟨_,rfl⟩,q⟩
theorem opB0 {f:Value→Value→Sem Value}{g:Int→Int→Bool}
  (rule:∀ (i j:Int) (t u:Tok) (s:Shared) (Q:Value→Shared→Prop) (E:Value→Shared→Prop),Q (.bool (g i j)) s→wpAny (model X.prog X.w) X.A (f (.int i t) (.int j u)) Q E s) :
  OpR X f (rI0 fun i j=>.bl (g i j)):=by
 intro pins s σ H x y v u Q I rx ry h
 obtain⟨i,j,rfl,rfl,q⟩:=h
 obtain⟨t,rfl⟩:=rx
 obtain⟨t',rfl⟩:=ry
 exact rule i j t t' s _ _ ⟨.bl (g i j),H,I,rfl,q⟩
def CDiv (i j:Int):Prop:=0<j∧j<1073741824
def CMul (i j:Int):Prop:=(-(2 ^ 64)<i∧i<2 ^ 64)∨(-(2 ^ 64)<j∧j<2 ^ 64)
theorem CMul.ok {i j:Int} (h:CMul i j):IntMulOk i j:=by
 rcases h with⟨h1,h2⟩ | ⟨h1,h2⟩
 ·exact .of_left (intBits_le_64 h1 h2)
 ·exact .of_right (intBits_le_64 h1 h2)
theorem op_add:OpR X (binaryOp .Add) (rI0 fun i j=>.int (i+j)):=opI0 fun _ _ _ _ _ _ _ q=>add_int q
theorem op_sub:OpR X (binaryOp .Sub) (rI0 fun i j=>.int (i - j)):=opI0 fun _ _ _ _ _ _ _ q=>sub_int q
theorem Io:OpR X (binaryOp .Mult) (rI CMul fun i j=>.int (i * j)):=opI fun _ _ _ _ _ _ _ hc q=>mul_int q hc.ok
theorem op_fdiv:OpR X (binaryOp .FloorDiv) (rI CDiv fun i j=>.int (i / j)):=opI fun i j _ _ _ _ _ hc q=>by
 have h1:(0:Int)<j:=hc.1
 have h2:j<1073741824:=hc.2
 exact floordiv_int (by lia) (by rw [Int.fdiv_eq_ediv_of_nonneg i (by lia)]; exact q) (.inl (PyProof.noPylong_small (by lia)))
theorem op_mod:OpR X (binaryOp .Mod) (rI (fun _ j=>0<j) fun i j=>.int (i % j)):=opI fun i j _ _ _ _ _ hc q=>by
 have h1:(0:Int)<j:=hc
 exact mod_int' (by lia) (by rw [Int.fmod_eq_emod_of_nonneg i (by lia)]; exact q)
theorem unI {f:Value→Sem Value}{g:Int→Int}
  (rule:∀ (i:Int) (t:Tok) (s:Shared) (Q:Value→Shared→Prop) (E:Value→Shared→Prop),Q (.int (g i) s.toks) { s with toks:=s.toks+1 }→wpAny (model X.prog X.w) X.A (f (.int i t)) Q E s) :
  UnR X f (rU fun i=>.int (g i)):=by
 intro pins s σ H x v Q I rx h
 obtain⟨i,rfl,q⟩:=h
 obtain⟨t,rfl⟩:=rx
 exact rule i t s _ _ ⟨.int (g i),H,I.tok _,⟨_,rfl⟩,q⟩
theorem wW:UnR X (unaryOp .USub) (rU fun i=>.int (-i)):=unI fun _ _ _ _ _ q=>neg_int q
end
def scal:V→V→Bool
 | .non,.non=>true | .non,.int _=>true | .int _,.non=>true | .non,.bl _=>true | .bl _,.non=>true | .non,.str _=>true | .str _,.non=>true
 | .int _,.int _=>true | .bl _,.bl _=>true | .str _,.str _=>true | .byt _,.byt _=>true
 | .int _,.str _=>true | .str _,.int _=>true | .bl _,.str _=>true | .str _,.bl _=>true
 | _,_=>false
def rEq:R2:=fun x y H Q=>scal x y=true∧Q (.bl (decide (x=y))) H
def rNe:R2:=fun x y H Q=>scal x y=true∧Q (.bl (!decide (x=y))) H
theorem dec_int {i j:Int}:decide (V.int i=V.int j)=(i == j):=by
 rw [Bool.eq_iff_iff]
 simp
theorem dec_bl {i j:Bool}:decide (V.bl i=V.bl j)=(i == j):=by
 rw [Bool.eq_iff_iff]
 simp
theorem dec_str {i j:Str}:decide (V.str i=V.str j)=(i == j):=by
 rw [Bool.eq_iff_iff]
 simp
theorem dec_byt {i j:Array UInt8}:decide (V.byt i=V.byt j)=(i.toList == j.toList):=by
 rw [Bool.eq_iff_iff]
 cases i
 cases j
 simp
section
variable {X:Cx}{a b c:Expr}{ta tb tc:TE}{pos:Pos}
theorem fin_bl {pins:List (Addr×Obj)}{σ:St}{H:Hp}{s:Shared}{Q:VK}{k k':Bool} (I:Inv X pins σ H s) (q:Q (.bl k) H) (e:k=k'):EP X pins σ Q (.bool k') s:=by
 subst e
 exact⟨.bl k,H,I,rfl,q⟩
theorem op_eq:OpR X (compareOp .Eq) rEq:=by
 intro pins s σ H x y v u Q I rx ry h
 obtain⟨hs,q⟩:=h
 cases x with
 | non =>
  cases rx
  cases y with
  | non=>cases ry; exact PySem.EqNone.eq_none_none (fin_bl I q (by simp))
  | bl j=>cases ry; exact PySem.EqNone.eq_none_bool (fin_bl I q (by simp))
  | int j=>obtain⟨t',rfl⟩:=ry; exact PySem.EqNone.eq_none_int (fin_bl I q (by simp))
  | str j=>obtain⟨t',rfl⟩:=ry; exact PySem.EqNone.eq_none_str (fin_bl I q (by simp))
  | _=>exact absurd (show false=true from hs) Bool.false_ne_true
 | bl i =>
  cases rx
  cases y with
  | non=>cases ry; exact PySem.EqNone.eq_bool_none (fin_bl I q (by simp))
  | bl j=>cases ry; exact eq_bool (fin_bl I q dec_bl)
  | str j=>obtain⟨t',rfl⟩:=ry; exact PySem.EqMixed.eq_bool_str (fin_bl I q (by simp))
  | _=>exact absurd (show false=true from hs) Bool.false_ne_true
 | int i =>
  obtain⟨t,rfl⟩:=rx
  cases y with
  | non=>cases ry; exact PySem.EqNone.eq_int_none (fin_bl I q (by simp))
  | int j=>obtain⟨t',rfl⟩:=ry; exact eq_int (fin_bl I q dec_int)
  | str j=>obtain⟨t',rfl⟩:=ry; exact PySem.EqMixed.eq_int_str (fin_bl I q (by simp))
  | _=>exact absurd (show false=true from hs) Bool.false_ne_true
 | str i =>
  obtain⟨t,rfl⟩:=rx
  cases y with
  | non=>cases ry; exact PySem.EqNone.eq_str_none (fin_bl I q (by simp))
  | bl j=>cases ry; exact PySem.EqMixed.eq_str_bool (fin_bl I q (by simp))
  | int j=>obtain⟨t',rfl⟩:=ry; exact PySem.EqMixed.eq_str_int (fin_bl I q (by simp))
  | str j=>obtain⟨t',rfl⟩:=ry; exact eq_str (fin_bl I q dec_str)
  | _=>exact absurd (show false=true from hs) Bool.false_ne_true
 | byt i =>
  obtain⟨t,rfl⟩:=rx
  cases y with
  | byt j=>obtain⟨t',rfl⟩:=ry; exact PySem.W.eq_bytes (fin_bl I q dec_byt)
  | _=>exact absurd (show false=true from hs) Bool.false_ne_true
 | _=>cases y <;> exact absurd (show false=true from hs) Bool.false_ne_true
theorem op_ne:OpR X (compareOp .NotEq) rNe:=by
 intro pins s σ H x y v u Q I rx ry h
 obtain⟨hs,q⟩:=h
 cases x with
 | non =>
  cases rx
  cases y with
  | non=>cases ry; exact PySem.EqNone.ne_none_none (fin_bl I q (by simp))
  | bl j=>cases ry; exact PySem.EqNone.ne_none_bool (fin_bl I q (by simp))
  | int j=>obtain⟨t',rfl⟩:=ry; exact PySem.EqNone.ne_none_int (fin_bl I q (by simp))
  | str j=>obtain⟨t',rfl⟩:=ry; exact PySem.EqNone.ne_none_str (fin_bl I q (by simp))
  | _=>exact absurd (show false=true from hs) Bool.false_ne_true
 | bl i =>
  cases rx
  cases y with
  | non=>cases ry; exact PySem.EqNone.ne_bool_none (fin_bl I q (by simp))
  | bl j=>cases ry; exact ne_bool (fin_bl I q (congrArg not dec_bl))
  | str j=>obtain⟨t',rfl⟩:=ry; exact PySem.EqMixed.ne_bool_str (fin_bl I q (by simp))
  | _=>exact absurd (show false=true from hs) Bool.false_ne_true
 | int i =>
  obtain⟨t,rfl⟩:=rx
  cases y with
  | non=>cases ry; exact PySem.EqNone.ne_int_none (fin_bl I q (by simp))
  | int j=>obtain⟨t',rfl⟩:=ry; exact ne_int (fin_bl I q (congrArg not dec_int))
  | str j=>obtain⟨t',rfl⟩:=ry; exact PySem.EqMixed.ne_int_str (fin_bl I q (by simp))
  | _=>exact absurd (show false=true from hs) Bool.false_ne_true
 | str i =>
  obtain⟨t,rfl⟩:=rx
  cases y with
  | non=>cases ry; exact PySem.EqNone.ne_str_none (fin_bl I q (by simp))
  | bl j=>cases ry; exact PySem.EqMixed.ne_str_bool (fin_bl I q (by simp))
  | int j=>obtain⟨t',rfl⟩:=ry; exact PySem.EqMixed.ne_str_int (fin_bl I q (by simp))
  | str j=>obtain⟨t',rfl⟩:=ry; exact ne_str (fin_bl I q (congrArg not dec_str))
  | _=>exact absurd (show false=true from hs) Bool.false_ne_true
 | byt i =>
  obtain⟨t,rfl⟩:=rx
  cases y with
  | byt j=>obtain⟨t',rfl⟩:=ry; exact PySem.W.ne_bytes (fin_bl I q (congrArg not dec_byt))
  | _=>exact absurd (show false=true from hs) Bool.false_ne_true
 | _=>cases y <;> exact absurd (show false=true from hs) Bool.false_ne_true
theorem afA:OpR X (compareOp .Lt) (rI0 fun i j=>.bl (decide (i<j))):=opB0 fun _ _ _ _ _ _ _ q=>lt_int q
theorem afB:OpR X (compareOp .LtE) (rI0 fun i j=>.bl (decide (i≤j))):=opB0 fun _ _ _ _ _ _ _ q=>le_int q
theorem Fz:OpR X (compareOp .Gt) (rI0 fun i j=>.bl (decide (j<i))):=opB0 fun _ _ _ _ _ _ _ q=>gt_int q
theorem WQ:OpR X (compareOp .Is) (fun x y H Q=>y=.non∧Q (.bl (decide (x=.non))) H):=by
 intro pins s σ H x y v u Q I rx ry h
 obtain⟨rfl,q⟩:=h
 cases ry
 refine is_none_gen (fin_bl I q ?_)
 cases x <;> first
  | (cases rx; rfl)
  | (obtain⟨t,rfl⟩:=rx; rfl)
theorem nomark (b:Expr) {op:CmpOp} (h:op≠.In:=by decide) (h2:op≠.NotIn:=by decide):behindInMarks op b=false:=by
 have e1:(op == CmpOp.In)=false:=by cases op <;> first | rfl | exact absurd rfl h
 have e2:(op == CmpOp.NotIn)=false:=by cases op <;> first | rfl | exact absurd rfl h2
 cases b <;> simp [behindInMarks,e1,e2]
theorem pe_cmpR {op:CmpOp}{r:R2} (ho:OpR X (compareOp op) r) (ha:PE X a ta) (hb:PE X b tb) (hm:behindInMarks op b=false):PE X (.Compare a [op] [b] pos) (tOp r ta tb):=by
 intro pins s σ H Q I h
 exact wpAny_Compare1 (binT ha hb I h fun v u s2 x y H2 I2 rx ry q=>ho pins s2 σ H2 x y v u Q I2 rx ry q) hm
def tTest (t:TE):TT:=fun σ H Q=>t σ H fun x H'=>∃ k,x=.bl k∧Q k H'
theorem pt_cmpR {op:CmpOp}{r:R2} (ho:OpR X (compareOp op) r) (ha:PE X a ta) (hb:PE X b tb) (hm:behindInMarks op b=false):PT X (.Compare a [op] [b] pos) (tTest (tOp r ta tb)):=by
 intro pins s σ H Q I h
 refine wpAny_isTrue_Compare1 (thn (ha pins s σ H _ I h) fun v s1 ⟨x,H1,I1,r1,q1⟩=>thn (hb pins s1 σ H1 _ I1 q1) fun u s2 ⟨y,H2,I2,r2,q2⟩ =>
  thn (ho pins s2 σ H2 x y v u _ I2 r1 r2 q2) fun c s3 ⟨z,H3,I3,r3,k,e,q3⟩=>?_) hm
 subst e
 cases r3
 exact wpAny_truthy_bool ⟨H3,I3,q3⟩
def YL (K:PySem.W.Frag) (x:V) (H:Hp) (k:Bool):Prop :=
 match x with
 | .non=>k=false
 | .bl b=>k=b
 | .int i=>k=(i != 0)
 | .str y=>y.length≤sizeLine∧k=((y.length:Int) != 0)
 | .byt y=>y.size≤sizeLine∧k=((y.size:Int) != 0)
 | .ref p=>(∃ xs,SqL K H p xs∧k=!xs.isEmpty)∨(∃ xs,SqT K H p xs∧k=!xs.isEmpty)∨∃ kvs,H p=some (.dK kvs)∧k=!kvs.isEmpty
 | _=>False
theorem abM {κ:Type}{kvs:List (κ×V)}{vs:List (κ×Value)} (r:KV kvs vs):(!vs.isEmpty)=!kvs.isEmpty:=by
 cases r <;> rfl
theorem Qj {xs:List V}{its:List Value} (r:Vals xs its):(!its.toArray.isEmpty)=!xs.isEmpty:=by
 cases r <;> simp
theorem line63:(sizeLine:Nat)<2 ^ 63:=by rw [sizeLine_eq]; decide
theorem acH:aq_ X (fun x H Q=>∃ k,YL X.K x H k∧Q k H):=by
 intro pins s σ H x v Q I rx h
 obtain⟨k,e,q⟩:=h
 have hl:=line63
 have hs:sizeLine=16777216:=sizeLine_eq
 cases x with
 | non =>
  cases rx
  have e':k=false:=e
  subst e'
  exact truthy_none ⟨H,I,q⟩
 | bl b =>
  cases rx
  have e':k=b:=e
  subst e'
  exact wpAny_truthy_bool ⟨H,I,q⟩
 | int i =>
  obtain⟨t,rfl⟩:=rx
  have e':k=(i != 0):=e
  subst e'
  exact PySem.P.truthy_int ⟨H,I,q⟩
 | str y =>
  obtain⟨t,rfl⟩:=rx
  obtain⟨hy,e'⟩:y.length≤sizeLine∧k=((y.length:Int) != 0):=e
  subst e'
  exact PySem.P.truthy_str (by lia) ⟨H,I.tok _,q⟩
 | byt y =>
  obtain⟨t,rfl⟩:=rx
  obtain⟨hy,e'⟩:y.size≤sizeLine∧k=((y.size:Int) != 0):=e
  subst e'
  exact PySem.W.truthy_bytes (by lia) ⟨H,I.tok _,q⟩
 | ref p =>
  cases rx
  have e':(∃ xs,SqL X.K H p xs∧k=!xs.isEmpty)∨(∃ xs,SqT X.K H p xs∧k=!xs.isEmpty)∨∃ kvs,H p=some (.dK kvs)∧k=!kvs.isEmpty:=e
  rcases e' with⟨xs,hx,e'⟩ | ⟨xs,hx,e'⟩ | ⟨kvs,hx,e'⟩
  ·subst e'
   obtain⟨its,r,pl,hz⟩:=I.list hx
   have hlen:=r.length
   exact wpAny_truthy_list pl.isList (by simp only [List.size_toArray]; lia) ⟨H,I.tok _,by rw [Qj r]; exact q⟩
  ·subst e'
   obtain⟨its,r,pl,hz⟩:=I.tuple hx
   have hlen:=r.length
   exact truthy_tuple pl (by simp only [List.size_toArray]; lia) ⟨H,I.tok _,by rw [Qj r]; exact q⟩
  ·subst e'
   obtain⟨hz,hS,vs,r,m⟩:kvs.length≤sizeLine∧(p == sysModules)=false∧∃ vs,KV kvs vs∧s.heap.DictOf (mixKind X.prog X.w) p vs:=I.hok p _ hx
   have hlen:kvs.length=vs.length:=Paired.length r
   exact wpAny_truthy_dict hS m (by lia) ⟨H,I.tok _,by rw [abM r]; exact q⟩
 | _=>exact (show False from e).elim
theorem aev (ha:PE X a ta) (he:∀ whole,isTrue a X.env whole=(do let v ← whole; standAt a.pos; holding [v] (truthy v))) :
  PT X a (fun σ H Q=>ta σ H fun x H'=>∃ k,YL X.K x H' k∧Q k H'):=by
 intro pins s σ H Q I h
 exact isTrue_plain (thn (ha pins s σ H _ I h) fun v s1 ⟨x,H1,I1,r1,q1⟩=>acH pins s1 σ H1 x v Q I1 r1 q1) (he _)
theorem vals1 {x:V}{us:List Value} (r:Vals [x] us):∃ u,us=[u]∧RelV x u:=by
 cases r with
 | cons r1 r2=>cases r2; exact⟨_,rfl,r1⟩
theorem vals2 {x y:V}{us:List Value} (r:Vals [x,y] us):∃ u w',us=[u,w']∧RelV x u∧RelV y w':=by
 cases r with
 | cons r1 r2 =>
  cases r2 with
  | cons r3 r4=>cases r4; exact⟨_,_,rfl,r1,r3⟩
theorem Us (hc:X.calm=true):CallR X (.builtin "min") (fun xs H Q=>∃ i j,xs=[.int i,.int j]∧Q (.int (if j<i then j else i)) H):=by
 intro pins s σ H xs us Q I r h
 obtain⟨i,j,rfl,q⟩:=h
 obtain⟨u,w',rfl,⟨t,rfl⟩,⟨t',rfl⟩⟩:=vals2 r
 refine min_two_ints (I.ok.hd hc) fun h' tk k=>⟨_,H,I.kept k,?_,q⟩
 by_cases hj:j<i
 ·rw [if_pos hj,if_pos hj]; exact⟨_,rfl⟩
 ·rw [if_neg hj,if_neg hj]; exact⟨_,rfl⟩
theorem adK:CallR X (.type "int") (fun xs H Q=>(∃ i,xs=[.int i]∧Q (.int i) H)∨∃ k,xs=[.bl k]∧Q (.int (if k then 1 else 0)) H):=by
 intro pins s σ H xs us Q I r h
 rcases h with⟨i,rfl,q⟩ | ⟨k,rfl,q⟩
 ·obtain⟨u,rfl,t,rfl⟩:=vals1 r
  exact call_int_int ⟨.int i,H,I,⟨_,rfl⟩,q⟩
 ·obtain⟨u,rfl,r1⟩:=vals1 r
  cases r1
  exact call_int_bool ⟨.int (if k then 1 else 0),H,I.tok _,⟨_,rfl⟩,q⟩
end
structure ObjM (h:Heap) (x dx C:Addr) (mA:Str→Option Value):Prop where
 obj:h.get? x=some (PySem.W.instObj C dx)
 ns:h.Ns1 dx mA
 ne:dx≠x
theorem lookIn_ns {h:Heap}{dx:Addr}{mA:Str→Option Value} (n:h.Ns1 dx mA):∃ od,h.get? dx=some od∧∀ name,PySem.W.lookIn name od=some (mA name):=by
 obtain⟨o,es,ep,ho,hd,hk,_,hm⟩:=n
 refine⟨o,ho,fun name=>?_⟩
 have e:=hm name
 unfold nsFind findBy at e
 rw [← Array.find?_toList] at e
 unfold PySem.W.lookIn
 rw [hd]
 dsimp only
 split
 ·rename_i y q
  rw [q] at e
  exact congrArg some e
 ·rename_i q
  rw [q] at e
  have a:es.toList.any (·.refKey)=false:=by
   rw [List.any_eq_false]
   intro y hy
   obtain⟨z,t,hkey⟩:=hk y (Array.mem_toList_iff.mp hy)
   simp [DictEntry.refKey,hkey]
  have a':¬ es.toList.any (·.refKey)=true:=by rw [a]; exact Bool.false_ne_true
  rw [if_neg a']
  exact congrArg some e
theorem ObjM.look {h:Heap}{x dx C:Addr}{mA:Str→Option Value} (I:ObjM h x dx C mA):∃ od,PySem.W.InstAt h x (PySem.W.instObj C dx) C (some od)∧∀ name,PySem.W.lookIn name od=some (mA name) :=
 let ⟨od,ho,hl⟩:=lookIn_ns I.ns
 ⟨od,⟨I.obj,rfl,rfl,ho⟩,hl⟩
section
variable {prog:Program}{w:World}{A:Around}{E:Value→Shared→Prop}{s:Shared}{K:PySem.W.Frag}{x dx C f:Addr}{mA:Str→Option Value}{name:Str}{v:Value}
theorem get_map {expr:Bool}{Q:Value→Shared→Prop} (X:K.In s.heap) (I:ObjM s.heap x dx C mA) (hg:PySem.W.plainGet K C name=true) (hh:PySem.W.hasDictIn K C=true)
  (ha:PySem.W.findIn K (.ref C) name=some none) (hv:mA name=some v) (hv':PySem.W.handedIn v=true) (h:Q v { s with toks:=s.toks+1 }) :
  wpAny (model prog w) A (getAttr (.ref x) name expr) Q E s:=by
 obtain⟨od,J,hl⟩:=I.look
 exact PySem.W.get_value X J (PySem.W.plainGet_of hg).1 (PySem.W.findObj_own hh ha rfl (by rw [hl,hv])) hv' h
theorem get_meth {pl:Sem Bool}{Q:Value×List Value→Shared→Prop} (X:K.In s.heap) (I:ObjM s.heap x dx C mA) (hg:PySem.W.plainGet K C name=true)
  (hf:PySem.W.findIn K (.ref C) name=some (some (.ref f))) (ht:PySem.W.isFn K (.ref f)=true) (hv:mA name=none) (h:Q (.ref f,[.ref x]) s) :
  wpAny (model prog w) A (getMethod (.ref x) name pl) Q E s:=by
 obtain⟨od,J,hl⟩:=I.look
 exact PySem.W.method_fn X J (PySem.W.plainGet_of hg).1 (PySem.W.plainGet_of hg).2 hf (beq_iff_eq.mp ht) (by show (PySem.W.lookIn name od).map (·.isSome)=some false; rw [hl,hv]; rfl) h
theorem set_map {ns:List Str}{Q:Unit→Shared→Prop} (X:K.In s.heap) (I:ObjM s.heap x dx C mA)
  (hs:PySem.W.findIn K (.ref C) "__setattr__"=some (some (.builtin "object.__setattr__"))) (hp:PySem.W.plainOver K C=true) (ht:PySem.W.takerIn K C name=some none) (hh:PySem.W.hasDictIn K C=true)
  (hw:PySem.Within mA ns) (hsz:ns.length≤sizeLine)
  (h:∀ h',ObjM h' x dx C (fun y=>if y=name then some v else mA y)→Heap.SameBut dx s.heap h'→Q () { s with heap:=h',toks:=s.toks+2 }) :
  wpAny (model prog w) A (setAttr (.ref x) name v) Q E s:=by
 obtain⟨od,J,hl⟩:=I.look
 refine PySem.W.set_plain X J hs (PySem.W.osa_open (s:={ s with toks:=s.toks+1 }) (r:=none) X J hp ht fun b=>?_)
 obtain⟨cd,hc,hd'⟩:=PySem.W.any_some hh
 have hx:s.heap.get? x=some ⟨.ref C,some dx,.plain,#[]⟩:=I.obj
 refine wpAny_bind (wpAny_pure (wpAny_bind (wpAny_bind (wpAny_loadPart hx (wpAny_bind (PySem.W.Looks.here (s:={ s with toks:=s.toks+1 }) (PySem.W.looks_clsIn X hc) ?_))))))
 rw [hd']
 refine wpAny_pure (a:=some dx) (wpAny_bind (wpAny_pure (wpAny_bind ?_)))
 refine wpAny_nsSet1 (s:={ s with toks:=s.toks+1 }) I.ns fun h' hn2 hs2=>?_
 obtain⟨oD,esD,epD,hoD,hdD,hcD⟩:=hn2.count (PySem.Within.cons name v hw)
 refine wpAny_bind (wpAny_lookBehind hoD (by rw [hdD]; exact pastItsLine_dict (Nat.le_trans hcD (by rw [List.length_cons]; lia))) ?_)
 exact wpAny_pure (h _ ⟨(hs2.2 _ (Ne.symm I.ne)).trans I.obj,hn2,I.ne⟩ hs2)
theorem make_map {R:Result→Shared→Prop}{vs:List Value}{kw:List (Str×Value)} (X:K.In s.heap) (hm:PySem.W.makesIn K C=true)
  (hi:PySem.W.findIn K (.ref C) "__init__"=some (some (.ref f))) (hf:PySem.W.typeIn K (.ref f)=some (.type "function"))
  (h:codeAny (model prog w) (A.under (.builtin "type.__call__" ⟨.ref C::vs,kw⟩)) (.call (.ref f) ⟨.ref (s.heap.objs.size+1)::vs,kw⟩) (PySem.W.InitBack (s.heap.objs.size+1) R)
   { s with heap:=(s.heap.push PySem.W.emptyDict).push (PySem.W.instObj C s.heap.objs.size) }) :
  codeAny (model prog w) A (.call (.ref C) ⟨vs,kw⟩) R s:=by
 obtain⟨hh,g,d,t,os⟩:=s
 exact PySem.W.make_core (PySem.W.makes_of X hm) (PySem.W.looks_findIn X hi) (fun self=>PySem.W.bind_fn X self hf) (.inl rfl) h
end
def putF (f:Str) (v:V):List (Str×V)→List (Str×V)
 | []=>[(f,v)]
 | (g,x)::r=>if g=f then (g,v)::r else (g,x)::putF f v r
theorem lookup_putF (f g:Str) (v:V):∀ fs:List (Str×V),(putF f v fs).lookup g=if g=f then some v else fs.lookup g
 | []=>by
  show List.lookup g [(f,v)]=_
  by_cases h:g=f
  ·have hb:(g == f)=true:=beq_iff_eq.mpr h
   simp only [List.lookup,hb,if_pos h]
  ·have hb:(g == f)=false:=beq_eq_false_iff_ne.mpr h
   simp only [List.lookup,hb,if_neg h]
 | (k,x)::r=>by
  have ih:=lookup_putF f g v r
  rw [show putF f v ((k,x)::r)=(if k=f then (k,v)::r else (k,x)::putF f v r) from rfl]
  by_cases hk:k=f
  ·rw [if_pos hk]
   by_cases h:g=k
   ·have hb:(g == k)=true:=beq_iff_eq.mpr h
    simp only [List.lookup,hb,if_pos (h.trans hk)]
   ·have hb:(g == k)=false:=beq_eq_false_iff_ne.mpr h
    simp only [List.lookup,hb,if_neg (fun e:g=f=>h (e.trans hk.symm))]
  ·rw [if_neg hk]
   by_cases h:g=k
   ·have hb:(g == k)=true:=beq_iff_eq.mpr h
    simp only [List.lookup,hb,if_neg (fun e:g=f=>hk (h.symm.trans e))]
   ·have hb:(g == k)=false:=beq_eq_false_iff_ne.mpr h
    simp only [List.lookup,hb]
    exact ih
theorem keys_putF (f:Str) (v:V):∀ fs:List (Str×V),f∈(putF f v fs).map (·.1)∧∀ g,g∈fs.map (·.1)→g∈(putF f v fs).map (·.1)
 | []=>⟨by simp [putF],fun g h=>by simp at h⟩
 | (k,x)::r=>by
  obtain⟨i1,i2⟩:=keys_putF f v r
  rw [show putF f v ((k,x)::r)=(if k=f then (k,v)::r else (k,x)::putF f v r) from rfl]
  by_cases hk:k=f
  ·rw [if_pos hk]
   subst hk
   exact⟨by simp,fun g h=>by simpa using h⟩
  ·rw [if_neg hk]
   refine⟨?_,fun g h=>?_⟩
   ·rw [List.map_cons]
    exact List.mem_cons_of_mem _ i1
   ·rw [List.map_cons] at h ⊢
    rcases List.mem_cons.mp h with e | e
    ·exact List.mem_cons.mpr (.inl e)
    ·exact List.mem_cons_of_mem _ (i2 g e)
theorem length_putF (f:Str) (v:V):∀ fs:List (Str×V),(putF f v fs).length≤fs.length+1
 | []=>by simp [putF]
 | (k,x)::r=>by
  have ih:=length_putF f v r
  rw [show putF f v ((k,x)::r)=(if k=f then (k,v)::r else (k,x)::putF f v r) from rfl]
  by_cases hk:k=f
  ·rw [if_pos hk,List.length_cons,List.length_cons]; lia
  ·rw [if_neg hk,List.length_cons,List.length_cons]; lia
theorem RelO.some_of {v:V}{o:Option Value} (r:RelO (some v) o):∃ u,o=some u∧RelV v u:=by
 cases o with
 | none=>exact (show False from r).elim
 | some u=>exact⟨u,rfl,r⟩
theorem RelO.none_of {o:Option Value} (r:RelO none o):o=none:=by
 cases o with
 | none=>rfl
 | some u=>exact (show False from r).elim
theorem handed_of {v:V}{u:Value} (r:RelV v u):PySem.W.handedIn u=true:=by
 cases v with
 | non=>cases (show u=Value.none from r); rfl
 | bl b=>cases (show u=Value.bool b from r); rfl
 | int i=>obtain⟨t,e⟩:=(show ∃ t,u=Value.int i t from r); cases e; rfl
 | str x=>obtain⟨t,e⟩:=(show ∃ t,u=Value.str x t from r); cases e; rfl
 | byt b=>obtain⟨t,e⟩:=(show ∃ t,u=Value.bytes b t from r); cases e; rfl
 | flt b=>obtain⟨t,e⟩:=(show ∃ t,u=Value.float b t from r); cases e; rfl
 | ref a=>cases (show u=Value.ref a from r); rfl
 | ty n=>cases (show u=Value.type n from r); rfl
section
variable {P:Program}{w:World}{H H':Hp}{h h':Heap}{a C dx:Addr}{fs fs':List (Str×V)}
theorem ins_get (hok:HOk P w H h) (e:H a=some (.ins C dx fs)):∃ mA,ObjM h a dx C mA∧(∀ f,RelO (fs.lookup f) (mA f))∧PySem.Within mA (fs.map (·.1))∧fs.length≤1000∧H dx=some (.own a):=by
 obtain⟨d,z,ne,ob,mA,n,r,q⟩:=(show ObjOk P w H h a (.ins C dx fs) from hok a _ e)
 exact⟨mA,⟨ob,n,ne⟩,r,q,z,d⟩
end
structure Cls (K:PySem.W.Frag) (C:Addr):Prop where
 pg:PySem.W.plainGet K C Str.empty=true
 hd:PySem.W.hasDictIn K C=true
 po:PySem.W.plainOver K C=true
 sa:PySem.W.findIn K (.ref C) "__setattr__"=some (some (.builtin "object.__setattr__"))
theorem Cls.get {K:PySem.W.Frag}{C:Addr} (c:Cls K C) (f:Str):PySem.W.plainGet K C f=true:=c.pg
def NoAttr (K:PySem.W.Frag) (C:Addr) (f:Str):Prop:=PySem.W.findIn K (.ref C) f=some none
theorem NoAttr.taker {K:PySem.W.Frag}{C:Addr}{f:Str} (n:NoAttr K C f):PySem.W.takerIn K C f=some none:=by
 unfold PySem.W.takerIn
 rw [show PySem.W.findIn K (.ref C) f=some none from n]
 rfl
structure Meth (K:PySem.W.Frag) (C:Addr) (m:Str) (f:Addr):Prop where
 at_:PySem.W.findIn K (.ref C) m=some (some (.ref f))
 fn:PySem.W.isFn K (.ref f)=true
 kp:PySem.W.keepIn K (.ref f)=true
section
variable {X:Cx}{pins:List (Addr×Obj)}{σ:St}{H:Hp}{s:Shared}{a C dx:Addr}{fs:List (Str×V)}{f:Str}{v:V}{A:Around}{E:Value→Shared→Prop}
theorem getattr_ok {b:Bool}{Q:Value→Shared→Prop} (I:Inv X pins σ H s) (e:H a=some (.ins C dx fs)) (c:Cls X.K C) (n:NoAttr X.K C f) (l:fs.lookup f=some v)
  (h:∀ u s',Inv X pins σ H s'→RelV v u→Q u s'):wpAny (model X.prog X.w) A (getAttr (.ref a) f b) Q E s:=by
 obtain⟨mA,O,r,_,_,_⟩:=ins_get I.hok e
 obtain⟨u,hu,ru⟩:=RelO.some_of (v:=v) (o:=mA f) (by rw [← l]; exact r f)
 exact get_map I.kIn O (c.get f) c.hd n hu (handed_of ru) (h u _ (I.tok _) ru)
theorem getmeth_ok {m:Str}{g:Addr}{pl:Sem Bool}{Q:Value×List Value→Shared→Prop} (I:Inv X pins σ H s) (e:H a=some (.ins C dx fs)) (c:Cls X.K C) (k:Meth X.K C m g) (l:fs.lookup m=none)
  (h:Q (.ref g,[.ref a]) s):wpAny (model X.prog X.w) A (getMethod (.ref a) m pl) Q E s:=by
 obtain⟨mA,O,r,_,_,_⟩:=ins_get I.hok e
 have hn:mA m=none:=RelO.none_of (by rw [← l]; exact r m)
 exact get_meth I.kIn O (c.get m) k.at_ k.fn hn h
theorem setattr_ok {y:V}{u:Value}{Q:Unit→Shared→Prop} (I:Inv X pins σ H s) (e:H a=some (.ins C dx fs)) (c:Cls X.K C) (n:NoAttr X.K C f) (hl:fs.length<1000) (ry:RelV y u)
  (h:∀ s',Inv X pins σ (upd H a (.ins C dx (putF f y fs))) s'→Q () s'):wpAny (model X.prog X.w) A (setAttr (.ref a) f u) Q E s:=by
 obtain⟨mA,O,r,wi,_,ho⟩:=ins_get I.hok e
 have hz:(fs.map (·.1)).length≤sizeLine:=by rw [List.length_map,sizeLine_eq]; lia
 refine set_map I.kIn O c.sa c.po n.taker c.hd wi hz fun h' O' sb=>h _ ?_
 have hd:∃ o,h'.get? dx=some o:=let ⟨o,_,_,e',_⟩:=O'.ns; ⟨o,e'⟩
 refine I.write (x:=a) (e:=dx) (by rw [e]; exact True.intro) (.inr ho) (fun b q hb z=>(sb.2 b hb).trans z) hd ?_
 refine⟨by rw [upd_ne O.ne]; exact ho,?_,O.ne,O'.obj,_,O'.ns,fun g=>?_,fun g hg=>?_⟩
 ·have:=length_putF f y fs; lia
 ·show RelO ((putF f y fs).lookup g) (if g=f then some u else mA g)
  rw [lookup_putF]
  by_cases q:g=f
  ·rw [if_pos q,if_pos q]; exact ry
  ·rw [if_neg q,if_neg q]; exact r g
 ·by_cases q:g=f
  ·rw [q]; exact (keys_putF f y fs).1
  ·refine (keys_putF f y fs).2 g (wi g fun z=>hg ?_)
   show (if g=f then some u else mA g)=none
   rw [if_neg q]; exact z
theorem Inv.made (I:Inv X pins σ H s):Inv X pins σ (upd (upd H s.heap.objs.size (.own (s.heap.objs.size+1))) (s.heap.objs.size+1) (.ins C s.heap.objs.size []))
  { s with heap:=(s.heap.push PySem.W.emptyDict).push (PySem.W.instObj C s.heap.objs.size) }:=by
 have e1:(s.heap.push PySem.W.emptyDict).get? s.heap.objs.size=some PySem.W.emptyDict:=Heap.get?_push_size s.heap rfl
 have e2:((s.heap.push PySem.W.emptyDict).push (PySem.W.instObj C s.heap.objs.size)).get? (s.heap.objs.size+1)=some (PySem.W.instObj C s.heap.objs.size):=by
  have:=Heap.get?_push_size (s.heap.push PySem.W.emptyDict) (o:=PySem.W.instObj C s.heap.objs.size) rfl
  rwa [Heap.size_push] at this
 have e3:(s.heap.push PySem.W.emptyDict).Ns s.heap.objs.size (fun _=>none):=⟨PySem.W.emptyDict,#[],_,e1,rfl,(fun e he=>absurd he (by simp)),fun _=>rfl⟩
 have I1:=I.laid (a:=s.heap.objs.size) (o:=.own (s.heap.objs.size+1)) (h':=s.heap.push PySem.W.emptyDict) (t':=s.toks) (fun b u q=>Heap.get?_push_of_some _ q) (Nat.le_refl _) ⟨_,e1⟩
 refine I1.laid (a:=s.heap.objs.size+1) (o:=.ins C s.heap.objs.size []) (t':=s.toks) (fun b u q=>Heap.get?_push_of_some _ q) (Nat.le_of_eq (Heap.size_push _ _)) ?_
 have ne:s.heap.objs.size≠s.heap.objs.size+1:=Nat.ne_of_lt (Nat.lt_succ_self _)
 refine⟨by rw [upd_ne ne,upd_same],Nat.zero_le _,ne,e2,fun _=>none,(Heap.Ns1.of_empty e3).at fun o q=>Heap.get?_push_of_some _ q,fun _=>True.intro,fun y hy=>absurd rfl hy⟩
theorem attr_of {prog:Program}{w:World}{env:Env}{e:Expr}{f:Str}{pos:Pos}{s:Shared}{Q:Value→Shared→Prop} (hb:attributeBase e f env (eval e env)=eval e env)
  (h:wpAny (model prog w) A (eval e env) (fun o s₁=>wpAny (model prog w) A (getAttr o f true) Q E s₁) E s):wpAny (model prog w) A (eval (.Attribute e f pos) env) Q E s :=
 Attribute_any_ h (by rw [arm_eval_Attribute,hb])
end
def tFld (K:PySem.W.Frag) (ta:TE) (f:Str):TE:=fun σ H Q=>ta σ H fun x H1=>∃ a C dx fs v,x=.ref a∧H1 a=some (.ins C dx fs)∧Cls K C∧NoAttr K C f∧fs.lookup f=some v∧Q v H1
def sFld (K:PySem.W.Frag) (ta tv:TE) (f:Str):TS:=fun D σ H=>tv σ H fun y H1=>ta σ H1 fun x H2=>∃ a C dx fs,x=.ref a∧H2 a=some (.ins C dx fs)∧Cls K C∧NoAttr K C f∧fs.length<1000 ∧
 D.nx σ (upd H2 a (.ins C dx (putF f y fs)))
def acq (X:Cx) (op:Operator) (rd:V→V→Hp→VK→Prop):Prop :=
 ∀ (pins:List (Addr×Obj)) (s:Shared) (σ:St) (H:Hp) (x y:V) (u v:Value) (Q:VK),Inv X pins σ H s→RelV x u→RelV y v→rd x y H Q→wpAny (model X.prog X.w) X.A (inplaceOp op u v) (EP X pins σ Q) X.xe s
def aas (K:PySem.W.Frag) (ta tv:TE) (rd:V→V→Hp→VK→Prop) (f:Str):TS:=fun D σ H=>ta σ H fun x H1=>∃ a C dx fs v,x=.ref a∧H1 a=some (.ins C dx fs)∧Cls K C∧NoAttr K C f∧fs.lookup f=some v ∧
 tv σ H1 fun y H2=>rd v y H2 fun z H3=>∃ dx' fs',H3 a=some (.ins C dx' fs')∧fs'.length<1000∧D.nx σ (upd H3 a (.ins C dx' (putF f z fs')))
section
variable {X:Cx}{o e value:Expr}{f:Str}{pos pos' tpos:Pos}{ta tv:TE}
theorem pe_fld (he:PE X e ta) (hb:attributeBase e f X.env (eval e X.env)=eval e X.env):PE X (.Attribute e f pos) (tFld X.K ta f):=by
 intro pins s σ H Q I h
 refine attr_of hb (thn (he pins s σ H _ I h) fun u s1 ⟨x,H1,I1,rx,a,C,dx,fs,v,ex,ea,c,n,l,q⟩=>?_)
 subst ex
 obtain rfl:u=Value.ref a:=rx
 exact getattr_ok I1 ea c n l fun u' s2 I2 ru=>⟨v,H1,I2,ru,q⟩
theorem ps_fld (ha:PE X o ta) (hv:PE X value tv) (hs:swapsWith value (some (.Attribute o f pos')) pos.line X.env=pure false):PS X (.Assign [.Attribute o f pos'] value pos) (sFld X.K ta tv f):=by
 intro pins s σ H D I h
 refine plainObj_wpAny_Assign_Attribute (thn (hv pins s σ H _ I h) fun u s1 ⟨y,H1,I1,ry,q⟩=>thn (ha pins s1 σ H1 _ I1 q) fun ov s2 ⟨x,H2,I2,rx,a,C,dx,fs,ex,ea,c,n,l,q2⟩=>?_) hs
 subst ex
 obtain rfl:ov=Value.ref a:=rx
 exact setattr_ok I2 ea c n l ry fun s3 I3=>⟨σ,_,I3,q2⟩
theorem ac8 {op:Operator}{rd:V→V→Hp→VK→Prop} (ha:PE X o ta) (hv:PE X value tv) (hop:acq X op rd):PS X (.AugAssign (.Attribute o f tpos) op value pos) (aas X.K ta tv rd f):=by
 intro pins s σ H D I h
 refine wpAny_AugAssign_AttributeAny (thn (ha pins s σ H _ I h) fun ov s1 ⟨x,H1,I1,rx,a,C,dx,fs,v,ex,ea,c,n,l,q⟩=>?_)
 subst ex
 obtain rfl:ov=Value.ref a:=rx
 refine getattr_ok I1 ea c n l fun u s2 I2 ru=>thn (hv pins s2 σ H1 _ I2 q) fun w3 s3 ⟨y,H2,I3,ry,q3⟩=>thn (hop pins s3 σ H2 v y u w3 _ I3 ru ry q3) fun w4 s4 ⟨z,H3,I4,rz,dx',fs',ea',l',q4⟩=>?_
 exact setattr_ok I4 ea' c n l' rz fun s5 I5=>⟨σ,_,I5,q4⟩
def alv:V→V→Hp→VK→Prop:=fun x y H Q=>∃ i j,x=.int i∧y=.int j∧Q (.int (i+j)) H
def aln:V→V→Hp→VK→Prop:=fun x y H Q=>∃ i j,x=.int i∧y=.int j∧Q (.int (i - j)) H
theorem aia:acq X .Add alv:=by
 rintro pins s σ H x y u v Q I rx ry ⟨i,j,rfl,rfl,q⟩
 obtain⟨t,rfl⟩:=(show ∃ t,u=Value.int i t from rx)
 obtain⟨t',rfl⟩:=(show ∃ t',v=Value.int j t' from ry)
 exact PyProof.Rows.iadd_int ⟨.int (i+j),H,I.tok _,⟨_,rfl⟩,q⟩
theorem ah_:acq X .Sub aln:=by
 rintro pins s σ H x y u v Q I rx ry ⟨i,j,rfl,rfl,q⟩
 obtain⟨t,rfl⟩:=(show ∃ t,u=Value.int i t from rx)
 obtain⟨t',rfl⟩:=(show ∃ t',v=Value.int j t' from ry)
 exact PyProof.Rows.isub_int ⟨.int (i - j),H,I.tok _,⟨_,rfl⟩,q⟩
end
section
variable {X:Cx}{pins:List (Addr×Obj)}{σ:St}{H:Hp}{s:Shared}{A:Around}{E:Value→Shared→Prop}{Q:Value→Shared→Prop}{c:Value}{b:Bool}
inductive TyOf (K:PySem.W.Frag) (H:Hp):V→Value→Prop where
 | non:TyOf K H .non (.type "NoneType")
 | bl (x:Bool):TyOf K H (.bl x) (.type "bool")
 | int (i:Int):TyOf K H (.int i) (.type "int")
 | str (x:Str):TyOf K H (.str x) (.type "str")
 | flt (x:UInt64):TyOf K H (.flt x) (.type "float")
 | lst {a:Addr}{xs:List V} (e:H a=some (.lst xs)):TyOf K H (.ref a) (.type "list")
 | frz {a:Addr}{o:Obj}{xs:List V} (e:H a=some (.frz o (.lst xs))):TyOf K H (.ref a) (.type "list")
 | tup {a:Addr}{xs:List V} (e:H a=some (.tup xs)):TyOf K H (.ref a) (.type "tuple")
 | dK {a:Addr}{kvs:List (Key×V)} (e:H a=some (.dK kvs)):TyOf K H (.ref a) (.type "dict")
 | dT {a:Addr}{kvs:List (List Key×V)} (e:H a=some (.dT kvs)):TyOf K H (.ref a) (.type "dict")
 | ins {a C dx:Addr}{fs:List (Str×V)} (e:H a=some (.ins C dx fs)) (cl:Cls K C) (ha:PySem.W.findIn K (.ref C) "__class__"=some (some (.builtin "object.__class__")))
   (hn:PySem.W.specialIn K (.builtin "object.__class__") "__get__"=some (some (.builtin "getset_descriptor.__get__"))) (htk:PySem.W.takesIn K (.builtin "object.__class__")=some true)
   (hm:PySem.W.mroIn K C (.type "object")=some true):TyOf K H (.ref a) (.ref C)
theorem adB {x:V}{u t:Value} (I:Inv X pins σ H s) (rx:RelV x u) (ty:TyOf X.K H x t) (e:PySem.W.kitOne X.K t c=some b) (h:∀ tk,Q (.bool b) { s with toks:=tk }) :
  wpAny (model X.prog X.w) A (call (.builtin "isinstance") [u,c]) Q E s:=by
 cases ty with
 | non=>cases (show u=Value.none from rx); exact PySem.W.kia_one PySem.W.kitx_none I.kIn True.intro e (fun z=>nomatch z) h
 | bl y=>cases (show u=Value.bool y from rx); exact PySem.W.kia_one PySem.W.kitx_bool I.kIn True.intro e (fun z=>nomatch z) h
 | int i=>obtain⟨t,q⟩:=(show ∃ t,u=Value.int i t from rx); cases q; exact PySem.W.kia_one PySem.W.kitx_int I.kIn True.intro e (fun z=>nomatch z) h
 | str y=>obtain⟨t,q⟩:=(show ∃ t,u=Value.str y t from rx); cases q; exact PySem.W.kia_one PySem.W.kitx_str I.kIn True.intro e (fun z=>nomatch z) h
 | flt y=>obtain⟨t,q⟩:=(show ∃ t,u=Value.float y t from rx); cases q; exact PySem.W.kia_one PySem.W.kitx_float I.kIn True.intro e (fun z=>nomatch z) h
 | @lst a xs ea =>
  cases (show u=Value.ref a from rx)
  obtain⟨_,_,n,_,h1⟩:=(show ObjOk X.prog X.w H s.heap a (.lst xs) from I.hok a _ ea)
  exact PySem.W.kia_one PySem.W.kitx_list I.kIn ⟨_,h1,rfl⟩ e (fun z=>nomatch z) h
 | @frz a ob xs ea =>
  cases (show u=Value.ref a from rx)
  obtain⟨_,_,_,n,_,h1⟩:=(show ObjOk X.prog X.w H s.heap a (.frz ob (.lst xs)) from I.hok a _ ea)
  exact PySem.W.kia_one PySem.W.kitx_list I.kIn ⟨_,h1,rfl⟩ e (fun z=>nomatch z) h
 | @tup a xs ea =>
  cases (show u=Value.ref a from rx)
  obtain⟨_,_,_,p⟩:=(show ObjOk X.prog X.w H s.heap a (.tup xs) from I.hok a _ ea)
  obtain⟨o,h1,h2,_⟩:=p
  exact PySem.W.kia_one PySem.W.kitx_tuple I.kIn ⟨o,h1,h2⟩ e (fun z=>nomatch z) h
 | @dK a kvs ea =>
  cases (show u=Value.ref a from rx)
  obtain⟨_,_,vs,_,p⟩:=(show ObjOk X.prog X.w H s.heap a (.dK kvs) from I.hok a _ ea)
  obtain⟨o,es,ep,h1,h2,_⟩:=p
  exact PySem.W.kia_one PySem.W.kitx_dict I.kIn ⟨o,h1,h2.1⟩ e (fun z=>nomatch z) h
 | @dT a kvs ea =>
  cases (show u=Value.ref a from rx)
  obtain⟨_,_,xs,_,o,es,ep,h1,h2,_⟩:=(show ObjOk X.prog X.w H s.heap a (.dT kvs) from I.hok a _ ea)
  exact PySem.W.kia_one PySem.W.kitx_dict I.kIn ⟨o,h1,h2.1⟩ e (fun z=>nomatch z) h
 | @ins a C dx fs ea cl ha hn htk hm =>
  cases (show u=Value.ref a from rx)
  obtain⟨mA,O,_⟩:=ins_get I.hok ea
  obtain⟨od,J,_⟩:=O.look
  exact PySem.W.kia_one (PySem.W.kitx_own (cl.get _) cl.hd ha hn htk hm) I.kIn J e (fun z=>nomatch z) h
end
structure Room (k:Nat) (A:Around):Prop where
 hd:A.handled=none
 dp:A.depth+3 * k+5<recursionLimit
 un:A.units+16 * k+200<cLine
theorem Room.mono {j k:Nat}{A:Around} (r:Room k A) (h:j≤k):Room j A:=⟨r.hd,by have:=r.dp; lia,by have:=r.un; lia⟩
theorem Room.deeper {k:Nat}{A:Around} (r:Room (k+1) A) (env:Env):Room k (A.deeper env) :=
 ⟨r.hd,by have:=r.dp; show A.depth+1+3 * k+5<_; lia,by have:=r.un; show A.units+3+16 * k+200<_; lia⟩
theorem make_depth {A:Around}{C:Addr}{us:List Value}{kw:List (Str×Value)}:(A.under (.builtin "type.__call__" ⟨.ref C::us,kw⟩)).depth=A.depth+1:=by
 first | rfl | simp [Around.under,Code.weight,Code.isCreation,Code.isGuard,Code.isCaller,Code.frames,Code.isFrame,guardIds]
theorem make_units {A:Around}{C:Addr}{us:List Value}{kw:List (Str×Value)}:(A.under (.builtin "type.__call__" ⟨.ref C::us,kw⟩)).units=A.units+1:=by
 first | rfl | simp [Around.under,Code.cUnits,Code.frames,Code.isFrame]
theorem Room.make {k:Nat}{A:Around} (r:Room (k+1) A) (C:Addr) (us:List Value) (kw:List (Str×Value)):Room k (A.under (.builtin "type.__call__" ⟨.ref C::us,kw⟩)) :=
 ⟨r.hd,by have:=r.dp; rw [make_depth]; lia,by have:=r.un; rw [make_units]; lia⟩
theorem Room.depth {k:Nat}{A:Around} (r:Room k A):A.depth<recursionLimit:=by have:=r.dp; lia
def tNil:TA:=fun _ H Q=>Q [] H
def tCons (ta:TE) (tr:TA):TA:=fun σ H Q=>ta σ H fun x H1=>tr σ H1 fun xs H2=>Q (x::xs) H2
section
variable {X:Cx}{e:Expr}{es:List Expr}{te:TE}{t:TA}{pos:Pos}
theorem pa_nil:PA X [] tNil:=fun _ _ _ _ H Q I h=>Calls.spliced_nil ⟨[],H,I,.nil,h⟩
theorem pa_cons (ha:PE X e te) (hr:PA X es t) (hs:starEach (e::es) X.env=(false,eval e X.env)::starEach es X.env:=by rfl):PA X (e::es) (tCons te t):=by
 intro pos pins s σ H Q I h
 rw [hs]
 show wpAny _ _ (spliced ((false,eval e X.env)::backTo pos (starEach es X.env))) _ _ s
 refine Calls.spliced_cons (thn (ha pins s σ H _ I h) fun u s1 ⟨x,H1,I1,r1,q1⟩=>?_)
 exact thn (hr pos pins s1 σ H1 _ I1 q1) fun us s2 ⟨xs,H2,I2,r2,q2⟩=>⟨x::xs,H2,I2,.cons r1 r2,q2⟩
def ahd (t:TA):TE:=fun σ H Q=>t σ H fun xs H1=>xs.length≤sizeLine∧∀ p,H1 p=none→Q (.ref p) (upd H1 p (.tup xs))
def tLst (t:TA):TE:=fun σ H Q=>t σ H fun xs H1=>xs.length≤sizeLine∧∀ p,H1 p=none→Q (.ref p) (upd H1 p (.lst xs))
theorem ahN {x1} (h:PA X es t):PE X (.Tuple es x1 pos) (ahd t):=by
 intro pins s σ H Q I hq
 refine wpAny_Tuple_spliced (thn (h pos pins s σ H _ I hq) fun us s1 ⟨xs,H1,I1,r,z,q⟩=>⟨by rw [← r.length]; exact z,?_⟩)
 have hf:H1 s1.heap.objs.size=none:=I1.hok.fresh (Nat.le_refl _)
 refine⟨.ref s1.heap.objs.size,upd H1 s1.heap.objs.size (.tup xs),I1.laid (t':=s1.toks) (fun b u e=>Heap.get?_push_of_some _ e) (Nat.le_refl _) ?_,rfl,q _ hf⟩
 exact⟨z,us,r,⟨_,Heap.get?_push_size _ rfl,rfl,_,rfl⟩⟩
theorem pe_lst (h:PA X es t):PE X (.List es pos) (tLst t):=by
 intro pins s σ H Q I hq
 refine wpAny_List_spliced (thn (h pos pins s σ H _ I hq) fun us s1 ⟨xs,H1,I1,r,z,q⟩=>⟨by rw [← r.length]; exact z,?_⟩)
 have hf:H1 s1.heap.objs.size=none:=I1.hok.fresh (Nat.le_refl _)
 refine⟨.ref s1.heap.objs.size,upd H1 s1.heap.objs.size (.lst xs),I1.laid (t':=s1.toks) (fun b u e=>Heap.get?_push_of_some _ e) (Nat.le_refl _) ?_,rfl,q _ hf⟩
 exact⟨z,us,0,r,Heap.get?_push_size _ rfl⟩
end
abbrev Sp:=List V→Hp→VK→XK→Prop
abbrev CXT:=List Env→Hp→Shared→XK→Value→Shared→Prop
structure Env0 (P:Program) (w:World) (K:PySem.W.Frag) (mg:Str→Option Value) (base:Heap) (A:Around) (outer:List Env) (s:Shared) (H:Hp):Prop where
 frames:A.frames=some outer
 mod:Mod K mg base
 bs:∀ b o,base.get? b=some o→s.heap.get? b=some o∧H b=none
 bsz:base.objs.size≤s.heap.objs.size
 funs:s.heap.FunFrames base outer
 frf:∀ b∈frs outer,H b=none
 hok:HOk P w H s.heap
 bare:AllBare s.gens
def CE (outer:List Env) (P:Program) (w:World) (H:Hp) (s:Shared) (Q:VK) (u:Value) (s':Shared):Prop :=
 ∃ v H',s'.os=s.os∧AllBare s'.gens∧Un (frs outer) [] H H' s.heap s'.heap∧HOk P w H' s'.heap∧RelV v u∧Q v H'
def CR (CX:CXT) (outer:List Env) (P:Program) (w:World) (H:Hp) (s:Shared) (Q:VK) (E:XK) (r:Result) (s':Shared):Prop :=
 match r with
 | .ok (.ret u)=>CE outer P w H s Q u s'
 | .ok _=>False
 | .error e=>CX outer H s E e s'
structure FnOk (P:Program) (w:World) (K:PySem.W.Frag) (mg:Str→Option Value) (base:Heap) (CX:CXT) (k:Nat) (f:Addr) (fd:FuncData) (ps:List Str) (sp:Sp):Prop where
 len:∀ vs H Q E,sp vs H Q E→vs.length=ps.length
 run:∀ (A:Around) (outer:List Env) (s:Shared) (H:Hp) (args:Args) (us:List Value) (vs:List V) (Q:VK) (E:XK),Room k A→Env0 P w K mg base A outer s H→BindsTo s fd args (ps.zip us)→Vals vs us→sp vs H Q E →
  codeAny (model P w) A (.call (.ref f) args) (CR CX outer P w H s Q E) s
theorem FnOk.mono {P:Program}{w:World}{K:PySem.W.Frag}{mg:Str→Option Value}{base:Heap}{CX:CXT}{j k:Nat}{f:Addr}{fd:FuncData}{ps:List Str}{sp:Sp} (F:FnOk P w K mg base CX j f fd ps sp) (h:j≤k) :
  FnOk P w K mg base CX k f fd ps sp:=⟨F.len,fun A outer s H args us vs Q E hr=>F.run A outer s H args us vs Q E (hr.mono h)⟩
theorem Env0.make {P:Program}{w:World}{K:PySem.W.Frag}{mg:Str→Option Value}{base:Heap}{A:Around}{outer:List Env}{s:Shared}{H:Hp} (e:Env0 P w K mg base A outer s H) (C:Addr) (us:List Value) (kw:List (Str×Value)) :
  Env0 P w K mg base (A.under (.builtin "type.__call__" ⟨.ref C::us,kw⟩)) outer s H:=⟨by first | exact e.frames | (simpa [Around.under,Code.envs,Code.isFrame,pushEnvs] using e.frames),e.mod,e.bs,e.bsz,e.funs,e.frf,e.hok,e.bare⟩
section
variable {X:Cx}{pins:List (Addr×Obj)}{σ:St}{H:Hp}{s s':Shared}
theorem Inv.env0 (I:Inv X pins σ H s):Env0 X.prog X.w X.K X.mg X.base X.A X.stack s H :=
 ⟨I.ok.frames,I.ok.mod,I.bs,Nat.le_trans I.ok.bsz I.sz,I.stack,I.stkFree,I.hok,I.bare⟩
theorem Inv.after {Q:VK}{u:Value} (I:Inv X pins σ H s) (h:CE X.stack X.prog X.w H s Q u s'):EP X pins σ Q u s':=by
 obtain⟨v,H',os,bare,un,hok,r,q⟩:=h
 obtain⟨hh,g,d,t,os'⟩:=s'
 obtain rfl:os'=s.os:=os
 exact⟨v,H',I.call (h':=hh) (g':=g) (d':=d) (t':=t) (ch:=[]) un hok bare (fun b z=>absurd z (by simp)),r,q⟩
end
def tCall (sp:Sp) (dvs:List V) (E:XK) (t:TA):TE:=fun σ H Q=>t σ H fun vs H1=>sp (vs++dvs) H1 Q E
def tMeth (C:Addr) (m:Str) (sp:Sp) (dvs:List V) (E:XK) (ta:TE) (t:TA):TE:=fun σ H Q=>ta σ H fun x H1=>∃ a dx fs,x=.ref a∧H1 a=some (.ins C dx fs)∧fs.lookup m=none ∧
 t σ H1 fun vs H2=>sp (x::(vs++dvs)) H2 Q E
def tMake (C:Addr) (sp:Sp) (dvs:List V) (E:XK) (t:TA):TE:=fun σ H Q=>t σ H fun vs H1=>∀ x dx,H1 x=none→H1 dx=none→dx≠x →
 sp (.ref x::(vs++dvs)) (upd (upd H1 dx (.own x)) x (.ins C dx [])) (fun v H2=>v=.non∧Q (.ref x) H2) E
def Binds (K:PySem.W.Frag) (fd:FuncData) (ps:List Str) (ds:List Value):Prop :=
 ∀ (s:Shared) (us:List Value),K.In s.heap→(us++ds).length=ps.length→BindsTo s fd ⟨us,[]⟩ (ps.zip (us++ds))
theorem Binds.all {K:PySem.W.Frag}{fd:FuncData}{ps:List Str} (h:∀ us:List Value,us.length=ps.length→bindArgs fd ⟨us,[]⟩=pure (ps.zip us)):Binds K fd ps []:=fun s us _ hl=>by
 rw [List.append_nil] at hl ⊢
 exact .of_eq (h us hl)
def Passes (CX:CXT) (X:Cx) (E:XK):Prop:=∀ (pins:List (Addr×Obj)) (σ:St) (H:Hp) (s:Shared) (e:Value) (s':Shared),Inv X pins σ H s→CX X.stack H s E e s'→X.xe e s'
section
variable {X:Cx}{CX:CXT}{k:Nat}{f C:Addr}{fd:FuncData}{ps:List Str}{sp:Sp}{dvs:List V}{ds:List Value}{E:XK}{x m:Str}{p pos apos:Pos}{e o:Expr}{es:List Expr}{ta:TE}{t:TA}
theorem run_fn {pins:List (Addr×Obj)}{σ:St}{H:Hp}{s:Shared}{Q:VK}{us:List Value}{vs:List V} (F:FnOk X.prog X.w X.K X.mg X.base CX k f fd ps sp) (hr:Room k X.A) (hb:Binds X.K fd ps ds) (hd:Vals dvs ds) (hx:Passes CX X E)
  (I:Inv X pins σ H s) (r:Vals vs us) (h:sp (vs++dvs) H Q E):wpAny (model X.prog X.w) X.A (call (.ref f) us) (EP X pins σ Q) X.xe s:=by
 have r2:Vals (vs++dvs) (us++ds):=r.append hd
 have hl:(us++ds).length=ps.length:=by rw [← r2.length]; exact F.len _ _ _ _ h
 refine wpAny_call (codeAny_mono (F.run X.A X.stack s H ⟨us,[]⟩ (us++ds) (vs++dvs) Q E hr I.env0 (hb s us I.kIn hl) r2 h) fun r s' hq=>?_)
 cases r with
 | error e=>exact hx pins σ H s e s' I hq
 | ok fl =>
  cases fl with
  | ret u=>exact I.after hq
  | next=>exact False.elim hq
  | brk=>exact False.elim hq
  | cont=>exact False.elim hq
theorem pe_call (F:FnOk X.prog X.w X.K X.mg X.base CX k f fd ps sp) (hr:Room k X.A) (hg:Gl X x) (hm:X.mg x=some (.ref f)) (hk:PySem.W.keepIn X.K (.ref f)=true) (hb:Binds X.K fd ps ds) (hd:Vals dvs ds) (hx:Passes CX X E)
  (ha:PA X (e::es) t) (hdb:(x == ("__debug__":Str))=false:=by decide) (he:starEach (e::es) X.env=(false,eval e X.env)::starEach es X.env:=by rfl) (hpl:(backTo pos (starEach es X.env)).any (·.1)=false:=by rfl) :
  PE X (.Call (.Name x p) (e::es) [] pos) (tCall sp dvs E t):=by
 intro pins s σ H Q I h
 refine wpAny_Call_Name_kw (ld_glob I hg hm ?_ hdb)
 refine PySem.W.callWith_K (h₀:=X.base) I.ok.mod.kin hk (thn (ha pos pins s σ H _ I h) fun us s1 ⟨vs,H1,I1,r,q⟩=>⟨I1.kIn,?_⟩) he hpl
 exact run_fn F hr hb hd hx I1 r q
theorem aeE (F:FnOk X.prog X.w X.K X.mg X.base CX k f fd ps sp) (hr:Room k X.A) (hg:Gl X x) (hm:X.mg x=some (.ref f)) (hk:PySem.W.keepIn X.K (.ref f)=true) (hb:Binds X.K fd ps ds) (hd:Vals dvs ds) (hx:Passes CX X E)
  (hdb:(x == ("__debug__":Str))=false:=by decide):PE X (.Call (.Name x p) [] [] pos) (tCall sp dvs E tNil):=by
 intro pins s σ H Q I h
 refine wpAny_Call_Name_kw (ld_glob I hg hm ?_ hdb)
 exact PySem.W.callWith_K0 I.kIn hk (run_fn (us:=[]) F hr hb hd hx I .nil h)
theorem pe_meth {pl:Sem Bool} (he:PE X o ta) (c:Cls X.K C) (hm:Meth X.K C m f) (F:FnOk X.prog X.w X.K X.mg X.base CX k f fd ps sp) (hr:Room k X.A) (hb:Binds X.K fd ps ds) (hd:Vals dvs ds) (hx:Passes CX X E) (ha:PA X (e::es) t)
  (hst:starEach (e::es) X.env=(false,eval e X.env)::starEach es X.env:=by rfl) (hpl:(backTo pos (starEach es X.env)).any (·.1)=false:=by rfl)
  (ht:eval (.Call (.Attribute o m apos) (e::es) [] pos) X.env=(do
   let ov ← eval o X.env
   standAt apos.atName
   let (f,first) ← holding [ov] (getMethod ov m pl)
   callWith pos f first (backTo pos (starEach (e::es) X.env)) (backToKw pos (keywordEach [] X.env))):=by rfl) :
  PE X (.Call (.Attribute o m apos) (e::es) [] pos) (tMeth C m sp dvs E ta t):=by
 intro pins s σ H Q I h
 refine PySem.W.methodCall_KW (pl:=pl) (thn (he pins s σ H _ I h) fun u s1 ⟨x,H1,I1,rx,a,dx,fs,ex,ea,l,q⟩=>?_) ht
 subst ex
 obtain rfl:u=Value.ref a:=rx
 refine getmeth_ok I1 ea c hm l ?_
 refine PySem.W.callWith_K (first:=[.ref a]) (h₀:=X.base) I.ok.mod.kin hm.kp (thn (ha pos pins s1 σ H1 _ I1 q) fun us s2 ⟨vs,H2,I2,r,q2⟩=>⟨I2.kIn,?_⟩) hst hpl
 exact run_fn (us:=.ref a::us) (vs:=.ref a::vs) F hr hb hd hx I2 (.cons rfl r) q2
theorem aeC {pl:Sem Bool} (he:PE X o ta) (c:Cls X.K C) (hm:Meth X.K C m f) (F:FnOk X.prog X.w X.K X.mg X.base CX k f fd ps sp) (hr:Room k X.A) (hb:Binds X.K fd ps ds) (hd:Vals dvs ds) (hx:Passes CX X E)
  (ht:eval (.Call (.Attribute o m apos) [] [] pos) X.env=(do
   let ov ← eval o X.env
   standAt apos.atName
   let (f,first) ← holding [ov] (getMethod ov m pl)
   callWith pos f first (backTo pos (starEach [] X.env)) (backToKw pos (keywordEach [] X.env))):=by rfl) :
  PE X (.Call (.Attribute o m apos) [] [] pos) (tMeth C m sp dvs E ta tNil):=by
 intro pins s σ H Q I h
 refine PySem.W.methodCall_KW (pl:=pl) (thn (he pins s σ H _ I h) fun u s1 ⟨x,H1,I1,rx,a,dx,fs,ex,ea,l,q⟩=>?_) ht
 subst ex
 obtain rfl:u=Value.ref a:=rx
 refine getmeth_ok I1 ea c hm l ?_
 exact PySem.W.callWith_K0 (first:=[.ref a]) I1.kIn hm.kp (run_fn (us:=[.ref a]) (vs:=[.ref a]) F hr hb hd hx I1 (.cons rfl .nil) q)
structure Mk (K:PySem.W.Frag) (C f:Addr):Prop where
 makes:PySem.W.makesIn K C=true
 init:PySem.W.findIn K (.ref C) "__init__"=some (some (.ref f))
 fn:PySem.W.isFn K (.ref f)=true
 kp:PySem.W.keepIn K (.ref C)=true
theorem run_make {pins:List (Addr×Obj)}{σ:St}{H:Hp}{s:Shared}{Q:VK}{us:List Value}{vs:List V} (M:Mk X.K C f) (F:FnOk X.prog X.w X.K X.mg X.base CX k f fd ps sp) (hr:Room (k+1) X.A) (hb:Binds X.K fd ps ds) (hd:Vals dvs ds)
  (hx:Passes CX X E) (I:Inv X pins σ H s) (r:Vals vs us)
  (h:∀ x dx,H x=none→H dx=none→dx≠x→sp (.ref x::(vs++dvs)) (upd (upd H dx (.own x)) x (.ins C dx [])) (fun v H2=>v=.non∧Q (.ref x) H2) E) :
  wpAny (model X.prog X.w) X.A (call (.ref C) us) (EP X pins σ Q) X.xe s:=by
 have hq:=h (s.heap.objs.size+1) s.heap.objs.size (I.hok.fresh (Nat.le_succ _)) (I.hok.fresh (Nat.le_refl _)) (Nat.ne_of_lt (Nat.lt_succ_self _))
 have I2:=Inv.made (C:=C) I
 have r2:Vals (V.ref (s.heap.objs.size+1)::(vs++dvs)) (Value.ref (s.heap.objs.size+1)::(us++ds)):=.cons rfl (r.append hd)
 have hl:(Value.ref (s.heap.objs.size+1)::us++ds).length=ps.length:=by
  have e:=r2.length
  rw [F.len _ _ _ _ hq] at e
  exact e.symm
 refine wpAny_call (make_map (f:=f) I.kIn M.makes M.init (beq_iff_eq.mp M.fn) (codeAny_mono (F.run _ X.stack _ _ ⟨Value.ref (s.heap.objs.size+1)::us,[]⟩ (Value.ref (s.heap.objs.size+1)::(us++ds)) _ _ E (hr.make C us [])
  (I2.env0.make C us []) (hb _ (Value.ref (s.heap.objs.size+1)::us) I2.kIn hl) r2 hq) fun r s' hq'=>?_))
 cases r with
 | error e=>exact hx pins σ _ _ e s' I2 hq'
 | ok fl =>
  cases fl with
  | ret u =>
   obtain⟨v,H',I3,rv,ev,q3⟩:=I2.after hq'
   subst ev
   exact⟨rv,⟨V.ref (s.heap.objs.size+1),H',I3,rfl,q3⟩⟩
  | next=>exact False.elim hq'
  | brk=>exact False.elim hq'
  | cont=>exact False.elim hq'
theorem agl (M:Mk X.K C f) (F:FnOk X.prog X.w X.K X.mg X.base CX k f fd ps sp) (hr:Room (k+1) X.A) (hg:Gl X x) (hm:X.mg x=some (.ref C)) (hb:Binds X.K fd ps ds) (hd:Vals dvs ds) (hx:Passes CX X E)
  (ha:PA X (e::es) t) (hdb:(x == ("__debug__":Str))=false:=by decide) (he:starEach (e::es) X.env=(false,eval e X.env)::starEach es X.env:=by rfl) (hpl:(backTo pos (starEach es X.env)).any (·.1)=false:=by rfl) :
  PE X (.Call (.Name x p) (e::es) [] pos) (tMake C sp dvs E t):=by
 intro pins s σ H Q I h
 refine wpAny_Call_Name_kw (ld_glob I hg hm ?_ hdb)
 refine PySem.W.callWith_K (h₀:=X.base) I.ok.mod.kin M.kp (thn (ha pos pins s σ H _ I h) fun us s1 ⟨vs,H1,I1,r,q⟩=>⟨I1.kIn,?_⟩) he hpl
 exact run_make M F hr hb hd hx I1 r q
end
section
variable {X:Cx}{CX:CXT}{k:Nat}{f C:Addr}{fd:FuncData}{ps ks:List Str}{sp:Sp}{E:XK}{x m:Str}{p pos apos kpos:Pos}{e o:Expr}{es:List Expr}{kws:List Keyword}{te ta:TE}{t tk:TA}{nm:Option Str}
variable {g:List Value→List Value→List Value}{gV:List V→List V→List V}
end
structure FnScope (N P:List Str) (sc:Scope):Prop where
 kind:sc.kind=.function
 co:sc.isCoroutine=false
 gen:sc.isGenerator=false
 nd:N.Nodup
 pre:N.take P.length=P
 par:∀ x∈P,sc.names.lookup x=some .local∨sc.names.lookup x=some .cell
 nofree:∀ y∈sc.names,y.2≠.free
theorem bindL_out {kindOf:Str→Option NameKind}{x:Str}:∀ {binds:List (Str×Value)}{m:Str→Option Value},(∀ v,(x,v) ∉ binds)→bindL kindOf binds m x=m x
 | [],_,_=>rfl
 | (n,v)::r,m,h=>by
  unfold bindL
  rw [bindL_out fun w hw=>h w (List.mem_cons_of_mem _ hw)]
  split
  ·have:x≠n:=by rintro rfl; exact h v List.mem_cons_self
   simp [this]
  ·rfl
theorem bindC_out {kindOf:Str→Option NameKind}{x:Str}:∀ {binds:List (Str×Value)}{m:Str→Option Value},(∀ v,(x,v) ∉ binds)→bindC kindOf binds m x=m x
 | [],_,_=>rfl
 | (n,v)::r,m,h=>by
  unfold bindC
  rw [bindC_out fun w hw=>h w (List.mem_cons_of_mem _ hw)]
  split
  ·rfl
  ·have:x≠n:=by rintro rfl; exact h v List.mem_cons_self
   simp [this]
theorem bindL_get {kindOf:Str→Option NameKind}{x:Str}{v:Value}:∀ {P:List Str}{vs:List Value}{i:Nat}{m:Str→Option Value},P.Nodup→P[i]?=some x→vs[i]?=some v→kindOf x=some .local →
  bindL kindOf (P.zip vs) m x=some v
 | [],_,_,_,_,h,_,_=>by simp at h
 | _::_,[],_,_,_,_,h,_=>by simp at h
 | p::P,w::vs,0,m,nd,h1,h2,hk=>by
  simp at h1 h2; subst h1; subst h2
  show bindL kindOf ((p,w)::P.zip vs) m p=_
  unfold bindL
  rw [bindL_out fun v hv=>(List.nodup_cons.mp nd).1 (List.of_mem_zip hv).1,if_pos hk]
  simp
 | p::P,w::vs,i+1,m,nd,h1,h2,hk=>by
  show bindL kindOf ((p,w)::P.zip vs) m x=_
  unfold bindL
  exact bindL_get (i:=i) (List.nodup_cons.mp nd).2 (by simpa using h1) (by simpa using h2) hk
theorem bindC_get {kindOf:Str→Option NameKind}{x:Str}{v:Value}:∀ {P:List Str}{vs:List Value}{i:Nat}{m:Str→Option Value},P.Nodup→P[i]?=some x→vs[i]?=some v→kindOf x≠some .local →
  bindC kindOf (P.zip vs) m x=some v
 | [],_,_,_,_,h,_,_=>by simp at h
 | _::_,[],_,_,_,_,h,_=>by simp at h
 | p::P,w::vs,0,m,nd,h1,h2,hk=>by
  simp at h1 h2; subst h1; subst h2
  show bindC kindOf ((p,w)::P.zip vs) m p=_
  unfold bindC
  rw [bindC_out fun v hv=>(List.nodup_cons.mp nd).1 (List.of_mem_zip hv).1,if_neg hk]
  simp
 | p::P,w::vs,i+1,m,nd,h1,h2,hk=>by
  show bindC kindOf ((p,w)::P.zip vs) m x=_
  unfold bindC
  exact bindC_get (i:=i) (List.nodup_cons.mp nd).2 (by simpa using h1) (by simpa using h2) hk
def start (N:List Str) (vs:List V):St:=vs.map some++List.replicate (N.length - vs.length) none
def cxOf (CX:CXT) (P:Program) (w:World) (K:PySem.W.Frag) (mg:Str→Option Value) (base:Heap) (N:List Str) (qual:Str) (scope:Scope) (f:Addr) (cd:Value) (A:Around) (outer:List Env) (s:Shared) (H:Hp) (E:XK):Cx where
 prog:=P
 w:=w
 K:=K
 mg:=mg
 base:=base
 A:=A.deeper (envOfC qual scope s.heap.objs.size f cd)
 N:=N
 s₀:=s
 H₀:=H
 env:=envOfC qual scope s.heap.objs.size f cd
 outer:=outer
 stack:=envOfC qual scope s.heap.objs.size f cd::outer
 ex:=[]
 calm:=true
 fn:=fun _=>true
 pn:=[]
 xe:=fun e s'=>wpAny (model P w) (A.deeper (envOfC qual scope s.heap.objs.size f cd)) (leaving (envOfC qual scope s.heap.objs.size f cd) e) (fun _ s''=>CX outer H s E e s'') (fun e' s''=>CX outer H s E e' s'') s'
theorem cell_has {sc:Scope}{n:Nat}{x:Str} (h:sc.names.lookup x=some .cell):∃ c,(cellsFrom n sc.names []).lookup x=some c:=by
 have q:=PySem.W.cellsFrom_some sc.names n [] (.inl h)
 exact Option.isSome_iff_exists.mp q
theorem inv_start {CX:CXT}{P:Program}{w:World}{K:PySem.W.Frag}{mg:Str→Option Value}{base:Heap}{N ps:List Str}{qual:Str}{scope:Scope}{f:Addr}{cd:Value}{A:Around}{outer:List Env}{s s1:Shared}{H:Hp}{E:XK}{us:List Value}{vs:List V}
  (S:FnScope N ps scope) (hd:A.handled=none) (e0:Env0 P w K mg base A outer s H) (hl:vs.length=ps.length) (r:Vals vs us)
  (x:InCallC s s.heap.objs.size (bindL (envOfC qual scope s.heap.objs.size f cd).kindOf (ps.zip us) fun _=>none) (cellsFrom (s.heap.objs.size+1) scope.names []) (bindC (envOfC qual scope s.heap.objs.size f cd).kindOf (ps.zip us) fun _=>none) s1) :
  Inv (cxOf CX P w K mg base N qual scope f cd A outer s H E) [] (start N vs) H s1:=by
 have hpl:ps.length≤N.length:=by have:=congrArg List.length S.pre; rw [List.length_take] at this; lia
 obtain⟨h1,tk,rfl,hk⟩:=x.done
 have noA:∀ b:Addr,b ∉ (cxOf CX P w K mg base N qual scope f cd A outer s H E).ex:=fun b z=>absurd (show b∈([]:List Addr) from z) (by simp)
 refine⟨⟨e0.mod,S.kind,rfl,rfl,Nat.le_refl _,fun y z c h1 h2=>?_,fun y hy=>?_,fun y c _ h=>?_,fun _=>hd,Around.frames_deeper e0.frames,.inr ⟨rfl,rfl⟩,fun b z=>absurd z (noA b),e0.bs,e0.bsz,fun b _ _=>noA b,fun b z=>absurd z (noA b),e0.funs,e0.frf⟩,
  rfl,e0.bare,Un.kept hk,⟨_,x.toInCall.ns,fun i y v h1 h2 h3=>?_⟩,fun y c h=>⟨_,x.cell y c h⟩,e0.hok.fresh (Nat.le_refl _),fun y c h=>?_,fun p hp=>absurd (show p∈([]:List (Addr×Obj)) from hp) (by simp),e0.hok.kept hk,?_⟩
 ·exact name_of_addr x.apart (PySem.mem_of_lookup h1) (PySem.mem_of_lookup h2)
 ·have hy:scope.names.lookup y=some .cell∨scope.names.lookup y=some .free:=hy
  rcases hy with hy | hy
  ·exact cell_has hy
  ·exact absurd rfl (S.nofree _ (PySem.mem_of_lookup hy))
 ·exact Nat.le_of_lt (x.above y c (PySem.mem_of_lookup h))
 ·have hi:i<vs.length:=by
   unfold start at h2
   by_cases hi:i<vs.length
   ·exact hi
   ·rw [List.getElem?_append_right (by simpa using hi)] at h2
    rw [List.getElem?_replicate] at h2
    split at h2 <;> cases h2
  have ha:vs[i]?=some v:=by
   unfold start at h2
   rw [List.getElem?_append_left (by simpa using hi),List.getElem?_map] at h2
   cases e:vs[i]? with
   | none=>rw [e] at h2; cases h2
   | some a=>rw [e] at h2; cases h2; rfl
  obtain⟨u,hu,rv⟩:=r.get ha
  have hp:ps[i]?=some y:=by
   rw [← S.pre,List.getElem?_take_of_lt (by lia)]; exact h1
  have ndP:ps.Nodup:=by rw [← S.pre]; exact S.nd.sublist (List.take_sublist _ _)
  refine⟨u,rv,?_⟩
  rcases S.par y (List.mem_of_getElem? hp) with k | k
  ·exact .inl ⟨k,bindL_get ndP hp hu k⟩
  ·obtain⟨c,e⟩:=cell_has (n:=s.heap.objs.size+1) k
   refine .inr ⟨.inl k,c,e,?_⟩
   have q:=x.cell y c e
   rw [bindC_get ndP hp hu (by show scope.names.lookup y≠_; rw [k]; decide)] at q
   exact q
 ·exact e0.hok.fresh (Nat.le_of_lt (x.above y c (PySem.mem_of_lookup h)))
 ·unfold start
  show _=N.length
  rw [List.length_append,List.length_map,List.length_replicate]
  lia
theorem fn_of {CX:CXT}{P:Program}{w:World}{K:PySem.W.Frag}{mg:Str→Option Value}{base:Heap}{k:Nat}{f:Addr}{name qual:Str}{params:Arguments}{body:List Stmt}{scope:Scope}{dV kV doc pm cdv ct oc:Value}{an od:Option Addr}
  {osl:Array (Option Value)}{N ps:List Str}{sp:Sp} (lk:K.lookup f=some ⟨oc,od,.func (PySem.W.fnOf name qual params body scope dV kV doc pm an cdv ct),osl⟩) (hcd:PySem.W.codeIn K cdv qual=true) (S:FnScope N ps scope)
  (len:∀ vs H Q E,sp vs H Q E→vs.length=ps.length)
  (hbody:∀ (A:Around) (outer:List Env) (s:Shared) (H:Hp) (vs:List V) (Q:VK) (E:XK),Room k (A.deeper (envOfC qual scope s.heap.objs.size f cdv))→sp vs H Q E →
   ∃ t,PSs (cxOf CX P w K mg base N qual scope f cdv A outer s H E) body t∧t { nx:=fun _ H'=>Q .non H',rt:=Q } (start N vs) H) :
  FnOk P w K mg base CX (k+1) f (PySem.W.fnOf name qual params body scope dV kV doc pm an cdv ct) ps sp:=by
 refine⟨len,fun A outer s H args us vs Q E hr e0 hb r hsp=>?_⟩
 have hl:=len _ _ _ _ hsp
 have KX:K.In s.heap:=e0.mod.kin.keeps fun b o e=>(e0.bs b o e).1
 have lim:s.heap.NoLimit:=e0.mod.nolimit.keeps fun b o e=>(e0.bs b o e).1
 have hkind:∀ y∈ps.zip us,scope.names.lookup y.1=some .local∨(scope.names.lookup y.1=some .cell∧((cellsFrom (s.heap.objs.size+1) scope.names []).lookup y.1).isSome=true):=fun ⟨n,v⟩ hy=>by
  rcases S.par n (List.of_mem_zip hy).1 with q | q
  ·exact .inl q
  ·exact .inr ⟨q,PySem.W.cellsFrom_some _ _ _ (.inl q)⟩
 refine codeAny_call_function hr.depth (KX _ _ lk) rfl S.co S.gen rfl (PySem.W.codeRec_of KX hcd) (hb _ _ _ _ ?_)
 refine wpAny_newFunctionEnv_cells S.kind hkind fun env he s1 x=>?_
 subst he
 refine⟨lim.keeps x.toInCall.keep,codeAny_func ?_⟩
 obtain⟨t,ht,hq⟩:=hbody A outer s H vs Q E (hr.deeper _) hsp
 have I:Inv (cxOf CX P w K mg base N qual scope f cdv A outer s H E) [] (start N vs) H s1:=inv_start S hr.hd e0 hl r x
 refine wpAny_mono (ht [] s1 (start N vs) H _ I hq) (fun fl s' hs=>?_) fun e s' hs=>hs
 have fin:∀ {σ':St}{H':Hp}{v:V}{u:Value},Inv (cxOf CX P w K mg base N qual scope f cdv A outer s H E) [] σ' H' s'→RelV v u→Q v H'→CE outer P w H s Q u s' :=
  fun {σ' H' v u} J rv q=>⟨v,H',J.os,J.bare,J.base,J.hok,rv,q⟩
 cases fl with
 | ret u =>
  obtain⟨v,σ',H',J,rv,q⟩:=hs
  exact fin J rv q
 | next =>
  obtain⟨σ',H',J,q⟩:=hs
  exact fin (v:=V.non) (u:=Value.none) J rfl q
 | brk =>
  obtain⟨_,_,_,q⟩:=hs
  exact False.elim q
 | cont =>
  obtain⟨_,_,_,q⟩:=hs
  exact False.elim q
section
variable {X:Cx}{x:Str}{p pos:Pos}{e:Expr}{es:List Expr}{t:TA}{id T:String}{r:List V→Hp→VK→Prop}
def tCB (r:List V→Hp→VK→Prop) (t:TA):TE:=fun σ H Q=>t σ H fun vs H1=>r vs H1 Q
theorem pe_callB (hc:CallR X (.builtin id) r) (hg:Gl X x) (hm:X.mg x=none) (hv:bootBuiltins x=some (.builtin id)) (ha:PA X (e::es) t) (hn:x≠"__name__":=by decide) (hdb:(x == ("__debug__":Str))=false:=by decide)
  (he:starEach (e::es) X.env=(false,eval e X.env)::starEach es X.env:=by rfl) (hpl:(backTo pos (starEach es X.env)).any (·.1)=false:=by rfl):PE X (.Call (.Name x p) (e::es) [] pos) (tCB r t):=by
 intro pins s σ H Q I h
 refine wpAny_Call_Name_kw (ld_blt I hg hm hv ?_ hn hdb)
 exact PyProof.Rows.callWith_builtin1 (thn (ha pos pins s σ H _ I h) fun us s1 ⟨vs,H1,I1,r1,q1⟩=>hc pins s1 σ H1 vs us Q I1 r1 q1) he hpl
theorem ac_ (hc:CallR X (.type T) r) (hg:Gl X x) (hm:X.mg x=none) (hv:bootBuiltins x=some (.type T)) (ha:PA X (e::es) t) (hn:x≠"__name__":=by decide) (hdb:(x == ("__debug__":Str))=false:=by decide)
  (he:starEach (e::es) X.env=(false,eval e X.env)::starEach es X.env:=by rfl) (hpl:(backTo pos (starEach es X.env)).any (·.1)=false:=by rfl):PE X (.Call (.Name x p) (e::es) [] pos) (tCB r t):=by
 intro pins s σ H Q I h
 refine wpAny_Call_Name_kw (ld_blt I hg hm hv ?_ hn hdb)
 exact PyProof.Rows.callWith_type1 (thn (ha pos pins s σ H _ I h) fun us s1 ⟨vs,H1,I1,r1,q1⟩=>hc pins s1 σ H1 vs us Q I1 r1 q1) he hpl
end
end L2
namespace HT
open PySem PyProof.Rows
section
open PySem.SeqAt
open PySem.AutoSeq1 (wpAny_loadPart')
open PySem.MeetsSeq PySem.MeetsSeq2 PySem.MeetsSeq3
end
section
variable {prog:Program}{w:World}{A:Around}{E:Value→Shared→Prop}{s:Shared}
theorem agU {t b:Addr}{vs ws:List Value}{Q:Value→Shared→Prop} (ht:IsTup s.heap t vs.toArray) (hb:IsTup s.heap b ws.toArray) (hv:vs≠[])
  (h1:ws=[]→Q (.ref t) s) (h2:ws≠[]→Q (.ref s.heap.objs.size) { s with heap:=s.heap.push { cls:=.type "tuple",data:=.seq (vs++ws).toArray } })
  (hsz:vs.length+ws.length≤sizeLine):wpAny (model prog w) A (binaryOp .Add (.ref t) (.ref b)) Q E s:=by
 obtain⟨⟨cls,dd,data,sl⟩,ho,hc,n,hd⟩:=id ht
 obtain⟨⟨cls2,dd2,data2,sl2⟩,ho2,hc2,n2,hd2⟩:=id hb
 simp only at hc hd hc2 hd2
 subst hc hd hc2 hd2
 have e:vs.toArray++ws.toArray=(vs++ws).toArray:=by simp
 by_cases hw:ws=[]
 ·exact concat_meets ⟨_,ho,rfl⟩ ⟨_,ho2,rfl⟩ noFill_tuple_add seq_tuple_add PySem.F.slot_tuple_add PySem.F.entry_tuple_add (PySem.F.args_tuple_add_2 _ _)
   (tuple_addW1 t b vs.toArray ws.toArray n n2 dd dd2 sl sl2 (by simpa using hv) (by simp [hw])) ⟨ho,ho2,h1 hw⟩
 ·refine concat_meets ⟨_,ho,rfl⟩ ⟨_,ho2,rfl⟩ noFill_tuple_add seq_tuple_add PySem.F.slot_tuple_add PySem.F.entry_tuple_add (PySem.F.args_tuple_add_2 _ _)
   (tuple_addW2 t b vs.toArray ws.toArray n n2 dd dd2 sl sl2 (by simpa using hv) (by simpa using hw) (by rw [List.size_toArray,List.size_toArray]; exact hsz)) ⟨ho,ho2,?_⟩
  rw [e]
  exact h2 hw
def sIx (n d:Nat):Option Int→Nat
 | none=>d
 | some v=>if v<0 then (v+(n:Int)).toNat else min v.toNat n
theorem Ww (n d:Nat):sIx n d none=d:=rfl
theorem aar (n d k:Nat):sIx n d (some (k:Int))=min k n:=by
 show (if (k:Int)<0 then ((k:Int)+(n:Int)).toNat else min (k:Int).toNat n)=min k n
 rw [if_neg (by lia),Int.toNat_natCast]
theorem ahu (n d:Nat) (hd:d≤n) (o:Option Int):sIx n d o≤n:=by
 cases o with
 | none=>exact hd
 | some v =>
  show (if v<0 then (v+(n:Int)).toNat else min v.toNat n)≤n
  by_cases hv:v<0
  ·rw [if_pos hv]; lia
  ·rw [if_neg hv]; exact Nat.min_le_right _ _
theorem aaN (v:Int) (n d:Nat):(if v<0 then max (v+(n:Int)) 0 else min v (n:Int))=((sIx n d (some v):Nat):Int):=by
 show (if v<0 then max (v+(n:Int)) 0 else min v (n:Int))=(((if v<0 then (v+(n:Int)).toNat else min v.toNat n):Nat):Int)
 by_cases hv:v<0
 ·simp only [if_pos hv]; lia
 ·simp only [if_neg hv]; lia
theorem ace (lo hi:Option Int) (n:Nat):Builtin.Slice.sliceAdjust lo hi 1 (n:Int)=(((sIx n 0 lo:Nat):Int),((sIx n n hi:Nat):Int)):=by
 have h1:¬ ((1:Int)<0):=by lia
 unfold Builtin.Slice.sliceAdjust
 simp only [h1,if_false]
 refine Prod.ext ?_ ?_
 ·cases lo with
  | none=>rfl
  | some v=>exact aaN v n 0
 ·cases hi with
  | none=>rfl
  | some v=>exact aaN v n n
theorem abn (i j:Nat):Builtin.Slice.slicePlaces (i:Int) (j:Int) 1=j - i:=by
 unfold Builtin.Slice.slicePlaces
 have h1:(1:Int) > 0:=by lia
 simp only [h1,if_true,Int.ediv_one]
 split <;> lia
theorem Pn {v:Value}{o:Option Int}{Q:Option Int→Shared→Prop} (p:IsPart v o) (h:Q o s):wpAny (model prog w) A (Builtin.Slice.slicePartIndex v) Q E s:=by
 cases p with
 | none=>exact slicePart_none h
 | int i t=>exact slicePart_int h
theorem zL {sl:Addr}{vl vu:Value}{lo hi:Option Int}{n:Nat}{Q:Int×Int×Nat→Shared→Prop} (hs:s.heap.IsSliceOf sl vl vu .none) (pl:IsPart vl lo) (pu:IsPart vu hi)
  (h:Q (((sIx n 0 lo:Nat):Int),1,sIx n n hi - sIx n 0 lo) s):wpAny (model prog w) A (Builtin.Slice.sliceApplied (.ref sl) (pure (n:Int))) Q E s:=by
 obtain⟨os,hos,hcs,hds⟩:=id hs
 unfold Builtin.Slice.sliceApplied Builtin.Slice.sliceFields
 refine wpAny_bind (wpAny_bind (wpAny_field hos hds (x:=vl) rfl (wpAny_bind (wpAny_field hos hds (x:=vu) rfl (wpAny_bind (wpAny_field hos hds (x:=.none) rfl (wpAny_pure ?_)))))))
 refine wpAny_bind (slicePart_none ?_)
 show wpAny _ _ (if ((1:Int) == 0)=true then _ else _) _ _ s
 rw [if_neg (by decide)]
 refine wpAny_bind (Pn pl (wpAny_bind (Pn pu (wpAny_bind (wpAny_pure ?_)))))
 show wpAny _ _ (match Builtin.Slice.sliceAdjust lo hi 1 (n:Int) with | (lo,hi)=>pure (lo,(1:Int),Builtin.Slice.slicePlaces lo hi 1)) _ _ s
 rw [ace lo hi n]
 show wpAny _ _ (pure (((sIx n 0 lo:Nat):Int),(1:Int),Builtin.Slice.slicePlaces ((sIx n 0 lo:Nat):Int) ((sIx n n hi:Nat):Int) 1)) _ _ s
 rw [abn]
 exact wpAny_pure h
theorem aez (xs:Array Value) (i k:Nat):((List.range k).filterMap fun (m:Nat)=>xs[((i:Int)+(m:Int) * 1).toNat]?).toArray=((xs.toList.drop i).take k).toArray:=by
 have e:(fun (m:Nat)=>xs[((i:Int)+(m:Int) * 1).toNat]?)=fun m=>xs[i+m]?:=by
  funext m
  have:((i:Int)+(m:Int) * 1).toNat=i+m:=by lia
  rw [this]
 rw [e]
 have:=pick_run xs i k
 rw [List.filterMap_map] at this
 have e2:((fun x=>xs[x]?)∘fun x=>i+x)=fun m=>xs[i+m]?:=rfl
 rw [e2] at this
 rw [this]
theorem K7 {t sl:Addr}{items:Array Value}{vl vu:Value}{lo hi:Option Int}{Q:Value→Shared→Prop} (ht:IsTup s.heap t items) (hs:s.heap.IsSliceOf sl vl vu .none) (pl:IsPart vl lo) (pu:IsPart vu hi)
  (hw:¬ (sIx items.size 0 lo=0∧sIx items.size items.size hi=items.size))
  (h:Q (.ref s.heap.objs.size) { s with heap:=s.heap.push { cls:=.type "tuple",data:=.seq ((items.toList.drop (sIx items.size 0 lo)).take (sIx items.size items.size hi - sIx items.size 0 lo)).toArray } })
  (hsz:items.size≤sizeLine):wpAny (model prog w) A (getItem (.ref t) (.ref sl)) Q E s:=by
 have Vv:sizeOk (.seq ((items.toList.drop (sIx items.size 0 lo)).take (sIx items.size items.size hi - sIx items.size 0 lo)).toArray):=by
  show ((items.toList.drop (sIx items.size 0 lo)).take (sIx items.size items.size hi - sIx items.size 0 lo)).toArray.size≤sizeLine
  rw [List.size_toArray,List.length_take,List.length_drop,Array.length_toList]
  lia
 have hj:sIx items.size items.size hi≤items.size:=ahu _ _ (Nat.le_refl _) hi
 obtain⟨os,hos,hcs,hds⟩:=id hs
 have hTs:s.TypeIs (.ref sl) "slice":=⟨os,hos,hcs⟩
 unfold getItem
 try with_reducible refine wpAny_holding ?_
 first | refine wpAny_bind (wpAny_pure ?_) | skip
 refine wpAny_bind (wpAny_sequenceKey ht.typeIs (by decide) ?_)
 refine wpAny_bind (wpAny_callSpecial?_slot (name:=Str.ofString "__getitem__") ht.typeIs PyProof.Rows.slot_tuple_getitem
  (wpAny_call_entry PyProof.Rows.slot_tuple_getitem ht.typeIs entry_tuple_getitem ?_ (args_tuple_getitem _ _)))
 show wpAny _ _ (Builtin.Tuple.tupleItemsOf (.ref t) >>= _) _ _ s
 refine wpAny_bind (tupleItemsOf_ ht ?_)
 refine wpAny_bind (wpAny_typeOf hTs ?_)
 rw [if_pos (by decide)]
 refine wpAny_bind (zL hs pl pu ?_)
 have hno:¬ ((((sIx items.size 0 lo:Nat):Int) == 0 && (1:Int) == 1 && (sIx items.size items.size hi - sIx items.size 0 lo) == items.size)=true):=by
  intro q
  rw [Bool.and_eq_true,Bool.and_eq_true] at q
  have q1:((sIx items.size 0 lo:Nat):Int)=0:=eq_of_beq q.1.1
  have q2:sIx items.size items.size hi - sIx items.size 0 lo=items.size:=eq_of_beq q.2
  exact hw ⟨by lia,by lia⟩
 show wpAny _ _ (if (((sIx items.size 0 lo:Nat):Int) == 0 && (1:Int) == 1 && (sIx items.size items.size hi - sIx items.size 0 lo) == items.size)=true then _ else _) _ _ s
 rw [if_neg hno,aez]
 first
  | exact wpAny_bind (m:=Builtin.Tuple.tupleExact _) (wpAny_newObj_type (wpAny_pure ⟨_,rfl,wpAny_pure h⟩) Vv)
  | exact wpAny_bind (m:=Builtin.Tuple.tupleExact _) (wpAny_newObj_type (wpAny_bind (wpAny_pure (wpAny_pure ⟨_,rfl,wpAny_pure h⟩))) Vv)
  | exact wpAny_bind (wpAny_bind (m:=Builtin.Tuple.tupleExact _) (wpAny_newObj_type (wpAny_pure (wpAny_pure ⟨_,rfl,wpAny_pure h⟩)) Vv))
  | exact wpAny_bind (wpAny_bind (m:=Builtin.Tuple.tupleExact _) (wpAny_newObj_type (wpAny_pure ⟨_,rfl,wpAny_pure h⟩) Vv))
end
end HT
namespace L2
open PySem PySem.Spec PyProof.Rows
abbrev TO:=St→Hp→(Option Int→Hp→Prop)→Prop
def PO (X:Cx) (e:Option Expr) (t:TO):Prop :=
 ∀ (pins:List (Addr×Obj)) (s:Shared) (σ:St) (H:Hp) (Q:Option Int→Hp→Prop),Inv X pins σ H s→t σ H Q →
  wpAny (model X.prog X.w) X.A (evalPart e X.env) (fun u s'=>∃ o H',Inv X pins σ H' s'∧IsPart u o∧Q o H') X.xe s
def QZ:TO:=fun _ H Q=>Q none H
def aft (t:TE):TO:=fun σ H Q=>t σ H fun x H1=>∃ i,x=.int i∧Q (some i) H1
theorem intsAre_of {ns:List Int}:∀ {us:List Value},Vals (ns.map V.int) us→IntsAre us ns:=by
 induction ns with
 | nil=>intro us r; rw [List.map_nil] at r; cases r; exact .nil
 | cons n ns ih =>
  intro us r
  rw [List.map_cons] at r
  cases r with
  | cons r1 r2 =>
   obtain⟨t,e⟩:=r1
   subst e
   exact .cons n t (ih r2)
section
variable {X:Cx}{e:Expr}{te:TE}{lo hi:Option Expr}{tl th:TO}{pos p2:Pos}
theorem agf:PO X none QZ:=by
 intro pins s σ H Q I h
 rw [evalPart_none]
 exact wpAny_pure ⟨none,H,I,.none,h⟩
theorem agd (h:PE X e te):PO X (some e) (aft te):=by
 intro pins s σ H Q I hw
 rw [evalPart_some]
 refine thn (h pins s σ H _ I hw) fun u s1 ⟨x,H1,I1,r1,q1⟩=>?_
 obtain⟨i,rfl,q⟩:=q1
 obtain⟨t,rfl⟩:=r1
 exact⟨some i,H1,I1,.int i t,q⟩
def SlR (X:Cx) (r:V→Option Int→Option Int→Hp→VK→Prop):Prop :=
 ∀ (pins:List (Addr×Obj)) (s:Shared) (σ:St) (H:Hp) (x:V) (v vl vu:Value) (lo hi:Option Int) (sl:Addr) (Q:VK),Inv X pins σ H s→RelV x v→s.heap.IsSliceOf sl vl vu .none→IsPart vl lo→IsPart vu hi→r x lo hi H Q →
  ∃ T id,typeLookup (.type T) "__getitem__"=pure (some (.builtin id))∧s.TypeIs v T∧wpAny (model X.prog X.w) X.A (getItem v (.ref sl)) (EP X pins σ Q) X.xe s
def tSl (r:V→Option Int→Option Int→Hp→VK→Prop) (te:TE) (tl th:TO):TE:=fun σ H Q=>te σ H fun x H1=>tl σ H1 fun l H2=>th σ H2 fun u H3=>r x l u H3 Q
theorem aeB {r:V→Option Int→Option Int→Hp→VK→Prop} (hr:SlR X r) (he:PE X e te) (hl:PO X lo tl) (hu:PO X hi th):PE X (.Subscript e (.Slice lo hi none p2) pos) (tSl r te tl th):=by
 intro pins s σ H Q I h
 refine Subscript_ (thn (he pins s σ H _ I h) fun v s1 ⟨x,H1,I1,r1,q1⟩=>?_)
 refine wpAny_Slice (thn (hl pins s1 σ H1 _ I1 q1) fun vl s2 ⟨l,H2,I2,pl,q2⟩=>thn (hu pins s2 σ H2 _ I2 q2) fun vu s3 ⟨u,H3,I3,pu,q3⟩=>?_)
 rw [evalPart_none]
 refine wpAny_pure ?_
 have I4:Inv X pins σ H3 { s3 with heap:=s3.heap.push { cls:=.type "slice",data:=.fields #[vl,vu,.none] } }:=I3.kept (t':=s3.toks) fun b ob q=>Heap.get?_push_of_some _ q
 obtain⟨T,id,hT,ht,hg⟩:=hr pins { s3 with heap:=s3.heap.push { cls:=.type "slice",data:=.fields #[vl,vu,.none] } } σ H3 x v vl vu l u s3.heap.objs.size Q I4 r1 (Heap.IsSliceOf.new ..) pl pu q3
 show wpAny (model X.prog X.w) X.A (subscriptTail e (.Slice lo hi none p2) v (.ref s3.heap.objs.size)) (EP X pins σ Q) X.xe { s3 with heap:=s3.heap.push { cls:=.type "slice",data:=.fields #[vl,vu,.none] } }
 exact tail_any (ops:=[.ref s3.heap.objs.size,v]) ht hT hg (by with_unfolding_all rfl)
def qZ (xs:List V) (lo hi:Option Int):List V:=(xs.drop (HT.sIx xs.length 0 lo)).take (HT.sIx xs.length xs.length hi - HT.sIx xs.length 0 lo)
theorem Lj (xs:List V) (lo hi:Option Int):(qZ xs lo hi).length≤xs.length:=by
 unfold qZ
 rw [List.length_take,List.length_drop]
 lia
def alo (K:PySem.W.Frag):V→Option Int→Option Int→Hp→VK→Prop:=fun x lo hi H Q=>∃ a xs,x=.ref a∧SqT K H a xs ∧
 ¬ (HT.sIx xs.length 0 lo=0∧HT.sIx xs.length xs.length hi=xs.length)∧∀ p,H p=none→Q (.ref p) (upd H p (.tup (qZ xs lo hi)))
theorem ahr:SlR X (alo X.K):=by
 intro pins s σ H x v vl vu lo hi sl Q I rx hs pl pu h
 obtain⟨a,xs,rfl,hx,hw,q⟩:=h
 cases rx
 obtain⟨its,r,ht,hz⟩:=I.tuple hx
 have hlen:its.toArray.size=xs.length:=by rw [List.size_toArray]; exact r.length.symm
 refine⟨"tuple",_,PyProof.Rows.slot_tuple_getitem.lookup,ht.typeIs,?_⟩
 refine HT.K7 ht hs pl pu (by rw [hlen]; exact hw) ?_ (by rw [hlen]; exact hz)
 rw [hlen]
 refine⟨.ref s.heap.objs.size,_,I.laid (t':=s.toks) (o:=.tup (qZ xs lo hi)) (fun b ob q=>Heap.get?_push_of_some _ q) (Nat.le_refl _) ?_,rfl,q _ (I.hok.fresh (Nat.le_refl _))⟩
 exact⟨Nat.le_trans (Lj xs lo hi) hz,_,(r.drop (HT.sIx xs.length 0 lo)).take (HT.sIx xs.length xs.length hi - HT.sIx xs.length 0 lo),IsTup.new _ _⟩
def ajY (K:PySem.W.Frag):R2:=fun x y H Q=>∃ a b xs ys,x=.ref a∧y=.ref b∧SqT K H a xs∧SqT K H b ys∧xs≠[]∧xs.length+ys.length≤sizeLine ∧
 (ys=[]→Q (.ref a) H)∧(ys≠[]→∀ p,H p=none→Q (.ref p) (upd H p (.tup (xs++ys))))
theorem Vals.Ed {xs:List V}{us:List Value} (r:Vals xs us):us=[]↔xs=[]:=by
 cases r with
 | nil=>simp
 | cons _ _=>simp
theorem ago:OpR X (binaryOp .Add) (ajY X.K):=by
 intro pins s σ H x y v u Q I rx ry h
 obtain⟨a,b,xs,ys,rfl,rfl,ha,hb,hx,hz,q1,q2⟩:=h
 cases rx
 cases ry
 obtain⟨its,r1,p1,_⟩:=I.tuple ha
 obtain⟨its2,r2,p2,_⟩:=I.tuple hb
 refine HT.agU p1 p2 (fun z=>hx (r1.Ed.mp z)) (fun z=>⟨.ref a,H,I,rfl,q1 (r2.Ed.mp z)⟩) (fun z=>?_) (by rw [← r1.length,← r2.length]; exact hz)
 refine⟨.ref s.heap.objs.size,_,I.laid (t':=s.toks) (o:=.tup (xs++ys)) (fun b ob q=>Heap.get?_push_of_some _ q) (Nat.le_refl _) ?_,rfl,q2 (fun w=>z (r2.Ed.mpr w)) _ (I.hok.fresh (Nat.le_refl _))⟩
 exact⟨by rw [List.length_append]; exact hz,_,r1.append r2,IsTup.new _ _⟩
end
def ixN (n:Nat) (i:Int):Option Nat:=if 0≤i then (if i<n then some i.toNat else none) else if -(n:Int)≤i then some (i+n).toNat else none
def atI {α:Type} (xs:List α) (i:Int):Option α:=(ixN xs.length i).bind fun j=>xs[j]?
theorem ixN_seq {n:Nat}{i:Int}{j:Nat} (h:ixN n i=some j):seqIndex? i n=some j∧j<n∧-(n:Int)≤i∧i<n:=by
 unfold ixN at h
 by_cases h0:0≤i
 ·rw [if_pos h0] at h
  by_cases h1:i<n
  ·rw [if_pos h1] at h
   have e:i.toNat=j:=Option.some.inj h
   exact⟨by rw [seqIndex_of h0 h1,e],by lia,by lia,h1⟩
  ·rw [if_neg h1] at h; cases h
 ·rw [if_neg h0] at h
  by_cases h1:-(n:Int)≤i
  ·rw [if_pos h1] at h
   have e:(i+n).toNat=j:=Option.some.inj h
   exact⟨by rw [seqIndex_neg (by lia) h1,e],by lia,h1,by lia⟩
  ·rw [if_neg h1] at h; cases h
theorem atI_get {α:Type}{xs:List α}{i:Int}{v:α} (h:atI xs i=some v):∃ j,seqIndex? i xs.length=some j∧xs[j]?=some v∧j<xs.length∧-(xs.length:Int)≤i∧i<xs.length:=by
 unfold atI at h
 cases e:ixN xs.length i with
 | none=>rw [e] at h; cases h
 | some j =>
  rw [e] at h
  obtain⟨h1,h2,h3,h4⟩:=ixN_seq e
  exact⟨j,h1,h,h2,h3,h4⟩
theorem atI_nat {α:Type}{xs:List α}{j:Nat}{v:α} (h:xs[j]?=some v):atI xs (j:Int)=some v:=by
 have hj:j<xs.length:=(List.getElem?_eq_some_iff.mp h).1
 have e:ixN xs.length (j:Int)=some j:=by
  unfold ixN
  rw [if_pos (by lia),if_pos (by lia)]; simp
 unfold atI; rw [e]; exact h
def PlainIx (b:Expr):Prop:=∀ o i,subscripted b false o i=operate [o,i] (getItem o i)
def IxR (X:Cx) (r:R2):Prop :=
 ∀ (value slice:Expr) (pins:List (Addr×Obj)) (s:Shared) (σ:St) (H:Hp) (x y:V) (v u:Value) (Q:VK),Inv X pins σ H s→RelV x v→RelV y u→r x y H Q →
  subscripted slice false v u=operate [v,u] (getItem v u)→wpAny (model X.prog X.w) X.A (subscriptTail value slice v u) (EP X pins σ Q) X.xe s
def MtR (X:Cx) (id:String) (r:V→List V→Hp→VK→Prop):Prop :=
 ∀ (pins:List (Addr×Obj)) (s:Shared) (σ:St) (H:Hp) (x:V) (xs:List V) (v:Value) (us:List Value) (Q:VK),Inv X pins σ H s→RelV x v→Vals xs us→r x xs H Q →
  wpAny (model X.prog X.w) X.A (call (.builtin id) (v::us)) (EP X pins σ Q) X.xe s
section
variable {X:Cx}{a b:Expr}{ta tb:TE}{pos:Pos}
theorem pe_ix {r:R2} (hr:IxR X r) (ha:PE X a ta) (hb:PE X b tb) (hs:PlainIx b):PE X (.Subscript a b pos) (tOp r ta tb):=by
 intro pins s σ H Q I h
 exact Subscript_ (binT ha hb I h fun v u s2 x y H2 I2 rx ry q=>hr a b pins s2 σ H2 x y v u Q I2 rx ry q (hs _ _))
def rIxL (K:PySem.W.Frag):R2:=fun x y H Q=>∃ p xs i v,x=.ref p∧y=.int i∧SqL K H p xs∧atI xs i=some v∧Q v H
def aer (K:PySem.W.Frag):R2:=fun x y H Q=>∃ p xs i v,x=.ref p∧y=.int i∧SqT K H p xs∧atI xs i=some v∧Q v H
theorem ix_list:IxR X (rIxL X.K):=by
 intro value slice pins s σ H x y v u Q I rx ry h hs
 obtain⟨p,xs,i,z,rfl,rfl,hq,he,q⟩:=h
 cases rx
 obtain⟨t,rfl⟩:=ry
 obtain⟨its,r,pl,hz⟩:=I.list hq
 obtain⟨j,h1,h2,h3,h4,h5⟩:=atI_get he
 obtain⟨w,ew,rw'⟩:=r.get h2
 have hl:=r.length
 have hn:=line63
 have fin:EP X pins σ Q w s:=⟨z,H,I,rw',q⟩
 by_cases h0:0≤i
 ·have hj:i.toNat=j:=by
   rw [seqIndex_of h0 h5] at h1
   exact Option.some.inj h1
  exact item_listR pl.isList h0 (by lia) (by rw [hj]; simpa using ew) fin hs
 ·have hj:(i+(its.toArray.size:Int)).toNat=j:=by
   rw [seqIndex_neg (by lia) h4] at h1
   rw [List.size_toArray,← hl]
   exact Option.some.inj h1
  exact subscriptTail_builtinR (x:=w) pl.isList.typeIs slot_list_getitem.lookup
   (wpAny_getItem_list_neg (Q:=fun r s'=>r=w∧EP X pins σ Q r s') pl.isList (by lia) (by rw [List.size_toArray] <;> lia) (by lia) (by rw [hj]; simpa using ew) ⟨rfl,fin⟩) hs
theorem bF:IxR X (aer X.K):=by
 intro value slice pins s σ H x y v u Q I rx ry h hs
 obtain⟨p,xs,i,z,rfl,rfl,hq,he,q⟩:=h
 cases rx
 obtain⟨t,rfl⟩:=ry
 obtain⟨its,r,pl,hz⟩:=I.tuple hq
 obtain⟨j,h1,h2,h3,h4,h5⟩:=atI_get he
 obtain⟨w,ew,rw'⟩:=r.get h2
 have hl:=r.length
 have hn:=line63
 have fin:EP X pins σ Q w s:=⟨z,H,I,rw',q⟩
 exact subscriptTail_builtinR (x:=w) pl.typeIs slot_tuple_getitem.lookup
  (getItem_tuple (j:=j) (Q:=fun r s'=>r=w∧EP X pins σ Q r s') pl (by lia) (by lia) (by rw [List.size_toArray,← hl]; exact h1) (by simpa using ew) ⟨rfl,fin⟩) hs
theorem abG (its:List Value) (n j:Nat) (u:Value):Obj.mapSeq (·.setIfInBounds j u) { cls:=.type "list",data:=.seq its.toArray n }={ cls:=.type "list",data:=.seq (its.set j u).toArray n }:=by
 simp [Obj.mapSeq]
theorem Inv.lst {pins:List (Addr×Obj)}{σ:St}{H:Hp}{s:Shared}{p:Addr}{xs:List V} (I:Inv X pins σ H s) (h:H p=some (.lst xs)) :
  ∃ (its:List Value) (n:Nat),Vals xs its∧s.heap.get? p=some { cls:=.type "list",data:=.seq its.toArray n }∧xs.length≤sizeLine:=by
 obtain⟨z,its,n,r,e⟩:=I.hok p _ h
 exact⟨its,n,r,e,z⟩
theorem Inv.ah7 {pins:List (Addr×Obj)}{σ:St}{H:Hp}{s:Shared}{p:Addr}{xs ys:List V}{its its':List Value}{n n':Nat}{f:Obj→Obj} (I:Inv X pins σ H s) (h:H p=some (.lst xs))
  (ho:s.heap.get? p=some { cls:=.type "list",data:=.seq its.toArray n }) (hf:f { cls:=.type "list",data:=.seq its.toArray n }={ cls:=.type "list",data:=.seq its'.toArray n' }) (r:Vals ys its') (hz:ys.length≤sizeLine) (t:Nat) :
  Inv X pins σ (upd H p (.lst ys)) { s with heap:=s.heap.update p f,toks:=t }:=by
 have e:(s.heap.update p f).get? p=some { cls:=.type "list",data:=.seq its'.toArray n' }:=by
  rw [Heap.get?_update_self f ho (by rw [hf] <;> rfl),hf]
 refine I.write (x:=p) (e:=p) (by rw [h]; trivial) (.inl rfl) (fun b u hb q=>(Heap.get?_update_other _ _ (Ne.symm hb)).trans q) ⟨_,e⟩ ?_
 exact⟨hz,its',n',r,e⟩
def ajU:V→V→V→Hp→(Hp→Prop)→Prop:=fun o i v H Q=>∃ p xs k j,o=.ref p∧i=.int k∧H p=some (.lst xs)∧ixN xs.length k=some j∧Q (upd H p (.lst (xs.set j v)))
theorem set_list:YW X ajU:=by
 intro pins s σ H o i v ov iv u Q I ro ri rv h
 obtain⟨p,xs,k,j,rfl,rfl,hp,hj,q⟩:=h
 cases ro
 obtain⟨t,rfl⟩:=ri
 obtain⟨its,n,r,ho,hz⟩:=I.lst hp
 obtain⟨h1,h2,h3,h4⟩:=ixN_seq hj
 have hl:=r.length
 have hn:=line63
 have I':Inv X pins σ (upd H p (.lst (xs.set j v))) { s with heap:=s.heap.update p (Obj.mapSeq (·.setIfInBounds j u)) } :=
  I.ah7 hp ho (abG its n j u) (r.set rv j) (by rw [List.length_set]; exact hz) s.toks
 by_cases h0:0≤k
 ·have hk:k.toNat=j:=by
   rw [seqIndex_of h0 h4] at h1
   exact Option.some.inj h1
  exact PySem.W.ki_setAt ho h0 (by lia) (by rw [List.size_toArray,← hl]; exact h4) (by rw [hk]; exact⟨_,I',q⟩)
 ·have hk:(k+(its.toArray.size:Int)).toNat=j:=by
   rw [seqIndex_neg (by lia) h3] at h1
   rw [List.size_toArray,← hl]
   exact Option.some.inj h1
  exact PySem.W.ki_setBack ho (by lia) (by rw [List.size_toArray,← hl]; exact h3) (by lia) (by rw [hk]; exact⟨_,I',q⟩)
theorem Wf (lo hi:Option Int) (n:Nat):(sliceBounds lo hi none n).1=((HT.sIx n 0 lo:Nat):Int)∧(sliceBounds lo hi none n).2.1=((HT.sIx n n hi:Nat):Int)∧(sliceBounds lo hi none n).2.2=1:=by
 refine⟨?_,?_,rfl⟩
 ·cases lo with
  | none=>simp [sliceBounds,HT.sIx]
  | some i =>
   simp only [sliceBounds,HT.sIx,Option.getD_none,show (1:Int) > 0 by decide,if_true]
   by_cases h:i<0
   ·simp only [h,if_true] <;> lia
   ·simp only [h,if_false] <;> lia
 ·cases hi with
  | none=>simp [sliceBounds,HT.sIx]
  | some i =>
   simp only [sliceBounds,HT.sIx,Option.getD_none,show (1:Int) > 0 by decide,if_true]
   by_cases h:i<0
   ·simp only [h,if_true] <;> lia
   ·simp only [h,if_false] <;> lia
theorem Uu (its:List Value) (lo hi:Option Int):slicePick its.toArray lo hi none=((its.drop (HT.sIx its.length 0 lo)).take (HT.sIx its.length its.length hi - HT.sIx its.length 0 lo)).toArray:=by
 obtain⟨h1,h2,h3⟩:=Wf lo hi its.toArray.size
 unfold slicePick
 rw [h1,h2,h3]
 simp only [sliceRange_one,pick_run,List.size_toArray] <;> rfl
def alp (K:PySem.W.Frag):V→Option Int→Option Int→Hp→VK→Prop:=fun x lo hi H Q=>∃ a xs,x=.ref a∧SqL K H a xs∧∀ p,H p=none→Q (.ref p) (upd H p (.lst (qZ xs lo hi)))
theorem afV:SlR X (alp X.K):=by
 intro pins s σ H x v vl vu lo hi sl Q I rx hs pl pu h
 obtain⟨a,xs,rfl,hx,q⟩:=h
 cases rx
 obtain⟨its,r,ht,hz⟩:=I.list hx
 have hlen:=r.length
 refine⟨"list",_,slot_list_getitem.lookup,ht.isList.typeIs,?_⟩
 refine wpAny_getItem_list_slice ht.isList hs pl pu .none (by simp) ?_ (by rw [List.size_toArray] <;> lia)
 rw [Uu,← hlen]
 refine⟨.ref s.heap.objs.size,_,I.laid (t':=s.toks) (o:=.lst (qZ xs lo hi)) (fun b ob q=>Heap.get?_push_of_some _ q) (Nat.le_refl _) ?_,rfl,q _ (I.hok.fresh (Nat.le_refl _))⟩
 exact⟨Nat.le_trans (Lj xs lo hi) hz,_,0,(r.drop (HT.sIx xs.length 0 lo)).take (HT.sIx xs.length xs.length hi - HT.sIx xs.length 0 lo),Heap.get?_push_size _ rfl⟩
def Ks:V→Bool
 | .non=>true
 | .bl _=>true
 | .int _=>true
 | .str _=>true
 | _=>false
def eqV:V→V→Bool
 | .non,.non=>true
 | .bl a,.bl b=>a == b
 | .bl a,.int b=>(if a then 1 else 0) == b
 | .int a,.bl b=>a == (if b then 1 else 0)
 | .int a,.int b=>a == b
 | .str a,.str b=>a == b
 | _,_=>false
theorem aix {A:Around}{s:Shared}{y x:V}{u v:Value} (ry:RelV y u) (rx:RelV x v) (fy:Ks y=true) (fx:Ks x=true):SeqAt.EqAt A s u v (eqV y x):=by
 cases y with
 | non =>
  cases ry
  cases x with
  | non=>cases rx; exact SeqAt.EqAt.same _
  | bl b=>cases rx; exact SeqAt.EqAt.none_bool b
  | int b=>obtain⟨t,rfl⟩:=rx; exact SeqAt.EqAt.none_int b t
  | str b=>obtain⟨t,rfl⟩:=rx; exact SeqAt.EqAt.none_str b t
  | _=>exact absurd (show false=true from fx) Bool.false_ne_true
 | bl a =>
  cases ry
  cases x with
  | non=>cases rx; exact SeqAt.EqAt.bool_none a
  | bl b=>cases rx; exact SeqAt.EqAt.bool_bool a b
  | int b=>obtain⟨t,rfl⟩:=rx; exact SeqAt.EqAt.bool_int a b t
  | str b=>obtain⟨t,rfl⟩:=rx; exact SeqAt.EqAt.bool_str a b t
  | _=>exact absurd (show false=true from fx) Bool.false_ne_true
 | int a =>
  obtain⟨t',rfl⟩:=ry
  cases x with
  | non=>cases rx; exact SeqAt.EqAt.int_none a t'
  | bl b=>cases rx; exact SeqAt.EqAt.int_bool a t' b
  | int b=>obtain⟨t,rfl⟩:=rx; exact SeqAt.EqAt.int_int a t' b t
  | str b=>obtain⟨t,rfl⟩:=rx; exact SeqAt.EqAt.int_str a t' b t
  | _=>exact absurd (show false=true from fx) Bool.false_ne_true
 | str a =>
  obtain⟨t',rfl⟩:=ry
  cases x with
  | non=>cases rx; exact SeqAt.EqAt.str_none a t'
  | bl b=>cases rx; exact SeqAt.EqAt.str_bool a t' b
  | int b=>obtain⟨t,rfl⟩:=rx; exact SeqAt.EqAt.str_int a t' b t
  | str b=>obtain⟨t,rfl⟩:=rx; exact SeqAt.EqAt.str_str a t' b t
  | _=>exact absurd (show false=true from fx) Bool.false_ne_true
 | _=>exact absurd (show false=true from fy) Bool.false_ne_true
def eqU (x:V) (u:Value):Bool:=match u with
 | .none=>eqV .non x
 | .bool b=>eqV (.bl b) x
 | .int i _=>eqV (.int i) x
 | .str z _=>eqV (.str z) x
 | _=>false
theorem adE {x y:V}{u:Value} (r:RelV y u) (f:Ks y=true):eqU x u=eqV y x:=by
 cases y with
 | non=>cases r; rfl
 | bl b=>cases r; rfl
 | int i=>obtain⟨t,rfl⟩:=r; rfl
 | str z=>obtain⟨t,rfl⟩:=r; rfl
 | _=>exact absurd (show false=true from f) Bool.false_ne_true
theorem Xh {A:Around}{s:Shared}{x:V}{v:Value} (rx:RelV x v) (fx:Ks x=true):∀ {xs:List V}{us:List Value},Vals xs us→xs.all Ks=true→∀ u∈us,SeqAt.EqAt A s u v (eqU x u)
 | _,_,.nil,_=>fun u hu=>by cases hu
 | y::xs,u::us,.cons r t,f=>fun u' hu=>by
  rw [List.all_cons,Bool.and_eq_true] at f
  rcases List.mem_cons.mp hu with rfl | hu
  ·rw [adE r f.1]; exact aix r rx f.1 fx
  ·exact Xh rx fx t f.2 u' hu
theorem call_len_seq:CallR X (.builtin "len") (fun xs H Q=>∃ p ys,xs=[.ref p]∧(SqL X.K H p ys∨SqT X.K H p ys)∧Q (.int ys.length) H):=by
 intro pins s σ H xs us Q I r h
 obtain⟨p,ys,rfl,hq,q⟩:=h
 obtain⟨u,rfl,rx⟩:=vals1 r
 cases rx
 have hn:=line63
 rcases hq with hq | hq
 ·obtain⟨its,r',pl,hz⟩:=I.list hq
  have hlen:=r'.length
  exact Calls.call_len_list pl.isList (by simp only [List.size_toArray] <;> lia) ⟨.int ys.length,H,I.tok _,⟨s.toks+1,by rw [List.size_toArray,hlen]⟩,q⟩
 ·obtain⟨its,r',pl,hz⟩:=I.tuple hq
  have hlen:=r'.length
  exact len_tuple pl (by simp only [List.size_toArray] <;> lia) ⟨.int ys.length,H,I.tok _,⟨s.toks+1,by rw [List.size_toArray,hlen]⟩,q⟩
theorem gR:CallR X (.type "tuple") (fun xs H Q=>∃ p ys,xs=[.ref p]∧((SqL X.K H p ys∧∀ l,H l=none→Q (.ref l) (upd H l (.tup ys)))∨(SqT X.K H p ys∧Q (.ref p) H))):=by
 intro pins s σ H xs us Q I r h
 obtain⟨p,ys,rfl,h⟩:=h
 obtain⟨u,rfl,rx⟩:=vals1 r
 cases rx
 rcases h with⟨hq,q⟩ | ⟨hq,q⟩
 ·obtain⟨its,r',pl,hz⟩:=I.list hq
  have hlen:=r'.length
  refine call_tuple_list pl.isList (fun h' kp=>?_) (by simp only [List.size_toArray] <;> lia)
  have I1:Inv X pins σ H { s with heap:=h' }:=I.kept (t':=s.toks) kp
  have I2:Inv X pins σ (upd H h'.objs.size (.tup ys)) { s with heap:=h'.push { cls:=.type "tuple",data:=.seq its.toArray } } :=
   I1.laid (t':=s.toks) (fun b o e=>Heap.get?_push_of_some _ e) (Nat.le_refl _) (show ObjOk X.prog X.w _ _ _ (.tup ys) from ⟨hz,its,r',IsTup.new _ _⟩)
  exact⟨.ref h'.objs.size,_,I2,rfl,q _ (I1.hok.fresh (Nat.le_refl _))⟩
 ·obtain⟨its,r',pl,hz⟩:=I.tuple hq
  exact call_tuple_same pl ⟨.ref p,H,I,rfl,q⟩
def tyV (K:PySem.W.Frag) (T:String) (x:V) (H:Hp):Prop:=match x with
 | .str _=>T="str"
 | .int _=>T="int"
 | .ref p=>(T="list"∧∃ xs,SqL K H p xs)∨(T="tuple"∧∃ o,K.lookup p=some o∧o.cls=.type "tuple"∧o.dict=none) ∨
   (T="dict"∧((∃ kvs,H p=some (.dK kvs))∨∃ kvs,H p=some (.dT kvs)))∨(T="set"∧∃ S n,H p=some (.set S n))
 | _=>False
theorem acC {pins:List (Addr×Obj)}{σ:St}{H:Hp}{s:Shared}{T:String}{x:V}{v:Value} (I:Inv X pins σ H s) (r:RelV x v) (ty:tyV X.K T x H) :
  s.TypeIs v T∧∀ a,v=.ref a→∃ ob,s.heap.get? a=some ob∧ob.dict=none:=by
 cases x with
 | str z =>
  obtain⟨t,rfl⟩:=r
  cases (show T="str" from ty)
  exact⟨typeIs_str s z t,fun _ e=>nomatch e⟩
 | int i =>
  obtain⟨t,rfl⟩:=r
  cases (show T="int" from ty)
  exact⟨typeIs_int s i t,fun _ e=>nomatch e⟩
 | ref p =>
  cases r
  rcases ty with⟨rfl,xs,hq⟩ | ⟨rfl,o,hk,hc,hd⟩ | ⟨rfl,hk⟩ | ⟨rfl,S,n,hk⟩
  ·obtain⟨its,_,pl,_⟩:=I.list hq
   refine⟨pl.isList.typeIs,fun a e=>?_⟩
   cases e
   obtain⟨o,n,e,c,hd,_⟩:=pl
   exact⟨o,e,hd⟩
  ·refine⟨⟨o,I.kIn p o hk,hc⟩,fun a e=>?_⟩
   cases e
   exact⟨o,I.kIn _ o hk,hd⟩
  ·have z:∃ o,s.heap.get? p=some o∧o.ExactDict:=by
    rcases hk with⟨kvs,hk⟩ | ⟨kvs,hk⟩
    ·obtain⟨_,_,_,_,o,_,_,e,ex,_⟩:=I.hok p _ hk
     exact⟨o,e,ex⟩
    ·obtain⟨_,_,_,_,o,_,_,e,ex,_⟩:=I.hok p _ hk
     exact⟨o,e,ex⟩
   obtain⟨o,e,ex⟩:=z
   refine⟨⟨o,e,ex.1⟩,fun a e2=>?_⟩
   cases e2
   exact⟨o,e,ex.2.1⟩
  ·obtain⟨o,_,_,_,e,ex,_⟩:=I.hok p _ hk
   refine⟨⟨o,e,ex.1⟩,fun a e2=>?_⟩
   cases e2
   exact⟨o,e,ex.2.1⟩
 | _=>exact False.elim ty
def ahf (K:PySem.W.Frag) (T:String) (r:V→List V→Hp→VK→Prop) (to:TE):TE:=fun σ H Q=>to σ H fun x H1=>tyV K T x H1∧r x [] H1 Q
def tBM (K:PySem.W.Frag) (T:String) (r:V→List V→Hp→VK→Prop) (to:TE) (t:TA):TE:=fun σ H Q=>to σ H fun x H1=>tyV K T x H1∧t σ H1 fun xs H2=>r x xs H2 Q
variable {o e:Expr}{es:List Expr}{to:TE}{t:TA}{name:Str}{apos cpos:Pos}{T id:String}{r:V→List V→Hp→VK→Prop}
theorem ahQ (pa:PlainAttrs T) (slot:Slot T name id) (hty:typeOf (.builtin id)=pure (.type "method_descriptor")) (hm:MtR X id r) (ho:PE X o to)
  (hbase:attributeBase o name X.env (eval o X.env)=eval o X.env:=by rfl) (hline:(apos.endLine == cpos.line)=true:=by rfl):PE X (.Call (.Attribute o name apos) [] [] cpos) (ahf X.K T r to):=by
 intro pins s σ H Q I h
 refine wpAny_Call_method0_late hbase hline (thn (ho pins s σ H _ I h) fun v s1 ⟨x,H1,I1,r1,ty,q1⟩=>?_)
 obtain⟨h1,h2⟩:=acC I1 r1 ty
 exact⟨T,id,pa,slot,hty,h1,h2,Calls.callWith_builtin rfl (PySem.evalArgs_none (hm pins s1 σ H1 x [] v [] Q I1 r1 .nil q1))⟩
theorem aj3 (pa:PlainAttrs T) (slot:Slot T name id) (hty:typeOf (.builtin id)=pure (.type "method_descriptor")) (hm:MtR X id r) (ho:PE X o to) (ha:PA X (e::es) t)
  (hbase:attributeBase o name X.env (eval o X.env)=eval o X.env:=by rfl)
  (hfew:((backTo cpos (starEach (e::es) X.env)).all (fun x=>!x.1) && (backToKw cpos (keywordEach [] X.env)).all (fun x=>x.1.isSome)
   && decide ((e::es).length+([]:List Keyword).length+(if ([]:List Keyword).isEmpty then 0 else 1)<30))=true:=by rfl)
  (hline:(apos.endLine == cpos.line)=true:=by rfl) (hs:starEach (e::es) X.env=(false,eval e X.env)::starEach es X.env:=by rfl) (hplain:(backTo cpos (starEach es X.env)).any (·.1)=false:=by rfl) :
  PE X (.Call (.Attribute o name apos) (e::es) [] cpos) (tBM X.K T r to t):=by
 intro pins s σ H Q I h
 refine wpAny_Call_method_late hbase hfew hline rfl (thn (ho pins s σ H _ I h) fun v s1 ⟨x,H1,I1,r1,ty,q1⟩=>?_)
 obtain⟨h1,h2⟩:=acC I1 r1 ty
 refine⟨T,id,pa,slot,hty,h1,h2,?_⟩
 have hA:=ha cpos pins s1 σ H1 _ I1 q1
 rw [hs] at hA ⊢
 refine Calls.callWith_builtin (by show (false || (backTo cpos (starEach es X.env)).any (·.1))=false; rw [hplain] <;> rfl) (Calls.evalArgs_plain ?_)
 exact thn hA fun us s2 ⟨vs,H2,I2,r2,q2⟩=>hm pins s2 σ H2 x vs v us Q I2 r1 r2 q2
end
def MtM (X:Cx) (id:String) (r:V→List V→Hp→VK→Prop):Prop :=
 ∀ (pins:List (Addr×Obj)) (s:Shared) (σ:St) (H:Hp) (x:V) (xs:List V) (v:Value) (us:List Value) (Q:VK),Inv X pins σ H s→RelV x v→Vals xs us→r x xs H Q →
  wpAny (model X.prog X.w) X.A (call (.builtin id) (v::us)) (EP X pins σ Q) X.xe s
theorem Vals.one:∀ {x:V}{us:List Value},Vals [x] us→∃ u,us=[u]∧RelV x u
 | _,_,.cons r .nil=>⟨_,rfl,r⟩
theorem Vals.zero:∀ {us:List Value},Vals [] us→us=[]
 | _,.nil=>rfl
theorem Vals.dropLast {xs:List V}{us:List Value} (h:Vals xs us):Vals xs.dropLast us.dropLast:=by
 induction h with
 | nil=>exact .nil
 | cons r t ih =>
  cases t with
  | nil=>exact .nil
  | cons q t'=>exact .cons r ih
theorem Vals.eraseIdx:∀ {xs:List V}{us:List Value} (i:Nat),Vals xs us→Vals (xs.eraseIdx i) (us.eraseIdx i)
 | _,_,_,.nil=>.nil
 | _,_,0,.cons _ t=>t
 | _,_,i+1,.cons r t=>.cons r (Vals.eraseIdx i t)
theorem Vals.reverse {xs:List V}{us:List Value} (h:Vals xs us):Vals xs.reverse us.reverse:=by
 induction h with
 | nil=>exact .nil
 | cons r t ih=>rw [List.reverse_cons,List.reverse_cons]; exact Vals.append ih (.cons r .nil)
theorem Vals.rep {xs:List V}{us:List Value} (h:Vals xs us):∀ k:Nat,Vals (List.replicate k xs).flatten (List.replicate k us).flatten
 | 0=>.nil
 | k+1=>by
  rw [List.replicate_succ,List.replicate_succ,List.flatten_cons,List.flatten_cons]
  exact Vals.append h (Vals.rep h k)
theorem abS {α:Type} (l:List α):l.eraseIdx (l.length - 1)=l.dropLast:=by
 induction l with
 | nil=>rfl
 | cons a r ih =>
  cases r with
  | nil=>rfl
  | cons b r =>
   have e:(a::b::r).length - 1=((b::r).length - 1)+1:=by
    have h1:(a::b::r).length=r.length+2:=rfl
    have h2:(b::r).length=r.length+1:=rfl
    lia
   rw [e,List.eraseIdx_cons_succ,ih]
   all_goals rfl
theorem Uk {α:Type}:∀ (l:List α) (i:Nat),(l.eraseIdx i).length≤l.length
 | [],_=>Nat.le_refl _
 | _::_,0=>Nat.le_succ _
 | _::r,i+1=>Nat.succ_le_succ (Uk r i)
theorem foldl_rep (its:List Value):∀ (k:Nat) (acc:List Value),
  List.foldl (fun x1 x2=>x1++x2) acc.toArray (List.replicate k its.toArray)=(acc++(List.replicate k its).flatten).toArray
 | 0,acc=>by simp
 | k+1,acc=>by
  have e:acc.toArray++its.toArray=(acc++its).toArray:=by simp
  have e2:(acc++its)++(List.replicate k its).flatten=acc++(List.replicate (k+1) its).flatten:=by
   rw [List.replicate_succ,List.flatten_cons,List.append_assoc]
  rw [← e2,← foldl_rep its k (acc++its),← e,List.replicate_succ,List.foldl_cons]
section
variable {X:Cx}{pins:List (Addr×Obj)}{σ:St}{H:Hp}{s:Shared}{l b:Addr}{xs ys zs:List V}
theorem Inv.Xp {its its':List Value}{n:Nat}{f:Array Value→Array Value}{t':Nat} (I:Inv X pins σ H s) (hH:H l=some (.lst xs))
  (e:s.heap.get? l=some { cls:=.type "list",data:=.seq its.toArray n }) (hf:f its.toArray=its'.toArray) (hv:Vals ys its') (hz:ys.length≤sizeLine) :
  Inv X pins σ (upd H l (.lst ys)) { s with heap:=s.heap.update l (Obj.mapSeq f),toks:=t' }:=by
 have q:=PySem.IsL.update e f
 rw [hf] at q
 refine I.write (x:=l) (e:=l) (by rw [hH]; exact trivial) (.inl rfl) (fun b' u hb hu=>(Heap.get?_update_other s.heap (Obj.mapSeq f) (Ne.symm hb)).trans hu) ⟨_,q⟩ ?_
 exact⟨hz,its',_,hv,q⟩
theorem Inv.lnew {its:List Value}{t':Nat} (I:Inv X pins σ H s) (hv:Vals ys its) (hz:ys.length≤sizeLine) :
  Inv X pins σ (upd H s.heap.objs.size (.lst ys)) { s with heap:=s.heap.push { cls:=.type "list",data:=.seq its.toArray },toks:=t' } :=
 I.laid (fun _ _ q=>Heap.get?_push_of_some _ q) (Nat.le_refl _) ⟨hz,its,0,hv,Heap.get?_push_size _ rfl⟩
theorem Inv.fresh (I:Inv X pins σ H s):H s.heap.objs.size=none:=I.hok.fresh (Nat.le_refl _)
theorem Inv.lstM (I:Inv X pins σ H s) (hH:H l=some (.lst xs)):xs.length≤sizeLine∧∃ (its:List Value) (n:Nat),Vals xs its∧xs.length=its.length∧s.heap.get? l=some { cls:=.type "list",data:=.seq its.toArray n }:=by
 obtain⟨z,its,n,r,e⟩:=I.hok l _ hH
 exact⟨z,its,n,r,r.length,e⟩
theorem Ng {n:Nat} (h:n≤sizeLine):Builtin.List.listTooLong n=false:=by
 unfold Builtin.List.listTooLong
 exact decide_eq_false (by lia)
end
section
variable {X:Cx}
def af5:V→List V→Hp→VK→Prop:=fun x vs H Q=>∃ l xs y,x=.ref l∧vs=[y]∧H l=some (.lst xs)∧xs.length<sizeLine∧Q .non (upd H l (.lst (xs++[y])))
theorem dD:MtM X "list.append" af5:=by
 intro pins s σ H x vs v us Q I rx rv h
 obtain⟨l,xs,y,rfl,rfl,hH,hz,q⟩:=h
 cases rx
 obtain⟨u,rfl,ru⟩:=rv.one
 obtain⟨z,its,n,r,hl,e⟩:=I.lstM hH
 refine call_meets F.slot_list_append ⟨_,e,rfl⟩ F.entry_list_append (F.args_list_append_2 _ _) (PySem.list_append l its.toArray n u (by rw [List.size_toArray]; lia)) ⟨e,?_⟩
 refine⟨.non,_,I.Xp (its':=its++[u]) hH e (by simp) (r.append (.cons ru .nil)) ?_,rfl,q⟩
 rw [List.length_append,List.length_singleton]
 lia
def alr:V→List V→Hp→VK→Prop:=fun x vs H Q=>∃ l xs y,x=.ref l∧vs=[]∧H l=some (.lst xs)∧xs[xs.length - 1]?=some y∧Q y (upd H l (.lst xs.dropLast))
theorem sS:MtM X "list.pop" alr:=by
 intro pins s σ H x vs v us Q I rx rv h
 obtain⟨l,xs,y,rfl,rfl,hH,hy,q⟩:=h
 cases rx
 have hus:=rv.zero
 subst hus
 obtain⟨z,its,n,r,hl,e⟩:=I.lstM hH
 obtain⟨u,hu,ru⟩:=r.get hy
 have hy':its.toArray[its.toArray.size - 1]?=some u:=by
  show its.toArray[its.length - 1]?=some u
  rw [← Array.getElem?_toList,← hl]
  exact hu
 refine call_meets F.slot_list_pop ⟨_,e,rfl⟩ F.entry_list_pop (F.args_list_pop_1 _) (MeetsSeq.list_pop_last l its.toArray n u hy' (by rw [List.size_toArray]; lia)) ⟨e,?_⟩
 refine⟨y,_,I.Xp (its':=its.dropLast) hH e ?_ r.dropLast ?_,ru,q⟩
 ·show its.toArray.eraseIdxIfInBounds (its.toArray.size - 1)=its.dropLast.toArray
  rw [List.size_toArray,List.eraseIdxIfInBounds_toArray,abS]
 ·rw [List.length_dropLast]
  lia
def ahA:V→List V→Hp→VK→Prop:=fun x vs H Q=>∃ l xs i k y,x=.ref l∧vs=[.int i]∧H l=some (.lst xs)∧-(2 ^ 63)≤i∧i<2 ^ 63∧seqIndex? i xs.length=some k∧xs[k]?=some y∧Q y (upd H l (.lst (xs.eraseIdx k)))
theorem Ni:MtM X "list.pop" ahA:=by
 intro pins s σ H x vs v us Q I rx rv h
 obtain⟨l,xs,i,k,y,rfl,rfl,hH,h1,h2,hk,hy,q⟩:=h
 cases rx
 obtain⟨u,rfl,ru⟩:=rv.one
 obtain⟨t,rfl⟩:=ru
 obtain⟨z,its,n,r,hl,e⟩:=I.lstM hH
 obtain⟨w,hw,rw'⟩:=r.get hy
 refine call_meets F.slot_list_pop ⟨_,e,rfl⟩ F.entry_list_pop (F.args_list_pop_2 _ _)
  (MeetsSeq.list_pop_at l its.toArray n i t k w (fitsIndex_both h1 h2) (by rw [List.size_toArray,← hl]; exact hk) (by rw [← Array.getElem?_toList]; exact hw) (by rw [List.size_toArray]; lia)) ⟨e,?_⟩
 refine⟨y,_,I.Xp (its':=its.eraseIdx k) hH e ?_ (r.eraseIdx k) ?_,rw',q⟩
 ·show its.toArray.eraseIdxIfInBounds k=(its.eraseIdx k).toArray
  rw [List.eraseIdxIfInBounds_toArray]
 ·have:=Uk xs k
  lia
def alq:R2:=fun x y H Q=>∃ l k xs,x=.ref l∧y=.int k∧H l=some (.lst xs)∧-(2 ^ 63)≤k∧k<2 ^ 63∧xs.length * k.toNat≤sizeLine ∧
 ∀ p,H p=none→Q (.ref p) (upd H p (.lst (List.replicate k.toNat xs).flatten))
theorem len_rep {α:Type} (xs:List α) (k:Nat):(List.replicate k xs).flatten.length=k * xs.length:=by
 induction k with
 | zero=>simp
 | succ k ih=>rw [List.replicate_succ,List.flatten_cons,List.length_append,ih,Nat.succ_mul,Nat.add_comm]
theorem ahS:OpR X (binaryOp .Mult) alq:=by
 intro pins s σ H x y v u Q I rx ry h
 obtain⟨l,k,xs,rfl,rfl,hH,h1,h2,hz,q⟩:=h
 cases rx
 obtain⟨t,rfl⟩:=ry
 obtain⟨z,its,n,r,hl,e⟩:=I.lstM hH
 have hlen:its.toArray.size * k.toNat≤sizeLine:=by rw [List.size_toArray,← hl]; exact hz
 have hcap:¬ its.toArray.size * k.toNat > (2 ^ 63 - 1) / 8:=by
  have:(sizeLine:Nat)≤(2 ^ 63 - 1) / 8:=by decide
  lia
 have hfit:¬ (!Builtin.List.listFitsIndex k)=true:=by
  rw [fitsIndex_both h1 h2]
  exact Bool.false_ne_true
 have abO:¬ Builtin.List.listTooLong (its.toArray.size * k.toNat)=true:=by
  rw [Ng hlen]
  exact Bool.false_ne_true
 have hnew:List.foldl (fun x1 x2=>x1++x2) #[] (List.replicate (if its.toArray.isEmpty=true then 0 else k.toNat) its.toArray)=(List.replicate k.toNat its).flatten.toArray:=by
  have f0:∀ m:Nat,List.foldl (fun x1 x2=>x1++x2) #[] (List.replicate m its.toArray)=(List.replicate m its).flatten.toArray:=fun m=>by
   have:=foldl_rep its m []
   rw [List.nil_append] at this
   exact this
  rw [f0]
  cases its with
  | nil=>simp
  | cons a r'=>rw [if_neg (by simp)]
 refine wpAny_binaryOp_repeat_ref (T:="list") (U:="int") (by decide) ⟨_,e,rfl⟩ (fun s'=>typeIs_int s' k t) noFill_list_mul F.fills_int_mul F.slot_int_rmul repeat_list F.slot_int_index.lookup
  (call_meets F.slot_int_rmul (typeIs_int s k t) F.entry_int_rmul (F.args_int_rmul_2 _ _) (int___rmul___int_list k t l its.toArray n)
   ⟨e,rfl,⟨_,e,rfl⟩,call_meets F.slot_list_mul ⟨_,e,rfl⟩ F.entry_list_mul (F.args_list_mul_2 _ _) (AutoListH.list___mul___list_int_3 l its.toArray n k t hfit hcap abO) ⟨e,?_⟩⟩)
 rw [hnew]
 exact⟨.ref _,_,I.lnew (t':=s.toks) (r.rep k.toNat) (by rw [len_rep,Nat.mul_comm]; exact hz),rfl,q _ I.fresh⟩
end
section
variable {prog:Program}{w:World}{A:Around}{E:Value→Shared→Prop}{s:Shared}
end
section
variable {X:Cx}
end
end L2
namespace Att
open PySem PySem.W PySem.Calls PyProof.Rows
theorem ints_of_wellAll {P:Params}{h:Heap}:∀ (ns:List Int) (vs:List Value),WellAll P h vs (ns.map WData.int)→IntsAre vs ns:=by
 intro ns
 induction ns with
 | nil =>
  intro vs w
  rw [List.map_nil] at w
  cases w
  exact .nil
 | cons n ns ih =>
  intro vs w
  rw [List.map_cons] at w
  cases w with
  | cons a b =>
   cases a
   exact .cons _ _ (ih _ b)
theorem script_of {l:OpenLaw}{n:Nat} (hn:l.most=some n) {P:Params}{h:Heap}{args:List WData}{vals:List Value}
  (hpre:l.row.toRowW.claim.pre args=true) (hwl:WellAll P h vals args) :
  ∃ a vs ns,vals=[Value.ref a]∧args=[WData.list (ns.map WData.int)]∧h.get? a=some { cls:=.type "list",data:=.seq vs.toArray }∧IntsAre vs ns∧ns.length≤n:=by
 have hsh:WShape.hasAll [] args [.list .int]=true:=(pre_splitW hpre).1
 have hc:l.pre.holds [] { args:=args }=true:=(pre_splitW hpre).2
 obtain⟨d,r,rfl,h1,h2⟩:=hasAllW_cons hsh
 obtain rfl:=hasAllW_nil h2
 obtain⟨xs,rfl,h3⟩:=hasW_list h1
 obtain⟨ns,rfl⟩:=items_int h3
 have hlen:ns.length≤n:=by
  unfold OpenLaw.pre at hc
  have h4:(WTm.not (.lt (.lit (.int (n:Int))) (.len (.arg 0)))).holds [] { args:=[.list (ns.map .int)] }=true:=by
   have h4:=(holds_andW hc).1
   rw [hn] at h4
   exact h4
  have h5:=condW_of h4 (w_not (w_lt w_lit (w_len_list (w_arg rfl))))
  rw [List.length_map] at h5
  refine Nat.le_of_not_lt fun q=>?_
  have q':(n:Int)<((ns.length:Nat):Int):=by lia
  first
   | (rw [decide_eq_true q'] at h5; exact absurd h5 (by decide))
   | (simp at h5; lia)
 cases hwl with
 | cons w1 w2 =>
  cases w2
  cases w1 with
  | list ho hall=>exact⟨_,_,ns,rfl,rfl,ho,ints_of_wellAll ns _ hall,hlen⟩
theorem post_true (l:OpenLaw) (args:List WData):l.row.toRowW.claim.post args (.bool true) args=true :=
 postW_of (r:=l.row.toRowW) (X:=(true == true))
  (show WShape.has [] (.bool true) .bool=true by first | rfl | decide | simp [WShape.has,WShape.arms,WShape.armsAll])
  (show (WTm.eq .res (.lit (.bool true))).value [] { args:=args,res:=some (.bool true),after:=args }=some (.bool (true == true)) from w_eq_bool (w_res rfl) w_lit) rfl
theorem attach_call {l:OpenLaw}{n:Nat}{q:Program}{loose:List Str}{XP:(Str→Option Value)→Heap→Prop}{YP:World→Heap→Prop}{d:DefRec}
  (hn:l.most=some n) (hdf:d.params.defaults=[])
  (call:∀ (w:World) (s₀ s₁:Shared) (mg mb:Str→Option Value) (fa:Addr) (o:Obj) (pm cd doc:Value) (a:Addr) (vs:List Value) (ns:List Int),
   Ground q loose [] XP w s₀ mg mb s₁.heap→YP w s₁.heap →
   s₁.heap.get? fa=some o→o.data=.func (docDef d.name d.params d.body d.scope pm cd doc)→s₁.heap.CodeRec cd d.name→mg d.name=some (.ref fa) →
   s₁.heap.get? a=some { cls:=.type "list",data:=.seq vs.toArray }→IntsAre vs ns→ns.length≤n→s₁.gens=#[] →
   codeAny (model l.prog w) callerA (.call (.ref fa) ⟨[.ref a],[]⟩) (fun r s'=>r=.ok (.ret (.bool true))∧OldK s₁.heap s'.heap∧s'.os=s₁.os∧AllBare s'.gens) s₁) :
  WalkO q loose XP YP l.row.toRowW d [] (fun f vs=>PySem.call f vs):=by
 intro w s₀ s₁ mg mb G Y fa o pm cd doc dV kV ho hd hcd hD hmg hg args vals as hpre hlay hrd hwl hlo
 obtain rfl:dV=.none:=Dflts.none hD hdf
 obtain rfl:kV=.none:=Dflts.noKw hD
 obtain⟨a,vs,ns,rfl,rfl,hobj,hints,hlen⟩:=script_of hn hpre hwl
 refine enter_call (codeAny_mono (call w s₀ s₁ mg mb fa o pm cd doc a vs ns G Y ho (fd_plain hd) hcd hmg hobj hints hlen hg) fun r s' hq=>?_)
 obtain⟨rfl,h2,h3,h4⟩:=hq
 exact⟨.inl ⟨.bool true,.bool true,[],rfl,fun _=>rfl,.bool true,post_true l _,fun _=>⟨List.Pairwise.nil,fun _ hm=>(nomatch hm)⟩⟩,h2,h3,h4⟩
section
variable {prog:Program}{w:World}{A:Around}{E:Value→Shared→Prop}{s:Shared}{K:Frag}
end
end Att
namespace L2
open PySem PySem.Spec PyProof.Rows
theorem vals_ints:∀ {vs:List Value}{ns:List Int},IntsAre vs ns→Vals (ns.map V.int) vs
 | _,_,.nil=>.nil
 | _,_,.cons n t h=>.cons ⟨t,rfl⟩ (vals_ints h)
def Only (H:Hp):Prop:=∀ b,H b=none∨∃ o xs,H b=some (.frz o (.lst xs))
theorem law_call {P:Program}{w:World}{K:PySem.W.Frag}{mg mb:Str→Option Value}{CX:CXT}{k:Nat}{fa a:Addr}{fd:FuncData}{x:Str}{sp:Sp}{s₁:Shared}{vs:List Value}{ns:List Int}
  (KX:K.In s₁.heap) (hns:s₁.heap.Ns mainGlobals mg) (hb:s₁.heap.Ns builtinsNs mb) (hbb:∀ x:Str,x≠"__name__"→mb x=bootBuiltins x) (hlim:s₁.heap.NoLimit) (hg:s₁.gens=#[])
  (ha:s₁.heap.get? a=some { cls:=.type "list",data:=.seq vs.toArray }) (hi:IntsAre vs ns) (hl:ns.length≤sizeLine) (hr:Room k callerA)
  (F:∀ base:Heap,K.In base→base.Ns mainGlobals mg→FnOk P w K mg base CX k fa fd [x] sp) (hbind:∀ (s:Shared) (u:Value),BindsTo s fd ⟨[u],[]⟩ [(x,u)])
  (hsp:∀ H:Hp,Only H→SqL K H a (ns.map V.int)→sp [.ref a] H (fun v _=>v=.bl true) fun _ _ _=>False)
  (hCX:∀ H e s',CX [] H s₁ (fun _ _ _=>False) e s'→False) :
  codeAny (model P w) callerA (.call (.ref fa) ⟨[.ref a],[]⟩) (fun r s'=>r=.ok (.ret (.bool true))∧OldK s₁.heap s'.heap∧s'.os=s₁.os∧AllBare s'.gens) s₁:=by
 have rv:=vals_ints hi
 have lenV:=hi.length
 have core:∀ H:Hp,Only H→SqL K H a (ns.map V.int)→HOk P w H s₁.heap→(∀ b,H b≠none→b=a)→(H a≠none→K.lookup a=none) →
   codeAny (model P w) callerA (.call (.ref fa) ⟨[.ref a],[]⟩) (fun r s'=>r=.ok (.ret (.bool true))∧OldK s₁.heap s'.heap∧s'.os=s₁.os∧AllBare s'.gens) s₁:=by
  intro H hO hS hok hA hK
  have base_of:∀ {b:Addr}{o:Obj},s₁.heap.get? b=some o→H b=none→(hidT s₁.heap H).get? b=some o:=fun e n=>hidT_get e n
  have noA:∀ {b:Addr}{o:Obj}{es:Array DictEntry}{ep:Nat},s₁.heap.get? b=some o→o.data=.dict es ep→H b=none:=fun {b o es ep} e d=>by
   cases q:H b with
   | none=>rfl
   | some u =>
    have e':b=a:=hA b (by rw [q]; simp)
    subst e'
    rw [ha] at e; cases e
    have d':Data.seq vs.toArray _=Data.dict es ep:=d
    cases d'
  have nsK:∀ {b:Addr}{m:Str→Option Value},s₁.heap.Ns b m→(hidT s₁.heap H).Ns b m:=fun {b m} ⟨o,es,ep,e,d,r⟩=>⟨o,es,ep,base_of e (noA e d),d,r⟩
  have hKb:K.In (hidT s₁.heap H):=fun b o e=>base_of (KX b o e) (by
   cases q:H b with
   | none=>rfl
   | some u =>
    have e':b=a:=hA b (by rw [q]; simp)
    subst e'
    rw [hK (by rw [q]; simp)] at e; cases e)
  have hM:Mod K mg (hidT s₁.heap H):=⟨hKb,nsK hns,⟨mb,nsK hb,hbb⟩,let ⟨mc,h1,h2⟩:=hlim; ⟨mc,nsK h1,h2⟩⟩
  have e0:Env0 P w K mg (hidT s₁.heap H) callerA [] s₁ H:=⟨rfl,hM,fun b o e=>of_hidT e,Nat.le_of_eq (hidT_size _ _),trivial,fun b hb=>absurd (show b∈([]:List Addr) from hb) (by simp),hok,.of_eq hg⟩
  refine codeAny_mono ((F _ hKb (nsK hns)).run callerA [] s₁ H ⟨[.ref a],[]⟩ [.ref a] [.ref a] _ _ hr e0 (hbind s₁ (.ref a)) (.cons rfl .nil) (hsp H hO hS)) fun r s' h=>?_
  cases r with
  | error e=>exact (hCX H e s' h).elim
  | ok fl =>
   cases fl with
   | next=>exact False.elim h
   | brk=>exact False.elim h
   | cont=>exact False.elim h
   | ret u =>
    obtain⟨v,H',os,bare,un,hok',r',q⟩:=h
    have q':v=.bl true:=q
    subst q'
    obtain rfl:u=Value.bool true:=r'
    refine⟨rfl,OldK.of_keep fun b o e=>?_,os,bare⟩
    cases q:H b with
    | none=>exact un.keep b o e q (by intro z; exact absurd (show b∈([]:List Addr) from z) (by simp)) (by simp)
    | some u =>
     rcases hO b with z | ⟨ob,xs,z⟩
     ·rw [q] at z; cases z
     ·have z2:=un.frzs b ob _ z
      obtain⟨e1,_⟩:=hok b _ z
      obtain⟨e2,_⟩:=hok' b _ z2
      rw [e] at e1; cases e1
      exact e2
 cases hk:K.lookup a with
 | some o =>
  have e:=KX a o hk
  rw [ha] at e
  cases e
  refine core (fun _=>none) (fun _=>.inl rfl) (.inr ⟨_,vs.toArray,_,hk,rfl,rfl,rfl,by rw [List.size_toArray,lenV]; exact hl,by simpa using rv⟩) (fun b u z=>by have z':(none:Option HO)=some u:=z; cases z') (fun b z=>absurd rfl z) fun z=>absurd rfl z
 | none =>
  refine core (fun b=>if b=a then some (.frz { cls:=.type "list",data:=.seq vs.toArray } (.lst (ns.map V.int))) else none) (fun b=>?_) (.inl (.inr ⟨{ cls:=.type "list",data:=.seq vs.toArray },if_pos rfl⟩)) (fun b u z=>?_) (fun b z=>?_) fun _=>hk
  ·by_cases hb:b=a
   ·exact .inr ⟨_,_,if_pos hb⟩
   ·exact .inl (if_neg hb)
  ·by_cases hb:b=a
   ·have z':=(if_pos hb).symm.trans z
    cases z'
    subst hb
    exact⟨ha,by rw [List.length_map]; exact hl,vs,_,rv,ha⟩
   ·have z':=(if_neg hb).symm.trans z
    cases z'
  ·by_cases hb:b=a
   ·exact hb
   ·exact absurd (if_neg hb) z
theorem walk_of {l:PySem.W.OpenLaw}{n k:Nat}{q:Program}{loose:List Str}{XP:(Str→Option Value)→Heap→Prop}{YP:World→Heap→Prop}{d:DefRec}{K:Params→PySem.W.Frag}{CX:World→CXT}{sp:World→Sp}{x:Str}
  (hn:l.most=some n) (hn2:n≤sizeLine) (hdf:d.params.defaults=[]) (hr:Room k callerA)
  (hY:∀ (w:World) (h:Heap),YP w h→(K w.params).In h)
  (F:∀ (w:World) (mg:Str→Option Value) (fa:Addr) (h:Heap),(K w.params).In h→h.Ns mainGlobals mg→mg d.name=some (.ref fa) →
   ∃ fd:FuncData,(∀ (s:Shared) (u:Value),BindsTo s fd ⟨[u],[]⟩ [(x,u)]) ∧
    ∀ base:Heap,(K w.params).In base→base.Ns mainGlobals mg→FnOk l.prog w (K w.params) mg base (CX w) k fa fd [x] (sp w))
  (hsp:∀ (w:World) (H:Hp) (a:Addr) (ns:List Int),ns.length≤n→Only H→SqL (K w.params) H a (ns.map V.int)→sp w [.ref a] H (fun v _=>v=.bl true) fun _ _ _=>False)
  (hCX:∀ (w:World) (H:Hp) (s:Shared) (e:Value) (s':Shared),CX w [] H s (fun _ _ _=>False) e s'→False) :
  PySem.W.WalkO q loose XP YP l.row.toRowW d [] (fun f vs=>PySem.call f vs):=by
 refine Att.attach_call hn hdf fun w s₀ s₁ mg mb fa o pm cd doc a vs ns G Y ho hd hcd hmg hobj hints hlen hg=>?_
 have KX:=hY w _ Y
 obtain⟨fd,hb,hF⟩:=F w mg fa _ KX G.T.g hmg
 exact law_call KX G.T.g G.T.b G.T.builtins G.T.nolimit hg hobj hints (Nat.le_trans hlen hn2) hr hF hb (fun H hO hS=>hsp w H a ns hlen hO hS) fun H e s'=>hCX w H s₁ e s'
def inClass (s:Stmt) (j:Nat):Stmt:=match s with
 | .ClassDef _ _ _ body _ _ _ _ _ _ _=>body.getD j (.Pass ⟨0,0,0,0⟩)
 | _=>.Pass ⟨0,0,0,0⟩
def defArgs (s:Stmt):Arguments:=match s with
 | .FunctionDef _ a _ _ _ _ _ _ _ _=>a
 | _=>{ posonlyargs:=[],args:=[],vararg:=none,kwonlyargs:=[],kw_defaults:=[],kwarg:=none,defaults:=[] }
def defBody (s:Stmt):List Stmt:=match s with
 | .FunctionDef _ _ b _ _ _ _ _ _ _=>b
 | _=>[]
def defScope (s:Stmt):Scope:=match s with
 | .FunctionDef _ _ _ _ _ _ sc _ _ _=>sc
 | _=>{ kind:=.function,names:=[],isGenerator:=false,isCoroutine:=false }
abbrev CX0:CXT:=fun _ _ _ _ _ _=>False
abbrev E0:XK:=fun _ _ _=>False
theorem pass0 {X:Cx}:Passes CX0 X E0:=fun _ _ _ _ _ _ _ h=>h.elim
structure Fun (K:PySem.W.Frag) (x qual:Str) (st:Stmt) (f:Addr) (fd:FuncData):Prop where
 ex:∃ (oc:Value) (od:Option Addr) (kV doc pm:Value) (an:Option Addr) (cdv ct:Value) (osl:Array (Option Value)),
  fd=PySem.W.fnOf x qual (defArgs st) (defBody st) (defScope st) .none kV doc pm an cdv ct∧K.lookup f=some ⟨oc,od,.func fd,osl⟩∧PySem.W.codeIn K cdv qual=true
 kp:PySem.W.keepIn K (.ref f)=true
section
variable {P:Program}{w:World}{K:PySem.W.Frag}{mg:Str→Option Value}{base:Heap}
theorem Fun.ok {x qual:Str}{st:Stmt}{f:Addr}{fd:FuncData}{N ps:List Str}{k:Nat}{sp:Sp} (F:Fun K x qual st f fd) (S:FnScope N ps (defScope st)) (len:∀ vs H Q E,sp vs H Q E→vs.length=ps.length)
  (hbody:∀ (cdv:Value) (A:Around) (outer:List Env) (s:Shared) (H:Hp) (vs:List V) (Q:VK) (E:XK),Room k (A.deeper (envOfC qual (defScope st) s.heap.objs.size f cdv))→sp vs H Q E →
   ∃ t,PSs (cxOf CX0 P w K mg base N qual (defScope st) f cdv A outer s H E).nox (defBody st) t∧t { nx:=fun _ H'=>Q .non H',rt:=Q } (start N vs) H):FnOk P w K mg base CX0 (k+1) f fd ps sp:=by
 obtain⟨oc,od,kV,doc,pm,an,cdv,ct,osl,rfl,lk,hcd⟩:=F.ex
 refine fn_of lk hcd S len fun A outer s H vs Q E hr hsp=>?_
 obtain⟨t,h,q⟩:=hbody cdv A outer s H vs Q E hr hsp
 exact⟨t,h.nox,q⟩
theorem Fun.binds {x qual:Str}{st:Stmt}{f:Addr}{fd:FuncData}{ps:List Str} (F:Fun K x qual st f fd)
  (h:∀ (kV doc pm:Value) (an:Option Addr) (cdv ct:Value) (us:List Value),us.length=ps.length→bindArgs (PySem.W.fnOf x qual (defArgs st) (defBody st) (defScope st) .none kV doc pm an cdv ct) ⟨us,[]⟩=pure (ps.zip us)):Binds K fd ps []:=by
 obtain⟨oc,od,kV,doc,pm,an,cdv,ct,osl,rfl,lk,hcd⟩:=F.ex
 exact .all (h kV doc pm an cdv ct)
theorem fun_mk {x qual:Str}{st:Stmt}{f:Addr}{oc:Value}{od an:Option Addr}{osl:Array (Option Value)}{kV doc pm cdv ct:Value} (l:K.lookup f=some ⟨oc,od,.func (PySem.W.fnOf x qual (defArgs st) (defBody st) (defScope st) .none kV doc pm an cdv ct),osl⟩)
  (c:PySem.W.codeIn K cdv qual=true) (k:PySem.W.keepIn K (.ref f)=true):Fun K x qual st f (PySem.W.fnOf x qual (defArgs st) (defBody st) (defScope st) .none kV doc pm an cdv ct):=⟨⟨oc,od,kV,doc,pm,an,cdv,ct,osl,rfl,l,c⟩,k⟩
end
section
variable {X:Cx}
theorem pv (i:Nat) {x:Str}{pos:Pos} (hN:X.N[i]?=some x:=by rfl) (hv:Vis X.env.scope x:=by first | exact Or.inl rfl | exact Or.inr (Or.inl rfl) | exact Or.inr (Or.inr rfl)) (hd:(x == ("__debug__":Str))=false:=by decide)
  (hcd:(x == ("__classdict__":Str))=false:=by decide):PE X (.Name x pos) (tVar i):=pe_var hN hv hd hcd
end
theorem iteF {A B:Prop} (h:B):if false=true then A else B:=by
 rw [if_neg Bool.false_ne_true]
 exact h
theorem iteT {A B:Prop} (h:A):if true=true then A else B:=by
 rw [if_pos rfl]
 exact h
theorem ite2 {c A B:Prop} [Decidable c] (h1:c→A) (h2:¬ c→B):if c then A else B:=by
 by_cases h:c
 ·rw [if_pos h]
  exact h1 h
 ·rw [if_neg h]
  exact h2 h
def Same (H H':Hp):Prop:=∀ b o,H b=some o→H' b=some o
theorem Same.refl (H:Hp):Same H H:=fun _ _ h=>h
theorem Same.trans {H H1 H2:Hp} (a:Same H H1) (b:Same H1 H2):Same H H2:=fun c o h=>b c o (a c o h)
theorem Same.free {H H':Hp} (e:Same H H') {l:Addr} (h:H' l=Option.none):H l=Option.none:=by
 cases q:H l with
 | none=>rfl
 | some o =>
  rw [e l o q] at h
  cases h
theorem Same.seq {K:PySem.W.Frag}{H H':Hp}{a:Addr}{xs:List V} (e:Same H H') (h:SqL K H a xs):SqL K H' a xs:=by
 rcases h with (h | ⟨o,h⟩) | h
 ·exact .inl (.inl (e _ _ h))
 ·exact .inl (.inr ⟨o,e _ _ h⟩)
 ·exact .inr h
end L2
set_option maxHeartbeats 4000000
namespace Sw
inductive bB {α β:Type} (R:α→β→Prop):List α→List β→Prop where
 | nil:bB R [] []
 | cons {a:α}{b:β}{as:List α}{bs:List β}:R a b→bB R as bs→bB R (a::as) (b::bs)
namespace bB
variable {α β:Type}{R S:α→β→Prop}
theorem length {as:List α}{bs:List β} (h:bB R as bs):bs.length=as.length:=by
 induction h with
 | nil=>rfl
 | cons _ _ ih=>rw [List.length_cons,List.length_cons,ih]
theorem imp {as:List α}{bs:List β} (f:∀ a b,R a b→S a b) (h:bB R as bs):bB S as bs:=by
 induction h with
 | nil=>exact .nil
 | cons r _ ih=>exact .cons (f _ _ r) ih
theorem append {as as':List α}{bs bs':List β} (h:bB R as bs) (g:bB R as' bs'):bB R (as++as') (bs++bs'):=by
 induction h with
 | nil=>exact g
 | cons r _ ih=>exact .cons r ih
theorem one {a:α}{b:β} (h:R a b):bB R [a] [b]:=.cons h .nil
theorem get {as:List α}{bs:List β} (h:bB R as bs):∀ {i:Nat}{b:β},bs[i]?=some b→∃ a,as[i]?=some a∧R a b:=by
 induction h with
 | nil=>intro i b e; simp at e
 | cons r _ ih =>
  intro i b e
  cases i with
  | zero=>exact⟨_,rfl,by have e':=Option.some.inj e; rw [← e']; exact r⟩
  | succ i=>exact ih (i:=i) (by simpa using e)
theorem of_get:∀ {bs:List β}{as:List α},bs.length=as.length→(∀ (i:Nat) b,bs[i]?=some b→∃ a,as[i]?=some a∧R a b)→bB R as bs
 | [],[],_,_=>.nil
 | [],_::_,h,_=>by simp at h
 | _::_,[],h,_=>by simp at h
 | b::bs,a::as,h,g=>by
  obtain⟨a',e,r⟩:=g 0 b rfl
  have e':=Option.some.inj e
  refine .cons (by rw [e']; exact r) (of_get (by simpa using h) fun i b e=>?_)
  exact g (i+1) b (by simpa using e)
end bB
inductive T where
 | node (ts:List T)
namespace T
def kids:T→List T | .node ts=>ts
mutual
def parts:T→Nat | .node ts=>1+aH ts
def aH:List T→Nat
 | []=>0
 | t::ts=>parts t+aH ts
end
mutual
def deep:T→Nat | .node ts=>bD ts
def bD:List T→Nat
 | []=>0
 | t::ts=>max (deep t+1) (bD ts)
end
mutual
def beq:T→T→Bool | .node ts,.node us=>j5 ts us
def j5:List T→List T→Bool
 | [],[]=>true
 | t::ts,u::us=>beq t u && j5 ts us
 | _,_=>false
end
mutual
theorem beq_iff:∀ t u:T,beq t u=true↔t=u
 | .node ts,.node us=>by
  unfold beq
  rw [Bb ts us]
  exact⟨fun h=>by rw [h],fun h=>by injection h⟩
theorem Bb:∀ ts us:List T,j5 ts us=true↔ts=us
 | [],[]=>by simp [j5]
 | [],_::_=>by simp [j5]
 | _::_,[]=>by simp [j5]
 | t::ts,u::us=>by
  unfold j5
  rw [Bool.and_eq_true,beq_iff t u,Bb ts us]
  simp
end
theorem pB (t:T):beq t t=true:=(beq_iff t t).mpr rfl
instance:DecidableEq T:=fun t u=>if h:beq t u=true then isTrue ((beq_iff t u).mp h) else isFalse fun e=>h ((beq_iff t u).mpr e)
theorem aN (ts:List T):(T.node ts).parts=1+aH ts:=by unfold parts; rfl
theorem aR (ts:List T):(T.node ts).deep=bD ts:=by unfold deep; rfl
theorem aY:aH []=0:=by unfold aH; rfl
theorem aF (t:T) (ts:List T):aH (t::ts)=t.parts+aH ts:=by rw [aH]
theorem cU:bD []=0:=by unfold bD; rfl
theorem aU (t:T) (ts:List T):bD (t::ts)=max (t.deep+1) (bD ts):=by rw [bD]
theorem gC (t:T):1≤t.parts:=by cases t; rw [aN]; lia
theorem cI (t:T):t.parts=1+aH t.kids:=by cases t; rw [aN]; rfl
theorem Jj (t:T):t.deep=bD t.kids:=by cases t; rw [aR]; rfl
theorem b_:∀ a b:List T,aH (a++b)=aH a+aH b
 | [],b=>by rw [aY,List.nil_append]; lia
 | t::a,b=>by rw [List.cons_append,aF,aF,b_ a b]; lia
theorem iT:∀ a b:List T,bD (a++b)=max (bD a) (bD b)
 | [],b=>by rw [cU,List.nil_append]; lia
 | t::a,b=>by rw [List.cons_append,aU,aU,iT a b]; lia
theorem cL:∀ ts:List T,ts.length≤aH ts
 | []=>by simp
 | t::ts=>by
  have h1:=gC t
  have h2:=cL ts
  rw [aF,List.length_cons]
  lia
theorem BK {ts:List T}{t:T} (h:ts[ts.length - 1]?=some t):aH ts=aH ts.dropLast+t.parts:=by
 have e:ts=ts.dropLast++[t]:=by
  have hne:ts≠[]:=by rintro rfl; simp at h
  have h2:=List.dropLast_concat_getLast hne
  have h3:ts.getLast hne=t:=by
   rw [← List.getLast?_eq_getElem?,List.getLast?_eq_some_getLast hne] at h
   exact Option.some.inj h
  rw [h3] at h2
  exact h2.symm
 have e2:aH ts=aH (ts.dropLast++[t]):=congrArg aH e
 rw [e2,b_,aF,aY]
 lia
theorem Mx (n:Nat) (ts:List T):aH ts=aH (ts.take n)+aH (ts.drop n):=by
 rw [← b_,List.take_append_drop]
theorem Im {B:Nat}:∀ {ts:List T},(∀ t∈ts,t.parts≤B)→aH ts≤ts.length * B
 | [],_=>by rw [aY]; lia
 | t::ts,h=>by
  have h1:=h t List.mem_cons_self
  have h2:=Im fun u hu=>h u (List.mem_cons_of_mem _ hu)
  rw [aF,List.length_cons,Nat.succ_mul]
  lia
theorem sX {B:Nat}:∀ {ts:List T},(∀ t∈ts,t.deep+1≤B)→bD ts≤B
 | [],_=>by rw [cU]; lia
 | t::ts,h=>by
  have h1:=h t List.mem_cons_self
  have h2:=sX fun u hu=>h u (List.mem_cons_of_mem _ hu)
  rw [aU]
  lia
theorem jd:∀ {ts:List T}{t:T},t∈ts→t.parts≤aH ts
 | _::ts,t,h=>by
  rw [aF]
  rcases List.mem_cons.mp h with rfl | h
  ·lia
  ·have:=jd h
   lia
theorem nP:∀ {ts:List T}{t:T},t∈ts→t.deep+1≤bD ts
 | _::ts,t,h=>by
  rw [aU]
  rcases List.mem_cons.mp h with rfl | h
  ·lia
  ·have:=nP h
   lia
end T
open PySem PySem.Spec PyProof.Rows L2
abbrev Sg:=List (Option V)
def blk (X:Cx) (scope:Scope) (cl:List (Str×Addr)) (C:Addr) (N:List Str) (s:Shared) (H:Hp) (fp:List Addr) (pins:List (Addr×Obj)):Cx :=
 { X with N:=N,s₀:=s,H₀:=H,env:=compEnvC scope cl C X.env,outer:=X.stack,ex:=fp,fn:=fun _=>false,calm:=true,pn:=X.pn++pins,xe:=fun _ _=>False }
def GR (X:Cx) (scope:Scope):List Str→List Nat→Prop
 | [],[]=>True
 | y::fr,j::js=>(X.N[j]?=some y∧X.env.scope.names.lookup y=some .cell∧(relabel scope X.env).names.lookup y=some .cell)∧GR X scope fr js
 | _,_=>False
theorem GR.len {X:Cx}{scope:Scope}:∀ {fr:List Str}{js:List Nat},GR X scope fr js→fr.length=js.length
 | [],[],_=>rfl
 | _::_,_::_,h=>congrArg (· + 1) (GR.len h.2)
theorem GR.get {X:Cx}{scope:Scope}:∀ {fr:List Str}{js:List Nat},GR X scope fr js→∀ {i:Nat}{y:Str},fr[i]?=some y →
  ∃ j:Nat,js[i]?=some j∧X.N[j]?=some y∧X.env.scope.names.lookup y=some .cell∧(relabel scope X.env).names.lookup y=some .cell
 | [],[],_,i,y,e=>by simp at e
 | z::fr,j::js,h,0,y,e=>by
  have e':z=y:=by simpa using e
  subst e'
  exact⟨j,rfl,h.1⟩
 | z::fr,j::js,h,i+1,y,e=>by
  obtain⟨k,h1,h2⟩:=GR.get h.2 (i:=i) (y:=y) (by simpa using e)
  exact⟨k,by simpa using h1,h2⟩
structure JW (X:Cx) (scope:Scope) (x:Str) (fr:List Str) (js:List Nat) (cl:List (Str×Addr)):Prop where
 kind:scope.kind=.function
 clos:closureFor scope X.env=pure cl
 cell:∀ y∈scope.names,y.2≠.cell
 loc:∀ y∈scope.names,y.2=.local→scope.names.lookup y.1=some .local
 var:scope.names.lookup x=some .local
 sub:∀ y c,cl.lookup y=some c→X.env.cells.lookup y=some c
 has:∀ y,((relabel scope X.env).names.lookup y=some .cell∨(relabel scope X.env).names.lookup y=some .free)→∃ c,cl.lookup y=some c
 frk:GR X scope fr js
 nd:(x::fr).Nodup
section
variable {X:Cx}{pins:List (Addr×Obj)}{σ:Sg}{H:Hp}{s:Shared}{scope:Scope}{cl:List (Str×Addr)}{x:Str}{fr:List Str}{js:List Nat}{fp:List Addr}
theorem ajm {N:List Str} (I:Inv X pins σ H s) (L:JW X scope x fr js cl) (hc:X.calm=true) (hfp:∀ b∈fp,FpOk X pins H b) (hsz:∀ b∈fp,b<s.heap.objs.size) :
  (blk X scope cl s.heap.objs.size N s H fp pins).Ok where
 mod:=I.ok.mod
 kind:=L.kind
 glob:=I.ok.glob
 blt:=I.ok.blt
 above:=Nat.le_refl _
 inj:=fun y z c h1 h2=>I.ok.inj y z c (L.sub y c h1) (L.sub z c h2)
 has:=fun y hy=>L.has y hy
 cab:=fun y c h _=>absurd (show false=true from h) Bool.false_ne_true
 hd:=fun _=>I.ok.hd hc
 frames:=I.ok.frames
 stk:=.inl rfl
 exf:=fun b hb=>⟨Nat.ne_of_lt (hsz b hb),fun y c h=>(hfp b hb).2.2.2.2.1 y c (L.sub y c h)⟩
 bs:=I.bs
 bsz:=Nat.le_trans I.ok.bsz I.sz
 noex:=fun b o e hb=>by
  rcases (hfp b hb).2.2.2.1 with z | z
  ·exact I.ok.noex b o e z
  ·exact absurd (Nat.lt_of_lt_of_le (Nat.lt_of_lt_of_le (Heap.lt_size e) I.ok.bsz) z) (Nat.lt_irrefl _)
 exfs:=fun b hb z=>by
  rcases List.mem_cons.mp (I.stkSub b z) with e | e
  ·exact (hfp b hb).2.1 e
  ·exact (hfp b hb).2.2.1 e
 funs:=I.stack
 frf:=I.stkFree
def frv (σ:Sg) (js:List Nat):Sg:=js.map fun j=>(σ[j]?).getD none
theorem aaO {h1:Heap}{m1:Str→Option Value}{tk:Nat} (I:Inv X pins σ H s) (L:JW X scope x fr js cl) (hc:X.calm=true) (hfp:∀ b∈fp,FpOk X pins H b) (hsz:∀ b∈fp,b<s.heap.objs.size)
  (hn:h1.Ns s.heap.objs.size m1) (hk:∀ b o,s.heap.get? b=some o→h1.get? b=some o) :
  Inv (blk X scope cl s.heap.objs.size (x::fr) s H fp pins) [] (none::frv σ js) H { s with heap:=h1,toks:=tk }:=by
 refine⟨ajm I L hc hfp hsz,rfl,I.bare,Un.kept hk,⟨m1,hn,fun i y v e1 e2 _=>?_⟩,fun y c e=>?_,I.hok.fresh (Nat.le_refl _),fun y c e=>I.freeC y c (L.sub y c e),fun p hp=>?_,I.hok.kept hk,?_⟩
 ·cases i with
  | zero=>exact absurd e2 (by simp)
  | succ i =>
   have e1':fr[i]?=some y:=by simpa [blk] using e1
   obtain⟨j,hj,hN,hcell,hrel⟩:=L.frk.get e1'
   have e2':σ[j]?=some (some v):=by
    have q:(frv σ js)[i]?=some (some v):=by simpa using e2
    unfold frv at q
    rw [List.getElem?_map,hj] at q
    have q':(σ[j]?).getD none=some v:=by simpa using q
    cases hs:σ[j]? with
    | none=>rw [hs] at q'; cases q'
    | some o=>rw [hs] at q'; exact congrArg some q'
   obtain⟨m,_,hl⟩:=I.loc
   obtain⟨u,r,lk⟩:=hl j y v hN e2' (.inr (.inl hcell))
   refine⟨u,r,.inr ⟨.inl hrel,?_⟩⟩
   rcases lk with⟨hloc,_⟩ | ⟨_,c,hc1,hc2⟩
   ·have:X.env.scope.names.lookup y=some .local:=hloc
    rw [hcell] at this; cases this
   ·obtain⟨c',hc'⟩:=L.has y (.inl hrel)
    have e3:=L.sub y c' hc'
    rw [hc1] at e3; cases e3
    exact⟨c,hc',hc2.keeps hk⟩
 ·obtain⟨v,hv⟩:=I.cell y c (L.sub y c e)
  exact⟨v,hv.keeps hk⟩
 ·have hp':p∈X.pn++pins:=by simpa [blk] using hp
  obtain⟨a1,a2,a3,a4,a5⟩:=I.pin p hp'
  refine⟨hk _ _ a1,a2,Nat.ne_of_lt (Heap.lt_size a1),fun z=>?_,a5⟩
  rcases List.mem_cons.mp (I.stkSub _ z) with e | e
  ·exact a3 e
  ·exact a4 e
 ·show (none::frv σ js).length=(x::fr).length
  simp [frv,L.frk.len]
theorem Yo {H':Hp}{s':Shared}{h':Heap}{σ':Sg}{N:List Str}{pins':List (Addr×Obj)} (I:Inv X pins σ H s) (J:Inv (blk X scope cl s.heap.objs.size N s H fp pins) pins' σ' H' s') (hfp:∀ b∈fp,FpOk X pins H b)
  (hsb:Heap.SameBut s.heap.objs.size s'.heap h'):Inv X pins σ H' { s' with heap:=h' }:=by
 have hos:s'.os=s.os:=J.os
 have nC:H' s.heap.objs.size=none:=J.free
 have kp:∀ b,b≠s.heap.objs.size→h'.get? b=s'.heap.get? b:=hsb.2
 have low:∀ b o,s.heap.get? b=some o→b≠s.heap.objs.size:=fun b o e=>Nat.ne_of_lt (Heap.lt_size e)
 have u:Un (frs X.stack) fp H H' s.heap h':=by
  have u0:Un (frs X.stack) fp H H' s.heap s'.heap:=J.base
  exact⟨fun b o e n h1 h2=>(kp b (low b o e)).trans (u0.keep b o e n h1 h2),fun b o e n h1 h2=>by
    obtain⟨sl,q⟩:=u0.slot b o e n h1 h2
    exact⟨sl,(kp b (low b o e)).trans q⟩,u0.free,fun b o e h1=>by
    obtain⟨o',q⟩:=u0.there b o e h1
    exact⟨o',(kp b (low b o e)).trans q⟩,u0.tups,u0.frzs,u0.tbls⟩
 have hok:HOk X.prog X.w H' h':=fun b o e=>by
  refine (J.hok b o e).stay (fun c v hc q=>(kp c ?_).trans q) (fun _ q=>q) fun _ _ q=>q
  rcases hc with z | z
  ·rw [z]; intro z'; rw [z',nC] at e; cases e
  ·intro z'; rw [z',nC] at z; cases z
 have q:=I.call (g':=s'.gens) (t':=s'.toks) (d':=s'.drawn) u hok J.bare fun b hb=>⟨(hfp b hb).2.2.2.1,(hfp b hb).2.1,(hfp b hb).2.2.2.2.1,(hfp b hb).2.2.2.2.2⟩
 obtain⟨hp,g,d,tk,os⟩:=s'
 have:os=s.os:=hos
 subst this
 exact q
end
def Ce (J:It) (js:List Nat) (te:TE) (σ:Sg) (Q:VK) (H1:Hp):Prop:=∀ D,H1 D=none →
 ∃ W:Nat→Nat→List V→Hp→Prop,(∃ m,W 0 m [] (upd H1 D (.lst [])))∧∀ i m ys H',W i m ys H'→H' D=some (.lst ys) ∧
  ((J.stop i H'∧Q (.ref D) H')∨(J.go i H'∧∀ x H2,J.yld i H' x H2→te (some x::frv σ js) H2 fun y H3=>H3 D=some (.lst ys)∧ys.length<sizeLine ∧
   ∃ m',m'<m∧W (i+1) m' (ys++[y]) (upd H3 D (.lst (ys++[y])))))
def tLC (wi:TI) (js:List Nat) (te:TE):TE:=fun σ H Q=>wi σ H fun J H1=>Ce J js te σ Q H1
section
variable {X:Cx}{scope:Scope}{cl:List (Str×Addr)}{x:Str}{fr:List Str}{js:List Nat}{elt iter:Expr}{px pos:Pos}{wi:TI}{te:TE}
theorem aaF {prog:Program}{w:World}{A:Around}{R:Result→Shared→Prop}{s:Shared}{tg:Expr}{it acc:Value}{env:Env} (Iv:Nat→Shared→Prop)
  (turn:∀ n s,Iv n s→wpAny (model prog w) A (pyNext it) (fun r s1=>match r with
   | none=>R (.ok .next) s1
   | some v=>wpAny (model prog w) A (letOwnedTupleGo tg it v) (fun _ s2=>wpAny (model prog w) A (assign tg env v) (fun _ s3=>wpAny (model prog w) A (eval elt env) (fun y s4 =>
     wpAny (model prog w) A (call (.builtin "list.append") [acc,y]) (fun _ s5=>∃ m,m<n∧Iv m s5) (fun _ _=>False) s4) (fun _ _=>False) s3) (fun _ _=>False) s2) (fun _ _=>False) s1) (fun _ _=>False) s)
  (n:Nat) (h:Iv n s):codeAny (model prog w) A (.compLoop (.ListComp elt [⟨tg,iter,[],0⟩] scope pos) 0 it acc env) R s:=by
 refine codeAny_loop rfl Iv (fun n s hI=>?_) n h
 refine wpAny_noted ?_
 rw [compTurn_list1]
 refine wpAny_bind (wpAny_standAt (wpAny_bind (wpAny_mono (turn n s hI) (fun r s1 h1=>?_) fun _ _ z=>z.elim)))
 cases r with
 | none=>exact wpAny_pure h1
 | some v =>
  refine wpAny_bind (wpAny_mono h1 (fun _ s2 h2=>?_) fun _ _ z=>z.elim)
  refine wpAny_bind (wpAny_mono h2 (fun _ s3 h3=>?_) fun _ _ z=>z.elim)
  refine wpAny_bind (wpAny_bind (wpAny_mono h3 (fun y s4 h4=>?_) fun _ _ z=>z.elim))
  refine wpAny_bind (wpAny_mono h4 (fun _ s5 h5=>?_) fun _ _ z=>z.elim)
  exact wpAny_pure (wpAny_pure ⟨rfl,h5⟩)
theorem aj2 (hc:X.calm=true) (L:JW X scope x fr js cl) (hi:PI X (.Name x px) iter wi)
  (he:∀ C s H fp pins,PE (blk X scope cl C (x::fr) s H fp pins) elt te)
  (hs:∀ v,foldedSetIterable iter X.env v=pure v:=by intro _; rfl) :
  PE X (.ListComp elt [⟨.Name x px,iter,[],0⟩] scope pos) (tLC wi js te):=by
 intro pins s σ H Q I h
 rw [eval_ListComp]
 refine wpAny_comprehension_free (use:=none) rfl hs L.clos L.kind L.loc (thn (hi pins s σ H _ I h) fun v s1 h1=>thn h1 fun itv s2 h2=>?_)
 obtain⟨it,fp,tn,J,H2,e,I2,T,st2,f2,rd⟩:=h2
 subst e
 obtain⟨W,⟨m0,w0⟩,turn⟩:=rd _ I2.fresh
 have I3:=I2.lnew (ys:=[]) (its:=[]) (t':=s2.toks) .nil (Nat.zero_le _)
 refine wpAny_newObj_type ?_
 have XF:∀ b∈fp,b<s2.heap.objs.size:=fun b hb=>by
  obtain⟨o,ho,_⟩:=T.obj 0 _ st2 b hb
  exact Heap.lt_size ho
 generalize hs3:({ s2 with heap:=s2.heap.push { cls:=.type "list",dict:=none,data:=.seq ([]:List Value).toArray } }:Shared)=s3
 have I3':Inv X pins σ (upd H2 s2.heap.objs.size (.lst [])) s3:=by rw [← hs3]; exact I3
 have sz3:s3.heap.objs.size=s2.heap.objs.size+1:=by rw [← hs3]; exact Heap.size_push ..
 have k23:∀ b o,s2.heap.get? b=some o→s3.heap.get? b=some o:=fun b o e=>by rw [← hs3]; exact Heap.get?_push_of_some _ e
 have fsz:∀ b∈fp,b<s3.heap.objs.size:=fun b hb=>by rw [sz3]; exact Nat.lt_succ_of_lt (XF b hb)
 have f3:∀ b∈fp,FpOk X pins (upd H2 s2.heap.objs.size (.lst [])) b:=fun b hb=>⟨by rw [upd_ne (Nat.ne_of_lt (XF b hb))]; exact (f2 b hb).1,(f2 b hb).2⟩
 refine wpAny_newFunctionEnv L.cell (by intro y hy; simp at hy) (fun h4 hn4 aeV=>?_) L.kind
 have k34:∀ b o,s3.heap.get? b=some o→h4.get? b=some o:=fun b o e=>(aeV.2 b (Nat.ne_of_lt (Heap.lt_size e))).trans (Heap.get?_push_of_some _ e)
 generalize hX':blk X scope cl s3.heap.objs.size (x::fr) s3 (upd H2 s2.heap.objs.size (.lst [])) fp pins=X'
 have I4:Inv X' [] (none::frv σ js) (upd H2 s2.heap.objs.size (.lst [])) { s3 with heap:=h4,toks:=s3.toks+([]:List (Str×Value)).length }:=by
  rw [← hX']; exact aaO I3' L hc f3 fsz hn4 k34
 have st4:tn 0 h4:=T.keep _ _ _ st2 fun b _ o e=>k34 b o (k23 b o e)
 have he':PE X' elt te:=by rw [← hX']; exact he _ _ _ _ _
 have xp:X'.prog=X.prog:=by rw [← hX']; rfl
 have xw:X'.w=X.w:=by rw [← hX']; rfl
 have xK:X'.K=X.K:=by rw [← hX']; rfl
 have xA:X'.A=X.A:=by rw [← hX']; rfl
 have xc:X'.calm=true:=by rw [← hX']; rfl
 have xe:X'.xe=fun _ _=>False:=by rw [← hX']; rfl
 have xn:X'.N=x::fr:=by rw [← hX']; rfl
 have xv:X'.env=compEnvC scope cl s3.heap.objs.size X.env:=by rw [← hX']; rfl
 have xpn:X'.pn=X.pn++pins:=by rw [← hX']; rfl
 have xex:X'.ex=fp:=by rw [← hX']; rfl
 have xfs:X'.fs=frs X.stack:=by rw [← hX']; rfl
 have back:∀ {H':Hp}{s':Shared}{h':Heap}{σ':Sg},Inv X' [] σ' H' s'→Heap.SameBut s3.heap.objs.size s'.heap h'→Inv X pins σ H' { s' with heap:=h' }:=fun {H' s' h' σ'} J' hsb=>by
  rw [← hX'] at J'; exact Yo I3' J' f3 hsb
 have frame:∀ b∈fp,b ∉ frs X.stack:=fun b hb z=>by
  rcases List.mem_cons.mp (I3'.stkSub b z) with e | e
  ·exact (f3 b hb).2.1 e
  ·exact (f3 b hb).2.2.1 e
 have stat:∀ {H':Hp},(∀ b∈fp,H' b=none)→∀ b∈fp,FpOk X' [] H' b:=fun {H'} hn b hb=>by
  refine⟨hn b hb,?_,?_,.inl (by rw [xex]; exact hb),?_,?_⟩
  ·rw [xv]; exact Nat.ne_of_lt (fsz b hb)
  ·rw [xfs]; exact frame b hb
  ·rw [xv]; exact fun y c e=>(f3 b hb).2.2.2.2.1 y c (L.sub y c e)
  ·rw [xpn,List.append_nil]; exact (f3 b hb).2.2.2.2.2
 have loop:codeAny (model X.prog X.w) X.A (.compLoop (.ListComp elt [⟨.Name x px,iter,[],0⟩] scope pos) 0 (.ref it) (.ref s2.heap.objs.size) (compEnvC scope cl s3.heap.objs.size X.env))
   (compPost (model X.prog X.w) X.A X.xe none (EP X pins σ Q) (.ref s2.heap.objs.size) s3.heap.objs.size) { s3 with heap:=h4,toks:=s3.toks+([]:List (Str×Value)).length }:=by
  refine aaF (fun n s'=>∃ i ys o H',Inv X' [] (o::frv σ js) H' s'∧tn i s'.heap∧(∀ b∈fp,H' b=none)∧W i n ys H') ?_ m0 ⟨0,[],none,_,I4,st4,fun b hb=>(f3 b hb).1,w0⟩
  rintro n s5 ⟨i,ys,o,H5,I5,st5,fr5,w5⟩
  obtain⟨hD,hstep⟩:=turn i n ys H5 w5
  rcases hstep with⟨stop,qn⟩ | ⟨go,step⟩
  ·have q:=T.done X' xp xw xK xc i [] s5 _ H5 (fun _ _=>False) I5 (stat fr5) st5 stop
   rw [xA] at q
   refine thn q fun r s6 ⟨hr,I6⟩=>?_
   subst hr
   obtain⟨m6,hn6,_⟩:=I6.loc
   rw [xv] at hn6
   exact⟨m6,hn6,fun h' hsb=>⟨.ref s2.heap.objs.size,H5,back I6 hsb,rfl,qn⟩⟩
  ·have q:=T.item X' xp xw xK xc i [] s5 _ H5 (fun _ _=>False) I5 (stat fr5) st5 go
   rw [xA] at q
   refine thn q fun r s6 ⟨u,hr,h6⟩=>?_
   subst hr
   refine thn h6 fun _ s7 ⟨xx,H7,I7,r7,y7,st7,fr7⟩=>?_
   have I7':=I7.pinned (stat fr7) (T.obj _ _ st7)
   have hg:PG X' (.Name x px) (gName 0):=by
    refine pg_name (i:=0) (x:=x) (by rw [xn]; exact L.nd) (by rw [xn]; rfl) ?_ ?_
    ·rw [xv]; exact .inl (lookup_relabel_local L.var)
    ·rw [xv]; exact .inr (lookup_relabel_local L.var)
   have q7:=hg _ s7 _ H7 xx u (fun σ8 H8=>σ8=some xx::frv σ js∧H8=H7) I7' r7 ⟨rfl,rfl⟩
   rw [xp,xw,xA,xe,xv] at q7
   refine thn q7 fun _ s8 ⟨σ8,H8,I8,e8,e8'⟩=>?_
   subst e8 e8'
   have q8:=he' _ s8 _ _ _ I8 (step xx _ y7)
   rw [xp,xw,xA,xe,xv] at q8
   refine thn q8 fun yv s9 ⟨y,H9,I9,r9,d9,z9,m9,hm9,w9⟩=>?_
   have q9:=dD (X:=X') _ s9 _ H9 (.ref s2.heap.objs.size) [y] (.ref s2.heap.objs.size) [yv] (fun z H'=>H'=upd H9 s2.heap.objs.size (.lst (ys++[y]))) I9 rfl (.cons r9 .nil) ⟨_,ys,y,rfl,rfl,d9,z9,rfl⟩
   rw [xp,xw,xA,xe] at q9
   refine thn q9 fun _ s10 ⟨_,H10,I10,_,e10⟩=>?_
   subst e10
   refine⟨m9,hm9,i+1,ys++[y],some xx,_,I10.unpinned,T.keep _ _ _ st7 fun b hb ob e=>(I10.pin (b,ob) (List.mem_append_right _ (List.mem_append_right _ (mem_pinsAt hb e)))).1,fun b hb=>?_,w9⟩
   obtain⟨ob,e,_⟩:=T.obj _ _ st7 b hb
   exact (I10.pin (b,ob) (List.mem_append_right _ (List.mem_append_right _ (mem_pinsAt hb e)))).2.1
 exact codeAny_compStart_list loop (T.self _ 0 _ _ _ st4 loop)
end
def wG (cells:List (Str×Addr)):List (Str×NameKind)→List (Str×Addr)→List (Str×Addr)
 | [],acc=>acc
 | (n,.free)::r,acc=>match cells.lookup n with
  | some c=>wG cells r ((n,c)::acc)
  | none=>wG cells r acc
 | (_,_)::r,acc=>wG cells r acc
theorem Jv {cells:List (Str×Addr)}{n:Str}{k:NameKind}{r:List (Str×NameKind)}{acc:List (Str×Addr)} (h:k≠.free):wG cells ((n,k)::r) acc=wG cells r acc:=by
 cases k <;> first | rfl | exact absurd rfl h
theorem Jw {cells:List (Str×Addr)}{n:Str}{c:Addr}{r:List (Str×NameKind)}{acc:List (Str×Addr)} (h:cells.lookup n=some c):wG cells ((n,.free)::r) acc=wG cells r ((n,c)::acc):=by
 rw [wG,h]
theorem Oq {cells:List (Str×Addr)}:∀ {names:List (Str×NameKind)}{acc:List (Str×Addr)},(∀ y∈names,y.2=.free→∃ c,cells.lookup y.1=some c)→(∀ y c,acc.lookup y=some c→cells.lookup y=some c) →
  ∀ y c,(wG cells names acc).lookup y=some c→cells.lookup y=some c
 | [],_,_,h,y,c,e=>h y c e
 | (n,k)::r,acc,hf,h,y,c,e=>by
  have hr:∀ y∈r,y.2=.free→∃ c,cells.lookup y.1=some c:=fun y hy=>hf y (List.mem_cons_of_mem _ hy)
  by_cases hk:k=.free
  ·subst hk
   obtain⟨d,hd⟩:=hf (n,.free) List.mem_cons_self rfl
   rw [Jw hd] at e
   refine Oq hr (fun z b hz=>?_) y c e
   rw [List.lookup_cons] at hz
   cases hzn:z == n with
   | true =>
    rw [hzn] at hz
    have:z=n:=eq_of_beq hzn
    rw [this,hd]
    exact hz
   | false =>
    rw [hzn] at hz
    exact h z b hz
  ·rw [Jv hk] at e
   exact Oq hr h y c e
theorem Ot {cells:List (Str×Addr)}:∀ {names:List (Str×NameKind)}{acc:List (Str×Addr)},(∀ y∈names,y.2=.free→∃ c,cells.lookup y.1=some c) →
  ∀ y:Str,((y,NameKind.free)∈names∨∃ c,acc.lookup y=some c)→∃ c,(wG cells names acc).lookup y=some c
 | [],_,_,y,h=>by
  rcases h with h | h
  ·simp at h
  ·exact h
 | (n,k)::r,acc,hf,y,h=>by
  have hr:∀ y∈r,y.2=.free→∃ c,cells.lookup y.1=some c:=fun y hy=>hf y (List.mem_cons_of_mem _ hy)
  by_cases hk:k=.free
  ·subst hk
   obtain⟨d,hd⟩:=hf (n,.free) List.mem_cons_self rfl
   rw [Jw hd]
   refine Ot hr y ?_
   by_cases hyn:y=n
   ·subst hyn
    exact .inr ⟨d,by simp [List.lookup_cons]⟩
   ·rcases h with h | ⟨c,h⟩
    ·rcases List.mem_cons.mp h with e | e
     ·exact absurd (congrArg Prod.fst e) hyn
     ·exact .inl e
    ·refine .inr ⟨c,?_⟩
     rw [List.lookup_cons]
     have:(y == n)=false:=by simpa using hyn
     rw [this]
     exact h
  ·rw [Jv hk]
   refine Ot hr y ?_
   rcases h with h | h
   ·rcases List.mem_cons.mp h with e | e
    ·exact absurd (congrArg Prod.snd e).symm hk
    ·exact .inl e
   ·exact .inr h
theorem ab5 {scope:Scope}{env:Env} (hf:∀ y∈scope.names,y.2=.free→∃ c,env.cells.lookup y.1=some c):closureFor scope env=pure (wG env.cells scope.names []):=by
 have key:∀ (names:List (Str×NameKind)) (acc:List (Str×Addr)),(∀ y∈names,y.2=.free→∃ c,env.cells.lookup y.1=some c) →
   (forIn names acc fun (x:Str×NameKind) (cs:List (Str×Addr))=>(match x with | (name,kind)=>if (kind == NameKind.free)=true then (cellOf env name >>= fun a=>pure (ForInStep.yield ((name,a)::cs))) else pure (ForInStep.yield cs):Sem (ForInStep (List (Str×Addr)))))=pure (wG env.cells names acc):=by
  intro names
  induction names with
  | nil=>intro acc _; rfl
  | cons x r ih =>
   intro acc h
   obtain⟨n,k⟩:=x
   have hr:∀ y∈r,y.2=.free→∃ c,env.cells.lookup y.1=some c:=fun y hy=>h y (List.mem_cons_of_mem _ hy)
   rw [List.forIn_cons]
   by_cases hk:k=.free
   ·subst hk
    obtain⟨d,hd⟩:=h (n,.free) List.mem_cons_self rfl
    have hc:cellOf env n=pure d:=by unfold cellOf; rw [hd]
    rw [Jw hd,← ih _ hr]
    simp only [beq_self_eq_true,if_true,hc,pure_bind]
   ·have hb:(k == NameKind.free)=false:=by simpa using hk
    rw [Jv hk,← ih _ hr]
    simp only [hb,Bool.false_eq_true,if_false,pure_bind]
 have:=key scope.names [] hf
 unfold closureFor
 simp only [bind_pure_comp,map_pure] at this ⊢
 first
  | exact this
  | (rw [this]; rfl)
  | (simp only [this]; rfl)
theorem rN {X:Cx}{scope sc:Scope}{x:Str}{fr:List Str}{js:List Nat} (hk:scope.kind=.function) (hsc:X.env.scope=sc) (hkf:sc.kind=.function)
  (hcell:∀ y∈scope.names,y.2≠.cell) (hloc:∀ y∈scope.names,y.2=.local→scope.names.lookup y.1=some .local) (aoN:scope.names.lookup x=some .local)
  (hfree:∀ y∈scope.names,y.2=.free→sc.names.lookup y.1=some .cell) (hfr:GR X scope fr js) (hnd:(x::fr).Nodup)
  (hcs:∀ y,X.env.scope.names.lookup y=some .cell→∃ c,X.env.cells.lookup y=some c):JW X scope x fr js (wG X.env.cells scope.names []):=by
 have hall:∀ y∈scope.names,y.2=.free→∃ c,X.env.cells.lookup y.1=some c:=fun y hy e=>hcs _ (by rw [hsc]; exact hfree y hy e)
 refine⟨hk,ab5 hall,hcell,hloc,aoN,Oq hall fun y c e=>by simp at e,fun y hy=>Ot hall y (.inl ?_),hfr,hnd⟩
 have get:∀ k,(k=NameKind.cell∨k=NameKind.free)→(relabel scope X.env).names.lookup y=some k→(y,NameKind.free)∈scope.names:=fun k hkk e=>by
  have hm:=PySem.mem_of_lookup e
  unfold relabel at hm
  obtain⟨⟨n,k0⟩,hin,heq⟩:=List.mem_map.mp hm
  dsimp only at heq
  split at heq
  ·rename_i hc
   have e1:n=y:=congrArg Prod.fst heq
   have e2:k0=.free:=by
    rw [Bool.and_eq_true,Bool.and_eq_true] at hc
    exact eq_of_beq hc.1.1
   rw [← e1,← e2]
   exact hin
  ·have e1:n=y:=congrArg Prod.fst heq
   have e2:k0=k:=congrArg Prod.snd heq
   rcases hkk with z | z
   ·exact absurd (by rw [e2,z]) (hcell _ hin)
   ·rw [← e1,← z,← e2]
    exact hin
 rcases hy with h | h
 ·exact get _ (.inl rfl) h
 ·exact get _ (.inr rfl) h
theorem same_new {H:Hp}{p:Addr} (h:H p=none) (o:HO):Same H (upd H p o):=fun b u q=>by rw [upd_ne (ne_of_none q h)]; exact q
structure Kt (H H':Hp):Prop where
 t:∀ b xs,H b=some (.tup xs)→H' b=some (.tup xs)
 f:∀ b o u,H b=some (.frz o u)→H' b=some (.frz o u)
theorem Kt.of {H H':Hp} (S:Same H H'):Kt H H':=⟨fun b _ e=>S b _ e,fun b _ _ e=>S b _ e⟩
theorem Kt.refl (H:Hp):Kt H H:=⟨fun _ _ e=>e,fun _ _ _ e=>e⟩
theorem Kt.trans {H H1 H2:Hp} (a:Kt H H1) (b:Kt H1 H2):Kt H H2:=⟨fun _ _ e=>b.t _ _ (a.t _ _ e),fun _ _ _ e=>b.f _ _ _ (a.f _ _ _ e)⟩
theorem Kt.new {H:Hp}{p:Addr}{o:HO} (h:H p=none):Kt H (upd H p o):=.of (same_new h o)
theorem Kt.lst {H:Hp}{p:Addr}{ys:List V}{o:HO} (h:H p=some (.lst ys)):Kt H (upd H p o) :=
 ⟨fun b xs e=>by rw [upd_ne (ne_of e h (fun z=>by cases z))]; exact e,fun b o' u e=>by rw [upd_ne (ne_of e h (fun z=>by cases z))]; exact e⟩
theorem gW {K:PySem.W.Frag}{H H':Hp}{a:Addr}{xs:List V} (S:Kt H H') (h:SqT K H a xs):SqT K H' a xs:=by
 rcases h with (h | ⟨o,h⟩) | h
 ·exact .inl (.inl (S.t _ _ h))
 ·exact .inl (.inr ⟨o,S.f _ _ _ h⟩)
 ·exact .inr h
theorem gB {H H':Hp}{p:Addr}{o:HO} (S:Same H H') (h:H p=none):Same H (upd H' p o):=fun b u q=>by rw [upd_ne (ne_of_none q h)]; exact S b u q
section
variable {X:Cx}
theorem Je (l:Addr) (items:Array Value) (n:Nat) (b:Addr) (items2:Array Value) (n2:Nat) (dd:Option Addr) (sl:Array (Option Value))
  (h0:¬ (!items.isEmpty && Builtin.List.listTooLong (items.size+items2.size))=true) (h1:items.size≤sizeLine) (h2:items.size+items2.size≤sizeLine+1) :
  Meets (Builtin.«list.extend» ⟨[.ref l,.ref b],[]⟩) (fun _ R s=>s.heap.get? l=some { cls:=.type "list",dict:=none,data:=.seq items n,slots:=#[] } ∧
   s.heap.get? b=some { cls:=.type "tuple",dict:=dd,data:=.seq items2 n2,slots:=sl }∧R (.ok (.ret Value.none)) { s with heap:=s.heap.update l (Obj.mapSeq fun x=>x++items2),toks:=s.toks }) :=
 .of_wp fun prog w A R s h=>by
  obtain⟨hp,g,d,tk,os⟩:=s
  obtain⟨hl,hb,h⟩:=h
  have f1:=AutoSeq1.idx_int
  have f2:=AutoSeq1.sub_tuple_tuple
  have f3:=AutoSeq1.sub_list_list
  have f4:=AutoSeq1.sub_tuple_list
  have f5:=AutoSeq1.sub_list_tuple
  have hz':(items++items2).size≤sizeLine+1:=by
   rw [Array.size_append]
   exact h2
  wp_walk using (wpAny_updateSeq hl rfl (hz:=h1) (_hz':=hz')),AutoSeq1.wpAny_loadPart' hl,AutoSeq1.wpAny_loadPart' hb
  exact⟨_,rfl,h⟩
def ajW (K:PySem.W.Frag):V→List V→Hp→VK→Prop:=fun x vs H Q=>∃ l b xs zs,x=.ref l∧vs=[.ref b]∧H l=some (.lst xs)∧SqT K H b zs∧xs.length+zs.length≤sizeLine∧Q .non (upd H l (.lst (xs++zs)))
theorem RL:MtM X "list.extend" (ajW X.K):=by
 intro pins s σ H x vs v us Q I rx rv h
 obtain⟨l,b,xs,zs,rfl,rfl,hH,hB,hz,q⟩:=h
 cases rx
 obtain⟨u,rfl,ru⟩:=rv.one
 cases ru
 obtain⟨z,its,n,r,hl,e⟩:=I.lstM hH
 obtain⟨its2,r2,⟨⟨c2,d2,dt2,sl2⟩,e2,hc2,n2,hd2⟩,z2⟩:=I.tuple hB
 have hl2:=r2.length
 simp only at hc2 hd2
 subst hc2 hd2
 have hsz:its.toArray.size+its2.toArray.size≤sizeLine:=by rw [List.size_toArray,List.size_toArray]; lia
 have abO:¬ (!its.toArray.isEmpty && Builtin.List.listTooLong (its.toArray.size+its2.toArray.size))=true:=by
  rw [Ng hsz,Bool.and_false]
  exact Bool.false_ne_true
 refine call_meets F.slot_list_extend ⟨_,e,rfl⟩ F.entry_list_extend (F.args_list_extend_2 _ _)
  (Je l its.toArray n b its2.toArray n2 d2 sl2 abO (by rw [List.size_toArray]; lia) (by lia)) ⟨e,e2,?_⟩
 refine⟨.non,_,I.Xp (its':=its++its2) hH e (by simp) (r.append r2) ?_,rfl,q⟩
 rw [List.length_append]
 lia
theorem Hz {prog:Program}{w:World}{A:Around}{E:Value→Shared→Prop}{s:Shared}{t sl:Addr}{items:Array Value}{vl vu:Value}{lo hi:Option Int}{Q:Value→Shared→Prop}
  (ht:IsTup s.heap t items) (hs:s.heap.IsSliceOf sl vl vu .none) (pl:IsPart vl lo) (pu:IsPart vu hi)
  (h1:HT.sIx items.size 0 lo=0) (h2:HT.sIx items.size items.size hi=items.size) (h:Q (.ref t) s):wpAny (model prog w) A (getItem (.ref t) (.ref sl)) Q E s:=by
 obtain⟨os,hos,hcs,hds⟩:=id hs
 have hTs:s.TypeIs (.ref sl) "slice":=⟨os,hos,hcs⟩
 unfold getItem
 try with_reducible refine wpAny_holding ?_
 first | refine wpAny_bind (wpAny_pure ?_) | skip
 refine wpAny_bind (wpAny_sequenceKey ht.typeIs (by decide) ?_)
 refine wpAny_bind (wpAny_callSpecial?_slot (name:=Str.ofString "__getitem__") ht.typeIs PyProof.Rows.slot_tuple_getitem
  (wpAny_call_entry PyProof.Rows.slot_tuple_getitem ht.typeIs entry_tuple_getitem ?_ (args_tuple_getitem _ _)))
 show wpAny _ _ (Builtin.Tuple.tupleItemsOf (.ref t) >>= _) _ _ s
 refine wpAny_bind (tupleItemsOf_ ht ?_)
 refine wpAny_bind (wpAny_typeOf hTs ?_)
 rw [if_pos (by decide)]
 refine wpAny_bind (HT.zL hs pl pu ?_)
 have hyes:(((HT.sIx items.size 0 lo:Nat):Int) == 0 && (1:Int) == 1 && (HT.sIx items.size items.size hi - HT.sIx items.size 0 lo) == items.size)=true:=by
  rw [h1,h2]
  simp
 show wpAny _ _ (if (((HT.sIx items.size 0 lo:Nat):Int) == 0 && (1:Int) == 1 && (HT.sIx items.size items.size hi - HT.sIx items.size 0 lo) == items.size)=true then _ else _) _ _ s
 rw [if_pos hyes]
 unfold Builtin.Tuple.tupleIsExact
 refine wpAny_bind (wpAny_bind (wpAny_typeOf ht.typeIs (wpAny_pure ?_)))
 rw [if_pos (by decide)]
 refine wpAny_bind (wpAny_rule ?_)
 exact wpAny_pure ⟨_,rfl,wpAny_pure h⟩
def ajT (K:PySem.W.Frag):V→Option Int→Option Int→Hp→VK→Prop:=fun x lo hi H Q=>∃ a xs,x=.ref a∧SqT K H a xs ∧
 HT.sIx xs.length 0 lo=0∧HT.sIx xs.length xs.length hi=xs.length∧Q (.ref a) H
theorem afU:SlR X (ajT X.K):=by
 intro pins s σ H x v vl vu lo hi sl Q I rx hs pl pu h
 obtain⟨a,xs,rfl,hx,w1,w2,q⟩:=h
 cases rx
 obtain⟨its,r,ht,hz⟩:=I.tuple hx
 have hlen:its.toArray.size=xs.length:=by rw [List.size_toArray]; exact r.length.symm
 refine⟨"tuple",_,PyProof.Rows.slot_tuple_getitem.lookup,ht.typeIs,?_⟩
 exact Hz ht hs pl pu (by rw [hlen]; exact w1) (by rw [hlen]; exact w2) ⟨.ref a,H,I,rfl,q⟩
def PB (K:PySem.W.Frag):V→Option Int→Option Int→Hp→VK→Prop:=fun x lo hi H Q=>∃ a xs,x=.ref a∧SqT K H a xs∧∀ p H',Same H H'→SqT K H' p (qZ xs lo hi)→Q (.ref p) H'
theorem ab2 {xs:List V}{lo hi:Option Int} (h1:HT.sIx xs.length 0 lo=0) (h2:HT.sIx xs.length xs.length hi=xs.length):qZ xs lo hi=xs:=by
 unfold qZ
 rw [h1,h2]
 simp
theorem cT:SlR X (PB X.K):=by
 intro pins s σ H x v vl vu lo hi sl Q I rx hs pl pu h
 obtain⟨a,xs,rfl,hx,q⟩:=h
 by_cases hw:HT.sIx xs.length 0 lo=0∧HT.sIx xs.length xs.length hi=xs.length
 ·exact afU pins s σ H _ v vl vu lo hi sl Q I rx hs pl pu ⟨a,xs,rfl,hx,hw.1,hw.2,q a H (Same.refl H) (by rw [ab2 hw.1 hw.2]; exact hx)⟩
 ·exact ahr pins s σ H _ v vl vu lo hi sl Q I rx hs pl pu ⟨a,xs,rfl,hx,hw,fun p hp=>q p _ (same_new hp _) (SqT.of upd_same)⟩
end
mutual
def TR (K:PySem.W.Frag) (H:Hp):T→V→Prop
 | .node ts,x=>∃ a xs,x=.ref a∧SqT K H a xs∧TRs K H ts xs
def TRs (K:PySem.W.Frag) (H:Hp):List T→List V→Prop
 | [],xs=>xs=[]
 | t::ts,xs=>∃ x r,xs=x::r∧TR K H t x∧TRs K H ts r
end
section
variable {K:PySem.W.Frag}{H H':Hp}
theorem bW {ts:List T}{x:V}:TR K H (.node ts) x↔∃ a xs,x=.ref a∧SqT K H a xs∧TRs K H ts xs:=by rw [TR]
theorem bM {xs:List V}:TRs K H [] xs↔xs=[]:=by rw [TRs]
theorem cH {t:T}{ts:List T}{xs:List V}:TRs K H (t::ts) xs↔∃ x r,xs=x::r∧TR K H t x∧TRs K H ts r:=by rw [TRs]
theorem Ca {t:T}{x:V} (h:TR K H t x):∃ a xs,x=.ref a∧SqT K H a xs∧TRs K H t.kids xs:=by
 cases t with
 | node ts=>exact bW.mp h
theorem wV {ts:List T}{a:Addr}{xs:List V} (h:SqT K H a xs) (q:TRs K H ts xs):TR K H (.node ts) (.ref a):=bW.mpr ⟨a,xs,rfl,h,q⟩
mutual
theorem TR.mono (S:Kt H H'):∀ {t:T}{x:V},TR K H t x→TR K H' t x
 | .node ts,x,h=>by
  obtain⟨a,xs,e,h1,h2⟩:=bW.mp h
  exact bW.mpr ⟨a,xs,e,gW S h1,TRs.mono S h2⟩
theorem TRs.mono (S:Kt H H'):∀ {ts:List T}{xs:List V},TRs K H ts xs→TRs K H' ts xs
 | [],xs,h=>by rw [bM] at h ⊢; exact h
 | t::ts,xs,h=>by
  obtain⟨x,r,e,h1,h2⟩:=cH.mp h
  exact cH.mpr ⟨x,r,e,TR.mono S h1,TRs.mono S h2⟩
end
theorem TRs.length:∀ {ts:List T}{xs:List V},TRs K H ts xs→xs.length=ts.length
 | [],xs,h=>by rw [bM] at h; rw [h]; rfl
 | t::ts,xs,h=>by
  obtain⟨x,r,e,h1,h2⟩:=cH.mp h
  rw [e,List.length_cons,List.length_cons,TRs.length h2]
theorem TRs.append:∀ {ts us:List T}{xs ys:List V},TRs K H ts xs→TRs K H us ys→TRs K H (ts++us) (xs++ys)
 | [],us,xs,ys,h,g=>by rw [bM] at h; rw [h]; exact g
 | t::ts,us,xs,ys,h,g=>by
  obtain⟨x,r,e,h1,h2⟩:=cH.mp h
  rw [e]
  exact cH.mpr ⟨x,r++ys,rfl,h1,TRs.append h2 g⟩
theorem TRs.get:∀ {ts:List T}{xs:List V},TRs K H ts xs→∀ {i:Nat}{x:V},xs[i]?=some x→∃ t,ts[i]?=some t∧TR K H t x
 | [],xs,h,i,x,e=>by rw [bM] at h; rw [h] at e; simp at e
 | t::ts,xs,h,i,x,e=>by
  obtain⟨y,r,rfl,h1,h2⟩:=cH.mp h
  cases i with
  | zero=>exact⟨t,rfl,by have e':y=x:=(by simpa using e);rw [← e']; exact h1⟩
  | succ i=>exact TRs.get h2 (i:=i) (by simpa using e)
theorem TRs.take:∀ (n:Nat) {ts:List T}{xs:List V},TRs K H ts xs→TRs K H (ts.take n) (xs.take n)
 | 0,ts,xs,h=>by rw [List.take_zero,List.take_zero,bM]
 | n+1,[],xs,h=>by rw [bM] at h; rw [h]; exact bM.mpr rfl
 | n+1,t::ts,xs,h=>by
  obtain⟨x,r,rfl,h1,h2⟩:=cH.mp h
  exact cH.mpr ⟨x,r.take n,rfl,h1,TRs.take n h2⟩
theorem TRs.drop:∀ (n:Nat) {ts:List T}{xs:List V},TRs K H ts xs→TRs K H (ts.drop n) (xs.drop n)
 | 0,ts,xs,h=>h
 | n+1,[],xs,h=>by rw [bM] at h; rw [h]; exact bM.mpr rfl
 | n+1,t::ts,xs,h=>by
  obtain⟨x,r,rfl,h1,h2⟩:=cH.mp h
  exact TRs.drop n h2
theorem TRs.dropLast {ts:List T}{xs:List V} (h:TRs K H ts xs):TRs K H ts.dropLast xs.dropLast:=by
 rw [List.dropLast_eq_take,List.dropLast_eq_take,h.length]
 exact h.take _
end
section
variable {X:Cx}{pins:List (Addr×Obj)}{σ:Sg}{H:Hp}{s:Shared}
theorem VG (I:Inv X pins σ H s):∀ (n:Nat),(∀ (t u:T) (x:V),t.parts≤n→TR X.K H t x→TR X.K H u x→t=u)∧(∀ (ts us:List T) (xs:List V),T.aH ts≤n→TRs X.K H ts xs→TRs X.K H us xs→ts=us)
 | 0=>⟨fun t u x h _ _=>absurd (T.gC t) (by lia),fun ts us xs h q r=>by
   have h1:=T.cL ts
   have h2:=q.length
   have h3:=r.length
   have e1:ts=[]:=List.length_eq_zero_iff.mp (by lia)
   have e2:us=[]:=List.length_eq_zero_iff.mp (by lia)
   rw [e1,e2]⟩
 | n+1=>by
  have ih:=VG I n
  have A:∀ (t u:T) (x:V),t.parts≤n+1→TR X.K H t x→TR X.K H u x→t=u:=fun t u x h q r=>by
   cases t with
   | node ts =>
    cases u with
    | node us =>
     obtain⟨a,xs,e1,q1,q2⟩:=bW.mp q
     obtain⟨b,ys,e2,r1,r2⟩:=bW.mp r
     rw [e1] at e2
     cases e2
     have:=I.HS q1 r1
     subst this
     rw [T.aN] at h
     rw [ih.2 ts us xs (by lia) q2 r2]
  refine⟨A,fun ts us xs h q r=>?_⟩
  cases ts with
  | nil =>
   rw [bM] at q
   subst q
   have:=r.length
   exact (List.length_eq_zero_iff.mp (by simpa using this.symm)).symm
  | cons t ts =>
   obtain⟨x,r',rfl,q1,q2⟩:=cH.mp q
   cases us with
   | nil=>rw [bM] at r; cases r
   | cons u us =>
    obtain⟨x2,r2',e,r1,r2⟩:=cH.mp r
    cases e
    rw [T.aF] at h
    have h1:=T.gC t
    rw [A t u x (by lia) q1 r1,ih.2 ts us r' (by lia) q2 r2]
def ql (ts us:List T) (j:Nat):Bool:=match ts[j]?,us[j]? with
 | some t,some u=>T.beq t u
 | _,_=>false
theorem zf:∀ ts us:List T,((List.range (min ts.length us.length)).all (ql ts us) && ts.length == us.length)=T.j5 ts us
 | [],[]=>by simp [T.j5]
 | [],u::us=>by simp [T.j5]
 | t::ts,[]=>by simp [T.j5]
 | t::ts,u::us=>by
  have ih:=zf ts us
  have e:min (t::ts).length (u::us).length=min ts.length us.length+1:=by simp only [List.length_cons]; lia
  rw [e,List.range_succ_eq_map,List.all_cons,List.all_map]
  have e2:(ql (t::ts) (u::us)∘Nat.succ)=ql ts us:=by
   funext j
   simp [ql]
  have e3:ql (t::ts) (u::us) 0=T.beq t u:=rfl
  have e4:((t::ts).length == (u::us).length)=(ts.length == us.length):=by simp
  rw [e2,e3,e4,Bool.and_assoc,ih]
  rw [T.j5]
theorem aau (I:Inv X pins σ H s):∀ (n:Nat) (t u:T) (A:Around) (a b:Addr),t.deep≤n→TR X.K H t (.ref a)→TR X.K H u (.ref b)→A.units+n<cLine→SeqAt.RcAt A s (.ref a) (.ref b) (T.beq t u):=by
 intro n
 induction n with
 | zero =>
  intro t u A a b hd q r hu
  cases t with
  | node ts =>
   cases u with
   | node us =>
    obtain⟨a',xs,e1,q1,q2⟩:=bW.mp q
    cases e1
    obtain⟨b',ys,e2,r1,r2⟩:=bW.mp r
    cases e2
    rw [T.aR] at hd
    have hts:ts=[]:=by
     cases ts with
     | nil=>rfl
     | cons t ts=>rw [T.aU] at hd; lia
    subst hts
    rw [bM] at q2
    subst q2
    obtain⟨its,rv,ht,_⟩:=I.tuple q1
    obtain⟨its2,rv2,ht2,_⟩:=I.tuple r1
    have h0:=rv.length
    have h2:=rv2.length
    have h3:=r2.length
    have key:=SeqAt.RcAt.tuples (A:=A) (e:=fun _=>true) ht ht2 (by lia) (fun j j1 _=>absurd j1 (by rw [List.size_toArray,← h0]; simp))
    have ev:((List.range (min its.toArray.size its2.toArray.size)).all (fun _=>true) && its.toArray.size == its2.toArray.size)=T.beq (.node []) (.node us):=by
     rw [List.size_toArray,List.size_toArray,← h0,← h2,h3,T.beq,← zf]
     simp
    rw [ev] at key
    exact key
 | succ n ih =>
  intro t u A a b hd q r hu
  cases t with
  | node ts =>
   cases u with
   | node us =>
    obtain⟨a',xs,e1,q1,q2⟩:=bW.mp q
    cases e1
    obtain⟨b',ys,e2,r1,r2⟩:=bW.mp r
    cases e2
    rw [T.aR] at hd
    obtain⟨its,rv,ht,_⟩:=I.tuple q1
    obtain⟨its2,rv2,ht2,_⟩:=I.tuple r1
    have l1:=rv.length
    have l2:=rv2.length
    have l3:=q2.length
    have l4:=r2.length
    have key:=SeqAt.RcAt.tuples (A:=A) (e:=ql ts us) ht ht2 (by lia) (fun j j1 j2=>?_)
    ·have ev:((List.range (min its.toArray.size its2.toArray.size)).all (ql ts us) && its.toArray.size == its2.toArray.size)=T.beq (.node ts) (.node us):=by
      rw [List.size_toArray,List.size_toArray,← l1,← l2,l3,l4,T.beq,← zf]
     rw [ev] at key
     exact key
    ·have j1':j<xs.length:=by rw [l1]; simpa using j1
     have j2':j<ys.length:=by rw [l2]; simpa using j2
     obtain⟨u1,hu1,ru1⟩:=rv.get (List.getElem?_eq_getElem j1')
     obtain⟨u2,hu2,ru2⟩:=rv2.get (List.getElem?_eq_getElem j2')
     obtain⟨t1,ht1,tr1⟩:=q2.get (List.getElem?_eq_getElem j1')
     obtain⟨t2,aeU,tr2⟩:=r2.get (List.getElem?_eq_getElem j2')
     have ee:ql ts us j=T.beq t1 t2:=by unfold ql; rw [ht1,aeU]
     have g1:its.toArray[j]=u1:=by
      have:its[j]?=some u1:=hu1
      rw [List.getElem?_eq_some_iff] at this
      obtain⟨_,e⟩:=this
      simpa using e
     have g2:its2.toArray[j]=u2:=by
      have:its2[j]?=some u2:=hu2
      rw [List.getElem?_eq_some_iff] at this
      obtain⟨_,e⟩:=this
      simpa using e
     rw [ee,g1,g2]
     obtain⟨a1,zs1,e1,_⟩:=Ca tr1
     obtain⟨a2,zs2,e2,_⟩:=Ca tr2
     rw [e1] at ru1 tr1
     rw [e2] at ru2 tr2
     obtain rfl:u1=Value.ref a1:=ru1
     obtain rfl:u2=Value.ref a2:=ru2
     by_cases hne:a1=a2
     ·subst hne
      have et:t1=t2:=(VG I t1.parts).1 t1 t2 _ (Nat.le_refl _) tr1 tr2
      rw [et,T.pB]
      exact SeqAt.EqAt.same _
     ·have hd1:t1.deep≤n:=by
       have:=T.nP (List.mem_of_getElem? ht1)
       lia
      exact SeqAt.EqAt.of_refs hne (ih t1 t2 A.in1 a1 a2 hd1 tr1 tr2 (by rw [Around.in1_units]; lia))
end
section
variable {X:Cx}
def ajX (K:PySem.W.Frag) (n:Nat):R2:=fun x y H Q=>∃ t u,TR K H t x∧TR K H u y∧t.deep≤n∧Q (.bl (T.beq t u)) H
theorem uE {n:Nat} (hu:X.A.units+n<cLine):OpR X (compareOp .Eq) (ajX X.K n):=by
 intro pins s σ H x y v u Q I rx ry h
 obtain⟨t,t',h1,h2,hd,q⟩:=h
 obtain⟨a,xs,e1,_⟩:=Ca h1
 obtain⟨b,ys,e2,_⟩:=Ca h2
 subst e1 e2
 cases rx
 cases ry
 exact aau I n t t' X.A a b hd h1 h2 hu _ _ _ _ ⟨.bl _,H,I,rfl,q⟩
end
section
variable {X:Cx}{K:PySem.W.Frag}
theorem aeh (h:X.K=K):SlR X (PB K):=by subst h; exact cT
end
theorem afT {K:PySem.W.Frag}{H:Hp}{a D:Addr}{xs:List V}{o:HO} (h:SqL K H a xs) (hD:H D=none):SqL K (upd H D o) a xs:=(same_new hD o).seq h
theorem agG {K:PySem.W.Frag}{H:Hp}{a:Addr}{xs:List V}{σ:Sg}{js:List Nat}{te:TE}{Q:VK} (Pr:Nat→V→Prop) (hl:SqL K H a xs) (hz:xs.length≤sizeLine)
  (hte:∀ (i:Nat) (x:V) (H':Hp) (R:VK),xs[i]?=some x→Same H H'→(∀ y,Pr i y→R y H')→te (some x::frv σ js) H' R)
  (q:∀ (D:Addr) (ys:List V),H D=none→ys.length=xs.length→(∀ i y,ys[i]?=some y→Pr i y)→Q (.ref D) (upd H D (.lst ys))) :
  Ce (Itl K a) js te σ Q H:=by
 intro D hD
 refine⟨fun i m ys H'=>m=xs.length - i∧i≤xs.length∧ys.length=i∧(∀ j y,ys[j]?=some y→Pr j y)∧H'=upd H D (.lst ys),⟨xs.length,by lia,Nat.zero_le _,rfl,fun j y e=>by simp at e,rfl⟩,?_⟩
 rintro i m ys H' ⟨rfl,hi,hly,hp,rfl⟩
 refine⟨upd_same,?_⟩
 have hl':=afT (o:=.lst ys) hl hD
 by_cases hlt:i<xs.length
 ·refine .inr ⟨⟨xs,xs[i],hl',List.getElem?_eq_getElem hlt⟩,fun x H2 y=>?_⟩
  obtain⟨e,y⟩:=y
  subst e
  refine hte i x _ _ (y xs hl') (same_new hD _) fun y py=>⟨upd_same,by lia,xs.length - (i+1),by lia,rfl,by lia,by simp [hly],fun j z e=>?_,by rw [Ea]⟩
  by_cases hj:j<ys.length
  ·rw [List.getElem?_append_left hj] at e
   exact hp j z e
  ·rw [List.getElem?_append_right (by lia)] at e
   have:j - ys.length=0:=by
    rcases Nat.eq_zero_or_pos (j - ys.length) with h | h
    ·exact h
    ·rw [List.getElem?_eq_none (by simp; lia)] at e; cases e
   rw [this] at e
   have e':y=z:=by simpa using e
   have ej:j=i:=by lia
   rw [← e',ej]
   exact py
 ·have ei:i=xs.length:=by lia
  exact .inl ⟨⟨xs,hl',by lia⟩,q D ys hD (by lia) hp⟩
end Sw
namespace SwR
open PySem PySem.Spec PyProof.Rows L2 Sw
theorem Eb:Slot "reversed" "__next__" "reversed.__next__":=.of (owner:="reversed") (n:="__next__") (by rw [typeLookup_type,builtinLookup_eq_fast]; kernel_rfl) (by decide +kernel) (by decide +kernel) (by decide +kernel) (by first | exact .inl (by decide +kernel) | exact .inr (by decide +kernel)) (by rw [isSubtype_type]; kernel_rfl)
theorem aaL:entryFor table "reversed.__next__"=some Builtin.«reversed.__next__»:=entryFor_of_tree (by kernel_rfl)
theorem aaR (a:Value):argsOk "reversed.__next__" ⟨[a],[]⟩:=by unfold argsOk; kernel_rfl
theorem aap:Slot "reversed" "__iter__" "reversed.__iter__":=.of (owner:="reversed") (n:="__iter__") (by rw [typeLookup_type,builtinLookup_eq_fast]; kernel_rfl) (by decide +kernel) (by decide +kernel) (by decide +kernel) (by first | exact .inl (by decide +kernel) | exact .inr (by decide +kernel)) (by rw [isSubtype_type]; kernel_rfl)
theorem agZ (a:Value):argsOk "reversed.__iter__" ⟨[a],[]⟩:=by unfold argsOk; kernel_rfl
theorem agR:entryFor table "reversed.__iter__"=some Builtin.«dict_keyiterator.__iter__»:=entryFor_alias (id':="dict_keyiterator.__iter__") (by kernel_rfl) (by first | rfl | decide +kernel) (by decide +kernel) (by kernel_rfl)
theorem Q_:Slot "reversed" "__length_hint__" "reversed.__length_hint__":=.of (owner:="reversed") (n:="__length_hint__") (by rw [typeLookup_type,builtinLookup_eq_fast]; kernel_rfl) (by decide +kernel) (by decide +kernel) (by decide +kernel) (by first | exact .inl (by decide +kernel) | exact .inr (by decide +kernel)) (by rw [isSubtype_type]; kernel_rfl)
theorem agS:entryFor table "reversed.__length_hint__"=some Builtin.«reversed.__length_hint__»:=entryFor_of_tree (by kernel_rfl)
theorem ag0 (a:Value):argsOk "reversed.__length_hint__" ⟨[a],[]⟩:=by unfold argsOk; kernel_rfl
theorem ah1:typeLookup (.type "reversed") "__len__"=pure none:=by rw [typeLookup_type,builtinLookup_eq_fast]; kernel_rfl
theorem afW:Slot "reversed" "__init__" "object.__init__":=.of (owner:="object") (n:="__init__") (by rw [typeLookup_type,builtinLookup_eq_fast]; kernel_rfl) (by decide +kernel) (by decide +kernel) (by decide +kernel) (by first | exact .inl (by decide +kernel) | exact .inr (by decide +kernel)) (by rw [isSubtype_type]; kernel_rfl)
theorem acG:typeLookup (.type "tuple") "__reversed__"=pure none:=by rw [typeLookup_type,builtinLookup_eq_fast]; kernel_rfl
theorem ab6:TypeCalled "reversed" "reversed.__new__" "object.__init__" :=
 ⟨by decide +kernel,by decide +kernel,⟨_,_,F.mro_reversed⟩,F.made_reversed,by decide +kernel,by rw [isSubtype_type]; kernel_rfl,afW⟩
def RvO (h:Heap) (p a:Addr) (i:Int):Prop:=∃ o,h.get? p=some o∧o.cls=.type "reversed"∧o.data=.fields #[.ref a,rawInt i]
theorem RvO.typeIs {s:Shared}{p a:Addr}{i:Int} (x:RvO s.heap p a i):s.TypeIs (.ref p) "reversed":=let ⟨o,ho,hc,_⟩:=x; ⟨o,ho,hc⟩
section
variable {prog:Program}{w:World}{A:Around}{E:Value→Shared→Prop}{s:Shared}
theorem next_item {it a:Addr}{i:Nat}{items:Array Value}{x:Value}{Q:Option Value→Shared→Prop} (hit:RvO s.heap it a (i:Int)) (ht:IsTup s.heap a items) (hx:items[i]?=some x) (hz:items.size≤sizeLine) (hne:a≠it)
  (hQ:∀ h' tk,RvO h' it a ((i:Int) - 1)→Heap.SameBut it s.heap h'→Q (some x) { s with heap:=h',toks:=tk }):wpAny (model prog w) A (pyNext (.ref it)) Q E s:=by
 obtain⟨o,ho,hc,hd⟩:=id hit
 unfold pyNext
 refine wpAny_bind (wpAny_attempt (wpAny_callSpecial?_slot (name:=Str.ofString "__next__") hit.typeIs Eb (wpAny_call_entry Eb hit.typeIs aaL ?_ (aaR _))))
 unfold Builtin.«reversed.__next__»
 refine wpAny_bind (wpAny_of_eq (a:=(Value.ref it,[])) rfl ?_)
 dsimp only
 refine wpAny_bind (wpAny_field ho hd (x:=.ref a) rfl ?_)
 refine wpAny_bind (wpAny_field ho hd (x:=rawInt (i:Int)) rfl ?_)
 show wpAny _ _ (if (i:Int)<0 then _ else _) _ _ s
 rw [if_neg (by lia)]
 refine wpAny_bind (wpAny_specialOf ht.typeIs PyProof.Rows.slot_tuple_getitem.lookup ?_)
 rw [if_neg (by decide)]
 have hi:i<items.size:=(Array.getElem?_eq_some_iff.mp hx).1
 have hl:sizeLine=16777216:=sizeLine_eq
 refine wpAny_bind (wpAny_mkInt ?_)
 refine wpAny_bind (wpAny_attempt (getItem_tuple (j:=i) ht (by lia) (by lia) (by rw [seqIndex_of (by lia) (by lia)]; rfl) hx ?_))
 dsimp only
 refine wpAny_bind (wpAny_field ho hd (x:=rawInt (i:Int)) rfl ?_)
 refine wpAny_bind (wpAny_setField ho hd (by simp) ?_)
 refine wpAny_pure ⟨x,rfl,wpAny_pure (hQ _ _ ?_ (Heap.SameBut.update ..))⟩
 exact⟨_,Heap.get?_update_self _ ho (Obj.isFreed_of_fields (Obj.data_mapFields hd _)),(Obj.cls_mapFields ..).trans hc,by rw [Obj.data_mapFields hd]; simp⟩
theorem next_end {it a:Addr}{Q:Option Value→Shared→Prop} (hh:A.handled=none) (hit:RvO s.heap it a (-1))
  (hQ:∀ h',Heap.ExtBut it s.heap h'→Q none { s with heap:=h' }):wpAny (model prog w) A (pyNext (.ref it)) Q E s:=by
 obtain⟨o,ho,hc,hd⟩:=id hit
 unfold pyNext
 refine wpAny_bind (wpAny_attempt (wpAny_callSpecial?_slot (name:=Str.ofString "__next__") hit.typeIs Eb (wpAny_call_entry Eb hit.typeIs aaL ?_ (aaR _))))
 unfold Builtin.«reversed.__next__»
 refine wpAny_bind (wpAny_of_eq (a:=(Value.ref it,[])) rfl ?_)
 dsimp only
 refine wpAny_bind (wpAny_field ho hd (x:=.ref a) rfl ?_)
 refine wpAny_bind (wpAny_field ho hd (x:=rawInt (-1)) rfl ?_)
 show wpAny _ _ (if (-1:Int)<0 then _ else _) _ _ s
 rw [if_pos (by decide)]
 refine wpAny_bind (wpAny_rule ?_)
 have e1:=Heap.get?_update_self (Obj.mapFields fun vs=>vs.setIfInBounds 1 (rawInt (-1))) ho (Obj.isFreed_of_fields (Obj.data_mapFields hd _))
 refine wpAny_bind (wpAny_bind (wpAny_setField ho hd (by simp) ?_))
 refine wpAny_setField e1 (Obj.data_mapFields hd _) (by simp) ?_
 refine wpAny_bind ?_
 unfold Builtin.SmallTypes.stopIteration
 refine wpAny_bind ?_
 simp only [newExc,newTuple]
 refine wpAny_bind (wpAny_newObj_type ?_ (by size_fits)); refine wpAny_bind (m:=firstArgMember _ _) (wpAny_of_eq (a:=Value.none) (by first | rfl | (simp only [firstArgMember]; rfl)) ?_); refine wpAny_newObj_type ?_ (by size_fits)
 simp only [raiseNew]; refine wpAny_bind (wpAny_handled ?_)
 first | rw [show A.in1.handled=none from hh] | rw [hh]
 refine wpAny_bind (wpAny_pure (wpAny_throw ?_)); refine wpAny_bind (wpAny_isInstance (T:="StopIteration") (b:=true) ⟨_,Heap.get?_push_size _ rfl,rfl⟩ isSubtype_stop (wpAny_pure (hQ _ ?_)))
 intro b ob hb e
 refine Heap.get?_push_of_some _ (Heap.get?_push_of_some _ ?_)
 exact (Heap.get?_update_other _ _ (Ne.symm hb)).trans ((Heap.get?_update_other _ _ (Ne.symm hb)).trans e)
theorem BP {it a:Addr}{i:Int}{Q:Value→Shared→Prop} (hit:RvO s.heap it a i) (h:Q (.ref it) s):wpAny (model prog w) A (pyIter (.ref it)) Q E s:=by
 refine wpAny_pyIter_slot hit.typeIs aap (wpAny_call_entry aap hit.typeIs agR ?_ (agZ _))
 show wpAny _ _ (ret (.ref it)) _ _ s
 exact wpAny_pure ⟨_,rfl,"reversed",_,hit.typeIs,Eb.lookup,h⟩
theorem RvO.keep {h h':Heap}{p a:Addr}{i:Int} (x:RvO h p a i) (e:∀ o,h.get? p=some o→h'.get? p=some o):RvO h' p a i:=let ⟨o,ho,r⟩:=x; ⟨o,e _ ho,r⟩
theorem E_ {h h':Heap}{a:Addr}{items:Array Value} (x:IsTup h a items) (e:∀ o,h.get? a=some o→h'.get? a=some o):IsTup h' a items:=let ⟨o,ho,r⟩:=x; ⟨o,e _ ho,r⟩
end
theorem acy {prog:Program}{w:World}{A:Around} (hh:A.handled=none) (I a:Addr) (hne:a≠I) (items:Array Value) (hz:items.size≤sizeLine) :
  Walks prog w A I [I,a] [I] items.size (fun i v=>items[items.size - 1 - i]?=some v) (fun i h=>i≤items.size∧RvO h I a ((items.size:Int) - 1 - (i:Int))∧IsTup h a items) where
 sub:=fun b hb=>by simp at hb; simp [hb]
 frame:=fun _ _ _ x hk=>⟨x.1,x.2.1.keep fun o e=>hk I (by simp) o e,E_ x.2.2 fun o e=>hk a (by simp) o e⟩
 item:=fun i s Q E hi x hQ=>by
  obtain⟨_,hit,ht⟩:=x
  have e:(items.size:Int) - 1 - (i:Int)=((items.size - 1 - i:Nat):Int):=by lia
  rw [e] at hit
  have hx:items[items.size - 1 - i]?=some (items[items.size - 1 - i]'(by lia)):=Array.getElem?_eq_getElem (by lia)
  refine next_item hit ht hx hz hne fun h' tk hit' hs'=>hQ _ h' tk hx ⟨by lia,?_,E_ ht fun o eo=>(hs'.2 a hne).trans eo⟩ fun b o hb eo=>hs'.extBut b o (fun z=>hb (by simp [z])) eo
  have e2:((items.size - 1 - i:Nat):Int) - 1=(items.size:Int) - 1 - ((i+1:Nat):Int):=by lia
  rw [← e2]
  exact hit'
 done:=fun s Q E x hQ=>by
  obtain⟨_,hit,ht⟩:=x
  have e:(items.size:Int) - 1 - (items.size:Int)=-1:=by lia
  rw [e] at hit
  exact next_end hh hit fun h' he'=>hQ h' s.toks fun b o hb eo=>he' b o (fun z=>hb (by simp [z])) eo
 self:=fun _ _ _ _ x hQ=>BP x.2.1 hQ
section
variable {prog:Program}{w:World}{A:Around}{E:Value→Shared→Prop}{s:Shared}
theorem Ut (k:Int) (u:Tok):asInt? (.int k u)=pure (some k):=rfl
theorem adL {it a:Addr}{items:Array Value}{Q:Value→Shared→Prop} (hit:RvO s.heap it a ((items.size:Int) - 1)) (ht:IsTup s.heap a items) (hz:items.size≤sizeLine)
  (hQ:∀ t tk,s.toks≤tk→Q (.int (items.size:Int) t) { s with toks:=tk }):wpAny (model prog w) A (call (.builtin "reversed.__length_hint__") [.ref it]) Q E s:=by
 obtain⟨o,ho,hc,hd⟩:=id hit
 have hl:sizeLine=16777216:=sizeLine_eq
 refine wpAny_call_entry Q_ hit.typeIs agS ?_ (ag0 _)
 unfold Builtin.«reversed.__length_hint__»
 refine wpAny_bind (wpAny_of_eq (a:=Value.ref it) rfl ?_)
 refine wpAny_bind (wpAny_field ho hd (x:=.ref a) rfl ?_)
 rw [if_neg (show ¬ ((Value.ref a == Value.none)=true) from Bool.false_ne_true)]
 refine wpAny_bind (len_tuple ht (by lia) ?_)
 refine wpAny_bind (m:=asInt? (.int (items.size:Int) (s.toks+1))) (wpAny_pure ?_)
 dsimp only
 refine wpAny_bind (wpAny_field ho hd (x:=rawInt ((items.size:Int) - 1)) rfl ?_)
 show wpAny _ _ (if (items.size:Int)<((items.size:Int) - 1)+1 then _ else retInt (((items.size:Int) - 1)+1)) _ _ _
 rw [if_neg (by lia),show ((items.size:Int) - 1)+1=(items.size:Int) by lia]
 unfold retInt
 refine wpAny_bind (wpAny_mkInt (wpAny_pure ⟨_,rfl,hQ _ _ ?_⟩))
 show s.toks≤s.toks+1+1+1
 lia
theorem abk {it a S:Addr}{items:Array Value}{c₀:Nat}{R:Result→Shared→Prop} (hh:A.handled=none) (hit:RvO s.heap it a ((items.size:Int) - 1)) (ht:IsTup s.heap a items) (hz:items.size≤sizeLine)
  (hai:a≠it) (hSi:S≠it) (hSa:S≠a) (hS:s.heap.get? S=some { cls:=.type "list",data:=.seq #[] c₀ })
  (hR:∀ h' tk acc' c',(∀ b o,b≠S→b≠it→s.heap.get? b=some o→h'.get? b=some o)→h'.get? S=some { cls:=.type "list",dict:=none,data:=.seq acc' c',slots:=#[] } →
   ItemsOf (fun i v=>items[items.size - 1 - i]?=some v) acc' items.size→R (.ok (.ret .none)) { s with heap:=h',toks:=tk }) :
  wpAny (model prog w) A.in1 (Builtin.List.listExtendWith (.ref S) (.ref it) .none)
   (fun fin s'=>match fin with | .done f=>R (.ok f) s' | .again c'=>c'.quiet=true∧codeAny (model prog w) A c' R s') (fun e s'=>R (.error e) s') s:=by
 have hl:sizeLine=16777216:=sizeLine_eq
 have h1:Builtin.List.listSameRef (.ref S) (.ref it)=false:=by simp [Builtin.List.listSameRef,hSi]
 unfold Builtin.List.listExtendWith
 refine wpAny_bind (wpAny_typeOf hit.typeIs ?_)
 rw [if_neg (by rw [h1]; decide)]
 refine wpAny_bind (BP hit ?_)
 refine wpAny_bind (wpAny_holding ?_)
 unfold Builtin.List.listLengthHint
 refine wpAny_bind (wpAny_specialOf hit.typeIs ah1 ?_)
 show wpAny _ A.in1 (specialOf (Value.ref it) (Str.ofString "__length_hint__") >>= _) _ _ _
 refine wpAny_bind (wpAny_specialOf hit.typeIs Q_.lookup ?_)
 (generalize hid:("reversed.__length_hint__":String)=id0; (fail_if_success (clear hid id0)); wp_delta; rw [show splitId id0=some ("reversed","__length_hint__") from by subst hid; decide +kernel]; subst hid)
 refine wpAny_bind (wpAny_isInstance (b:=true) hit.typeIs (by rw [isSubtype_type]; kernel_rfl) ?_)
 rw [if_neg (by decide)]
 dsimp only
 rw [if_neg (by decide)]
 refine wpAny_bind (wpAny_rule ?_)
 refine wpAny_bind (wpAny_of_eq (Q_.bind _) ?_)
 dsimp only
 refine wpAny_bind (wpAny_attempt (adL hit ht hz fun t tk htk=>?_))
 dsimp only
 rw [Ut,pure_bind]
 dsimp only
 have hf:Builtin.List.listFitsIndex (items.size:Int)=true:=by
  unfold Builtin.List.listFitsIndex
  simp only [Bool.and_eq_true,decide_eq_true_eq]
  lia
 have htl:Builtin.List.listTooLong (Int.toNat (items.size:Int))=false:=by
  rw [Int.toNat_natCast]
  exact Ng hz
 rw [if_neg (by rw [hf]; decide),if_neg (by lia),if_neg (by rw [htl]; decide)]
 refine wpAny_pure ?_
 have hSf:S ∉ [it,a]:=by simp [hSi,hSa]
 have W:=acy (prog:=prog) (w:=w) (A:=A.in1) hh it a hai items hz
 have loop:∀ (s2:Shared) (c₂:Nat),(∀ b o,b≠S→s.heap.get? b=some o→s2.heap.get? b=some o)→s2.heap.get? S=some { cls:=.type "list",data:=.seq #[] c₂ }→s2.gens=s.gens→s2.drawn=s.drawn→s2.os=s.os →
   codeAny (model prog w) A (.builtin "list.extend.loop" ⟨[.ref S,.ref it,.none],[]⟩) R s2:=fun s2 c₂ hk hS2 g1 g2 g3=>by
  have st:0≤items.size∧RvO s2.heap it a ((items.size:Int) - 1 - ((0:Nat):Int))∧IsTup s2.heap a items:=by
   refine⟨Nat.zero_le _,?_,E_ ht fun o e=>hk a o (Ne.symm hSa) e⟩
   have:(items.size:Int) - 1 - ((0:Nat):Int)=(items.size:Int) - 1:=by lia
   rw [this]
   exact hit.keep fun o e=>hk it o (Ne.symm hSi) e
  refine codeAny_extend_loopS W.toS hz S hSf .none items.size 0 s2 #[] c₂ rfl (Nat.zero_le _) st hS2 (ItemsOf.nil _) fun s' acc' c' hm hS' hacc=>?_
  have hs':=Moved.eq_with hm
  rw [g1,g2,g3] at hs'
  rw [hs']
  exact hR s'.heap s'.toks acc' c' (fun b o hbS hbi e=>hm.heap b o (by simp [hbS,hbi]) (hk b o hbS e)) hS' hacc
 split
 ·refine wpAny_bind (wpAny_rule ?_)
  unfold Builtin.List.listTouch
  have e1:=Heap.get?_update_self (Obj.mapSeq (·.push Value.none)) hS rfl
  have e2:=Heap.get?_update_self (Obj.mapSeq (·.pop)) e1 rfl
  refine wpAny_bind (wpAny_bind (m:=Builtin.List.listUpdate (.ref S) (·.push Value.none)) (wpAny_updateSeq hS rfl ?_ (hz:=Nat.zero_le _) (_hz':=Nat.succ_le_succ (Nat.zero_le _))))
  refine wpAny_updateSeq e1 rfl ?_ (hz:=(by show 1≤sizeLine; decide)) (_hz':=Nat.zero_le _)
  refine wpAny_pure ⟨plainId_quiet F.plain_extend_loop _,loop _ _ (fun b o hb e=>?_) (by simpa [Obj.mapSeq] using e2) rfl rfl rfl⟩
  exact (Heap.get?_update_other _ _ (Ne.symm hb)).trans ((Heap.get?_update_other _ _ (Ne.symm hb)).trans e)
 ·exact wpAny_pure ⟨plainId_quiet F.plain_extend_loop _,loop _ c₀ (fun b o _ e=>e) hS rfl rfl rfl⟩
theorem Vk {it a:Addr}{items:Array Value}{Q:Value→Shared→Prop} (hh:A.handled=none) (hit:RvO s.heap it a ((items.size:Int) - 1)) (ht:IsTup s.heap a items) (hz:items.size≤sizeLine) (hai:a≠it)
  (hQ:∀ h' tk acc' c',(∀ b o,b≠it→s.heap.get? b=some o→h'.get? b=some o)→h'.get? s.heap.objs.size=some { cls:=.type "list",dict:=none,data:=.seq acc' c',slots:=#[] } →
   acc'.toList=items.toList.reverse→Q (.ref s.heap.objs.size) { s with heap:=h',toks:=tk }):wpAny (model prog w) A (call (.type "list") [.ref it]) Q E s:=by
 have lit:it<s.heap.objs.size:=let ⟨_,ho,_⟩:=hit; Heap.lt_size ho
 have la:a<s.heap.objs.size:=let ⟨_,ho,_⟩:=ht; Heap.lt_size ho
 refine callType_codes (Q₁:=fun obj s₁=>obj=.ref s.heap.objs.size∧s₁={ s with heap:=s.heap.push { cls:=.type "list",data:=.seq #[] } }) F.called_list (F.typeCall_list_1 _) F.entry_list_init (code_list_new _ ⟨rfl,rfl⟩) fun obj s1 h1=>?_
 obtain⟨e1,e2⟩:=h1
 subst e1 e2
 have hS:(s.heap.push { cls:=.type "list",data:=.seq #[] }).get? s.heap.objs.size=some { cls:=.type "list",data:=.seq #[] }:=Heap.get?_push_size _ rfl
 refine⟨⟨_,hS,rfl⟩,F.args_list_init_2 _ _,?_⟩
 show wpAny _ _ (Builtin.List.listItems (.ref s.heap.objs.size) >>= fun old=>Builtin.List.listUpdate (.ref s.heap.objs.size) (fun _=>#[]) >>= fun _=>letGo old.toList.reverse >>= fun _=>Builtin.List.listExtendWith (.ref s.heap.objs.size) (.ref it) .none) _ _ _
 refine wpAny_bind ?_
 unfold Builtin.List.listItems
 refine wpAny_bind (wpAny_seqItems hS rfl (wpAny_pure ?_))
 refine wpAny_bind (m:=Builtin.List.listUpdate (.ref s.heap.objs.size) (fun _=>#[])) (wpAny_updateSeq hS rfl ?_)
 have hS2:=Heap.get?_update_self (Obj.mapSeq (fun _=>(#[]:Array Value))) hS rfl
 have oth:∀ b o,b≠s.heap.objs.size→s.heap.get? b=some o→((s.heap.push { cls:=.type "list",data:=.seq #[] }).update s.heap.objs.size (Obj.mapSeq (fun _=>(#[]:Array Value)))).get? b=some o :=
  fun b o hb e=>(Heap.get?_update_other _ _ (Ne.symm hb)).trans (Heap.get?_push_of_some _ e)
 refine wpAny_bind (wpAny_letGo ?_)
 refine abk (A:=A.in1) hh (hit.keep fun o e=>oth it o (Nat.ne_of_lt lit) e) (E_ ht fun o e=>oth a o (Nat.ne_of_lt la) e) hz hai (Nat.ne_of_gt lit) (Nat.ne_of_gt la) hS2 fun h' tk acc' c' hk hS' hacc=>?_
 refine⟨rfl,hQ h' tk acc' c' (fun b o hb e=>hk b o (Nat.ne_of_lt (Heap.lt_size e)) hb (oth b o (Nat.ne_of_lt (Heap.lt_size e)) e)) hS' ?_⟩
 obtain⟨hsz,hat⟩:=hacc
 refine List.ext_getElem? fun i=>?_
 by_cases hi:i<items.size
 ·have h1:=hat i (acc'[i]'(by lia)) (Array.getElem?_eq_getElem (by lia))
  rw [List.getElem?_reverse (by rw [Array.length_toList]; exact hi),Array.length_toList,Array.getElem?_toList,Array.getElem?_toList,h1,Array.getElem?_eq_getElem (by lia)]
 ·rw [List.getElem?_eq_none (by rw [Array.length_toList]; lia),List.getElem?_eq_none (by rw [List.length_reverse,Array.length_toList]; lia)]
end
section
variable {prog:Program}{w:World}{A:Around}{E:Value→Shared→Prop}{s:Shared}
theorem UJ (a:Addr) (items:Array Value) (n:Nat) (dd:Option Addr) (sl:Array (Option Value)) (hz:items.size≤sizeLine) :
  Meets (Builtin.«reversed.__new__» ⟨[.type "reversed",.ref a],[]⟩) (fun _ R s=>s.heap.get? a=some { cls:=.type "tuple",dict:=dd,data:=.seq items n,slots:=sl } ∧
   ∀ tk,R (.ok (.ret (.ref s.heap.objs.size))) { s with heap:=s.heap.push { cls:=.type "reversed",data:=.fields #[.ref a,rawInt ((items.size:Int) - 1)] },toks:=tk }) :=
 .of_wp fun prog w A R s h=>by
  obtain⟨ht,h⟩:=h
  have hl:sizeLine=16777216:=sizeLine_eq
  have hT:s.TypeIs (.ref a) "tuple":=⟨_,ht,rfl⟩
  have hI:IsTup s.heap a items:=⟨_,ht,rfl,n,rfl⟩
  unfold Builtin.«reversed.__new__»
  refine wpAny_bind (wpAny_of_eq (newClass_reversed _) ?_)
  dsimp only
  refine wpAny_bind (wpAny_of_eq (a:=()) (by first | rfl | kernel_rfl) ?_); refine wpAny_bind (wpAny_of_eq (a:=()) (by first | rfl | kernel_rfl) ?_)
  refine wpAny_bind (wpAny_specialOf hT acG ?_)
  dsimp only
  refine wpAny_bind ?_
  refine wpAny_bind (wpAny_isInstance (b:=false) hT (by rw [isSubtype_type]; kernel_rfl) ?_)
  rw [if_neg (by decide)]
  refine wpAny_bind (wpAny_specialOf hT PyProof.Rows.slot_tuple_getitem.lookup ?_)
  dsimp only
  rw [if_pos (by decide)]
  refine wpAny_pure ?_
  rw [if_neg (by decide)]
  refine wpAny_bind (len_tuple hI (by lia) ?_)
  rw [Ut,pure_bind]
  dsimp only
  show wpAny _ _ (newObj (.type "reversed") (.fields #[.ref a,rawInt ((items.size:Int) - 1)]) >>= _) _ _ _
  refine wpAny_bind (wpAny_newObj_type ?_)
  exact wpAny_pure ⟨_,rfl,h _⟩
theorem Yn {a:Addr}{items:Array Value}{Q:Value→Shared→Prop} (ht:IsTup s.heap a items) (hz:items.size≤sizeLine)
  (h:∀ tk,Q (.ref s.heap.objs.size) { s with heap:=s.heap.push { cls:=.type "reversed",data:=.fields #[.ref a,rawInt ((items.size:Int) - 1)] },toks:=tk }):wpAny (model prog w) A (call (.type "reversed") [.ref a]) Q E s:=by
 obtain⟨⟨c,d,dt,sl⟩,ho,hc,n,hd⟩:=id ht
 simp only at hc hd
 subst hc hd
 refine callType_new ab6 (by decide) (F.typeCall_reversed_1 _) (F.newCall_reversed_1 _) (fun obj=>F.args_object_init_2 obj _) F.entry_reversed_new (UJ a items n d sl hz) ⟨ho,fun tk=>?_⟩
 exact⟨⟨_,Heap.get?_push_size _ rfl,rfl⟩,h tk⟩
end
theorem wU:bootBuiltins "reversed"=some (.type "reversed"):=by decide +kernel
theorem afb:bootBuiltins "list"=some (.type "list"):=by decide +kernel
def tLR (K:PySem.W.Frag) (te:TE):TE:=fun σ H Q=>te σ H fun x H1=>∃ a ys,x=.ref a∧SqT K H1 a ys∧∀ l,H1 l=none→Q (.ref l) (upd H1 l (.lst ys.reverse))
theorem abo {X:Cx}{e:Expr}{te:TE}{p1 p2 pos pos2:Pos} (hgl:Gl X "list") (hgr:Gl X "reversed") (ml:X.mg "list"=none) (mr:X.mg "reversed"=none) (hc:X.calm=true) (he:PE X e te)
  (hs1:starEach [.Call (.Name "reversed" p2) [e] [] pos2] X.env=[(false,eval (.Call (.Name "reversed" p2) [e] [] pos2) X.env)]:=by rfl) (hs2:starEach [e] X.env=[(false,eval e X.env)]:=by rfl) :
  PE X (.Call (.Name "list" p1) [.Call (.Name "reversed" p2) [e] [] pos2] [] pos) (tLR X.K te):=by
 intro pins s σ H Q I h
 refine wpAny_Call_Name_kw (ld_blt I hgl ml afb ?_)
 refine PyProof.Rows.callWith_type1 ?_ (by rw [hs1]; rfl) (by rfl)
 rw [hs1]
 refine Calls.spliced_cons ?_
 refine wpAny_Call_Name_kw (ld_blt I hgr mr wU ?_)
 refine PyProof.Rows.callWith_type1 ?_ (by rw [hs2]; rfl) (by rfl)
 rw [hs2]
 refine Calls.spliced_cons (thn (he pins s σ H _ I h) fun v s1 ⟨x,H1,I1,r1,q1⟩=>Calls.spliced_nil ?_)
 obtain⟨a,ys,e1,hq,q⟩:=q1
 subst e1
 cases r1
 obtain⟨its,rv,ht,hz⟩:=I1.tuple hq
 have hlen:=rv.length
 have hz':its.toArray.size≤sizeLine:=by rw [List.size_toArray]; lia
 refine Yn ht hz' fun tk=>Calls.spliced_nil ?_
 generalize NP:({ s1 with heap:=s1.heap.push { cls:=.type "reversed",data:=.fields #[.ref a,rawInt ((its.toArray.size:Int) - 1)] },toks:=tk }:Shared)=s2
 have I2:Inv X pins σ H1 s2:=by rw [← NP]; exact I1.kept fun b o e=>Heap.get?_push_of_some _ e
 have la:a<s1.heap.objs.size:=let ⟨_,ho,_⟩:=ht; Heap.lt_size ho
 have sz2:s2.heap.objs.size=s1.heap.objs.size+1:=by rw [← NP]; exact Heap.size_push ..
 have hit:RvO s2.heap s1.heap.objs.size a ((its.toArray.size:Int) - 1):=by rw [← NP]; exact⟨_,Heap.get?_push_size _ rfl,rfl,rfl⟩
 have ht2:IsTup s2.heap a its.toArray:=by rw [← NP]; exact ht.push _
 have fp:FpOk X pins H1 s1.heap.objs.size:=I1.fpOk (Nat.le_refl _) (I1.hok.fresh (Nat.le_refl _))
 refine Vk (I2.ok.hd hc) hit ht2 hz' (Nat.ne_of_lt la) fun h' tk' acc' c' hk hS' hacc=>?_
 have hfree:H1 s2.heap.objs.size=none:=I2.hok.fresh (Nat.le_refl _)
 have hp0:H1 s1.heap.objs.size=none:=fp.1
 have oks:ObjOk X.prog X.w (upd H1 s2.heap.objs.size (.lst ys.reverse)) h' s2.heap.objs.size (.lst ys.reverse):=by
  refine⟨by rw [List.length_reverse]; exact hz,its.reverse,c',rv.reverse,?_⟩
  rw [hS',show acc'=its.reverse.toArray from Array.toList_inj.mp (by simpa using hacc)]
 have nS:∀ b o,s2.heap.get? b=some o→b≠s2.heap.objs.size:=fun b o e=>Nat.ne_of_lt (Heap.lt_size e)
 have np:∀ b u,H1 b=some u→b≠s1.heap.objs.size:=fun b u e=>ne_of_none e hp0
 have nh:∀ b u,H1 b=some u→upd H1 s2.heap.objs.size (.lst ys.reverse) b=some u:=fun b u e=>by rw [upd_ne (ne_of_none e hfree)]; exact e
 have hok:HOk X.prog X.w (upd H1 s2.heap.objs.size (.lst ys.reverse)) h':=fun b u e=>by
  by_cases hb:b=s2.heap.objs.size
  ·subst hb
   rw [upd_same] at e
   cases e
   exact oks
  ·rw [upd_ne hb] at e
   refine (I2.hok b u e).stay (fun c v hc' q'=>hk c v ?_ q') (fun x q'=>nh _ _ q') fun c v q'=>nh _ _ q'
   rcases hc' with z | z
   ·rw [z]; exact np b u e
   ·exact np c _ z
 have I3:Inv X pins σ (upd H1 s2.heap.objs.size (.lst ys.reverse)) { s2 with heap:=h',toks:=tk' }:=by
  refine I2.step (g':=s2.gens) (d':=s2.drawn) (t':=tk') (ch:=[s1.heap.objs.size]) (fun b hb=>?_) (fun b o _ _ hb e _=>hk b o (fun z=>hb (by simp [z])) e) (fun b o _ _ hb e _=>⟨o.slots,hk b o (fun z=>hb (by simp [z])) e⟩)
   (fun b o _ e n=>by rw [upd_ne (nS b o e)]; exact n) (fun b o hb e=>⟨o,hk b o (fun z=>hb (by simp [z])) e⟩) (fun b xs e=>nh _ _ e) (fun b o u e=>nh _ _ e) (fun b ps e=>⟨#[],by rw [nh _ _ e]; simp⟩) (fun m hm=>?_) hok I2.bare
  ·have e:b=s1.heap.objs.size:=by simpa using hb
   subst e
   exact⟨fp.2.2.2.1,fp.2.1,fp.2.2.2.2.1,fp.2.2.2.2.2⟩
  ·obtain⟨o,es,ep,ho,r⟩:=hm
   exact⟨o,es,ep,hk _ o (Ne.symm fp.2.1) ho,r⟩
 exact⟨.ref s2.heap.objs.size,_,I3,rfl,q _ hfree⟩
end SwR
namespace Sw
open PySem PySem.Spec PyProof.Rows L2
section
variable {X:Cx}
theorem ae6 {pins:List (Addr×Obj)}{σ:Sg}{H:Hp}{s:Shared} (I:Inv X pins σ H s) {ts us:List T}{xs ys:List V}{its its2:List Value} (q2:TRs X.K H ts xs) (r2:TRs X.K H us ys) (rv:Vals xs its) (rv2:Vals ys its2) {n:Nat}{A:Around}
  (hd:T.bD ts≤n+1) (hu:A.units+n<cLine):∀ j (h1:j<its.toArray.size) (h2:j<its2.toArray.size),SeqAt.EqAt A s its.toArray[j] its2.toArray[j] (ql ts us j):=by
 intro j j1 j2
 have l1:=rv.length
 have l2:=rv2.length
 have j1':j<xs.length:=by rw [l1]; simpa using j1
 have j2':j<ys.length:=by rw [l2]; simpa using j2
 obtain⟨u1,hu1,ru1⟩:=rv.get (List.getElem?_eq_getElem j1')
 obtain⟨u2,hu2,ru2⟩:=rv2.get (List.getElem?_eq_getElem j2')
 obtain⟨t1,ht1,tr1⟩:=q2.get (List.getElem?_eq_getElem j1')
 obtain⟨t2,aeU,tr2⟩:=r2.get (List.getElem?_eq_getElem j2')
 have ee:ql ts us j=T.beq t1 t2:=by unfold ql; rw [ht1,aeU]
 have g1:its.toArray[j]=u1:=by
  have:its[j]?=some u1:=hu1
  rw [List.getElem?_eq_some_iff] at this
  obtain⟨_,e⟩:=this
  simpa using e
 have g2:its2.toArray[j]=u2:=by
  have:its2[j]?=some u2:=hu2
  rw [List.getElem?_eq_some_iff] at this
  obtain⟨_,e⟩:=this
  simpa using e
 rw [ee,g1,g2]
 obtain⟨a1,zs1,e1,_⟩:=Ca tr1
 obtain⟨a2,zs2,e2,_⟩:=Ca tr2
 rw [e1] at ru1 tr1
 rw [e2] at ru2 tr2
 obtain rfl:u1=Value.ref a1:=ru1
 obtain rfl:u2=Value.ref a2:=ru2
 by_cases hne:a1=a2
 ·subst hne
  have et:t1=t2:=(VG I t1.parts).1 t1 t2 _ (Nat.le_refl _) tr1 tr2
  rw [et,T.pB]
  exact SeqAt.EqAt.same _
 ·have hd1:t1.deep≤n:=by
   have:=T.nP (List.mem_of_getElem? ht1)
   lia
  exact SeqAt.EqAt.of_refs hne (aau I n t1 t2 A a1 a2 hd1 tr1 tr2 hu)
def ajV (K:PySem.W.Frag) (n:Nat):R2:=fun x y H Q=>∃ t u,TR K H t x∧TR K H u y∧t.deep≤n∧Q (.bl (!T.beq t u)) H
theorem uD {n:Nat} (hu:X.A.units+n+1<cLine):OpR X (compareOp .NotEq) (ajV X.K n):=by
 intro pins s σ H x y v u Q I rx ry h
 obtain⟨t,t',h1,h2,hd,q⟩:=h
 cases t with
 | node ts =>
  cases t' with
  | node us =>
   obtain⟨a,xs,rfl,q1,q2⟩:=bW.mp h1
   obtain⟨b,ys,rfl,r1,r2⟩:=bW.mp h2
   cases rx
   cases ry
   rw [T.aR] at hd
   obtain⟨its,rv,ht,_⟩:=I.tuple q1
   obtain⟨its2,rv2,ht2,_⟩:=I.tuple r1
   have key:=SeqAt.RcNeAt.tuples (A:=X.A) (e:=ql ts us) ht ht2 (by lia) (ae6 I q2 r2 rv rv2 (n:=n) (by lia) (by rw [Around.in1_units]; lia))
   have ev:((List.range (min its.toArray.size its2.toArray.size)).all (ql ts us) && its.toArray.size == its2.toArray.size)=T.beq (.node ts) (.node us):=by
    rw [List.size_toArray,List.size_toArray,← rv.length,← rv2.length,q2.length,r2.length,T.beq,← zf]
   rw [ev] at key
   exact key _ _ _ _ ⟨.bl _,H,I,rfl,q⟩
end
end Sw
namespace Sw
namespace T
end T
namespace T
end T
open PySem PySem.Spec PyProof.Rows L2
section
variable {P:Program}{w:World}{K:PySem.W.Frag}{mg:Str→Option Value}{base:Heap}{N:List Str}{qual:Str}{scope:Scope}{f:Addr}{cd:Value}{A:Around}{outer:List Env}{s₀:Shared}{H₀:Hp}{E:XK}
end
section
variable {X:Cx}{pins:List (Addr×Obj)}{σ:Sg}{H:Hp}{s:Shared}
end
section
variable {K:PySem.W.Frag}{C a:Addr}{prog:Program}{w:World}{A:Around}
end
structure QE (X:Cx) (e:Expr) (t:TE):Prop where
 run:PE X e t
structure QT (X:Cx) (e:Expr) (t:TT):Prop where
 run:PT X e t
structure QW (X:Cx) (e:Expr) (t:TT):Prop where
 run:PW X e t
structure QA (X:Cx) (es:List Expr) (t:TA):Prop where
 run:PA X es t
structure QS (X:Cx) (st:Stmt) (t:TS):Prop where
 run:PS X st t
structure QSs (X:Cx) (st:List Stmt) (t:TS):Prop where
 run:PSs X st t
structure QI (X:Cx) (tg iter:Expr) (wi:TI):Prop where
 run:PI X tg iter wi
structure QG (X:Cx) (tg:Expr) (t:TG):Prop where
 run:PG X tg t
structure QGs (X:Cx) (ts:List Expr) (t:TGs):Prop where
 run:PGs X ts t
structure QO (X:Cx) (o:Option Expr) (t:TO):Prop where
 run:PO X o t
theorem QW.pt {X:Cx}{e:Expr}{t:TT} (h:QW X e t):QT X e t:=⟨h.run.pt⟩
theorem qv {X:Cx} (i:Nat) {x:Str}{pos:Pos} (hN:X.N[i]?=some x:=by rfl) (hv:Vis X.env.scope x:=by first | exact Or.inl rfl | exact Or.inr (Or.inl rfl) | exact Or.inr (Or.inr rfl)) (hd:(x == ("__debug__":Str))=false:=by decide) (hcd:(x == ("__classdict__":Str))=false:=by decide):QE X (.Name x pos) (tVar i):=⟨L2.pv (i:=i) (hN:=hN) (hv:=hv) (hd:=hd) (hcd:=hcd)⟩
theorem au {X:Cx}{i j pos}:QE X (.Constant (.int i) j pos) (tC (.int i)):=⟨L2.pe_int⟩
theorem yX {X:Cx}{b j pos}:QE X (.Constant (.bool b) j pos) (tC (.bl b)):=⟨L2.pe_bl⟩
theorem qL {X:Cx}{j pos}:QE X (.Constant .none j pos) (tC .non):=⟨L2.ahP⟩
theorem jW {X:Cx}{x j pos}:QE X (.Constant (.str x) j pos) (tC (.str x)):=⟨L2.ahO⟩
theorem aW {X:Cx}{x:Str}{v:V}{u:Value}{pos:Pos} (hg:Gl X x) (hm:X.mg x=some u) (r:RelV v u) (hd:(x == ("__debug__":Str))=false:=by decide):QE X (.Name x pos) (tC v):=⟨L2.agm (hg:=hg) (hm:=hm) (r:=r) (hd:=hd)⟩
theorem aV {X:Cx}{a b:Expr}{ta tb:TE}{pos:Pos}{op:Operator}{r:R2} (ho:OpR X (binaryOp op) r) (ha:QE X a ta) (hb:QE X b tb):QE X (.BinOp a op b pos) (tOp r ta tb):=⟨L2.pe_op (ho:=ho) (ha:=ha.run) (hb:=hb.run)⟩
theorem Bx {X:Cx}{a:Expr}{ta:TE}{pos:Pos}{op:UnaryOp}{r:V→Hp→VK→Prop} (ho:UnR X (unaryOp op) r) (ha:QE X a ta):QE X (.UnaryOp op a pos) (tUn r ta):=⟨L2.aj1 (ho:=ho) (ha:=ha.run)⟩
theorem Rm {X:Cx}{a b:Expr}{ta tb:TE}{pos:Pos}{op:CmpOp}{r:R2} (ho:OpR X (compareOp op) r) (ha:QE X a ta) (hb:QE X b tb) (hm:behindInMarks op b=false):QE X (.Compare a [op] [b] pos) (tOp r ta tb):=⟨L2.pe_cmpR (ho:=ho) (ha:=ha.run) (hb:=hb.run) (hm:=hm)⟩
theorem pI {X:Cx}{es:List Expr}{t:TA}{pos:Pos} (h:QA X es t):QE X (.List es pos) (tLst t):=⟨L2.pe_lst (h:=h.run)⟩
theorem aP {X:Cx}{es:List Expr}{t:TA}{pos:Pos}{x1} (h:QA X es t):QE X (.Tuple es x1 pos) (ahd t):=⟨L2.ahN (h:=h.run)⟩
theorem tR {X:Cx}{a b:Expr}{ta tb:TE}{pos:Pos}{tA:TT}{c:Expr} (hc:QT X c tA) (ha:QE X a ta) (hb:QE X b tb):QE X (.IfExp c a b pos) (tIf tA ta tb):=⟨L2.aeD (hc:=hc.run) (ha:=ha.run) (hb:=hb.run)⟩
theorem bY {X:Cx}{e:Expr}{te:TE}{lo hi:Option Expr}{tl th:TO}{pos p2:Pos}{r:V→Option Int→Option Int→Hp→VK→Prop} (hr:SlR X r) (he:QE X e te) (hl:QO X lo tl) (hu:QO X hi th):QE X (.Subscript e (.Slice lo hi none p2) pos) (tSl r te tl th):=⟨L2.aeB (hr:=hr) (he:=he.run) (hl:=hl.run) (hu:=hu.run)⟩
theorem bK {X:Cx}{a b:Expr}{ta tb:TE}{pos:Pos}{r:R2} (hr:IxR X r) (ha:QE X a ta) (hb:QE X b tb) (hs:PlainIx b):QE X (.Subscript a b pos) (tOp r ta tb):=⟨L2.pe_ix (hr:=hr) (ha:=ha.run) (hb:=hb.run) (hs:=hs)⟩
theorem Ft {X:Cx}{scope:Scope}{cl:List (Str×Addr)}{x:Str}{fr:List Str}{js:List Nat}{elt iter:Expr}{px pos:Pos}{wi:TI}{te:TE} (hc:X.calm=true) (L:JW X scope x fr js cl) (hi:QI X (.Name x px) iter wi) (he:∀ C s H fp pins,QE (blk X scope cl C (x::fr) s H fp pins) elt te) (hs:∀ v,foldedSetIterable iter X.env v=pure v:=by intro _; rfl):QE X (.ListComp elt [⟨.Name x px,iter,[],0⟩] scope pos) (tLC wi js te):=⟨Sw.aj2 (hc:=hc) (L:=L) (hi:=hi.run) (he:=fun C s H fp pins=>(he C s H fp pins).run) (hs:=hs)⟩
theorem aJ {X:Cx}{CX:CXT}{k:Nat}{f:Addr}{fd:FuncData}{ps:List Str}{sp:Sp}{dvs:List V}{ds:List Value}{E:XK}{x:Str}{p pos:Pos}{e:Expr}{es:List Expr}{t:TA} (F:FnOk X.prog X.w X.K X.mg X.base CX k f fd ps sp) (hr:Room k X.A) (hg:Gl X x) (hm:X.mg x=some (.ref f)) (hk:PySem.W.keepIn X.K (.ref f)=true) (hb:Binds X.K fd ps ds) (hd:Vals dvs ds) (hx:Passes CX X E) (ha:QA X (e::es) t) (hdb:(x == ("__debug__":Str))=false:=by decide) (he:starEach (e::es) X.env=(false,eval e X.env)::starEach es X.env:=by rfl) (hpl:(backTo pos (starEach es X.env)).any (·.1)=false:=by rfl):QE X (.Call (.Name x p) (e::es) [] pos) (tCall sp dvs E t):=⟨L2.pe_call (F:=F) (hr:=hr) (hg:=hg) (hm:=hm) (hk:=hk) (hb:=hb) (hd:=hd) (hx:=hx) (ha:=ha.run) (hdb:=hdb) (he:=he) (hpl:=hpl)⟩
theorem nO {X:Cx}{CX:CXT}{k:Nat}{f:Addr}{fd:FuncData}{ps:List Str}{sp:Sp}{dvs:List V}{ds:List Value}{E:XK}{x:Str}{p pos:Pos} (F:FnOk X.prog X.w X.K X.mg X.base CX k f fd ps sp) (hr:Room k X.A) (hg:Gl X x) (hm:X.mg x=some (.ref f)) (hk:PySem.W.keepIn X.K (.ref f)=true) (hb:Binds X.K fd ps ds) (hd:Vals dvs ds) (hx:Passes CX X E) (hdb:(x == ("__debug__":Str))=false:=by decide):QE X (.Call (.Name x p) [] [] pos) (tCall sp dvs E tNil):=⟨L2.aeE (F:=F) (hr:=hr) (hg:=hg) (hm:=hm) (hk:=hk) (hb:=hb) (hd:=hd) (hx:=hx) (hdb:=hdb)⟩
theorem kI {X:Cx}{x:Str}{p pos:Pos}{e:Expr}{es:List Expr}{t:TA}{T:String}{r:List V→Hp→VK→Prop} (hc:CallR X (.type T) r) (hg:Gl X x) (hm:X.mg x=none) (hv:bootBuiltins x=some (.type T)) (ha:QA X (e::es) t) (hn:x≠"__name__":=by decide) (hdb:(x == ("__debug__":Str))=false:=by decide) (he:starEach (e::es) X.env=(false,eval e X.env)::starEach es X.env:=by rfl) (hpl:(backTo pos (starEach es X.env)).any (·.1)=false:=by rfl):QE X (.Call (.Name x p) (e::es) [] pos) (tCB r t):=⟨L2.ac_ (hc:=hc) (hg:=hg) (hm:=hm) (hv:=hv) (ha:=ha.run) (hn:=hn) (hdb:=hdb) (he:=he) (hpl:=hpl)⟩
theorem cY {X:Cx}{x:Str}{p pos:Pos}{e:Expr}{es:List Expr}{t:TA}{id:String}{r:List V→Hp→VK→Prop} (hc:CallR X (.builtin id) r) (hg:Gl X x) (hm:X.mg x=none) (hv:bootBuiltins x=some (.builtin id)) (ha:QA X (e::es) t) (hn:x≠"__name__":=by decide) (hdb:(x == ("__debug__":Str))=false:=by decide) (he:starEach (e::es) X.env=(false,eval e X.env)::starEach es X.env:=by rfl) (hpl:(backTo pos (starEach es X.env)).any (·.1)=false:=by rfl):QE X (.Call (.Name x p) (e::es) [] pos) (tCB r t):=⟨L2.pe_callB (hc:=hc) (hg:=hg) (hm:=hm) (hv:=hv) (ha:=ha.run) (hn:=hn) (hdb:=hdb) (he:=he) (hpl:=hpl)⟩
theorem gQ {X:Cx}{o e:Expr}{es:List Expr}{to:TE}{t:TA}{name:Str}{apos cpos:Pos}{T id:String}{r:V→List V→Hp→VK→Prop} (pa:PlainAttrs T) (slot:Slot T name id) (hty:typeOf (.builtin id)=pure (.type "method_descriptor")) (hm:MtR X id r) (ho:QE X o to) (ha:QA X (e::es) t) (hbase:attributeBase o name X.env (eval o X.env)=eval o X.env:=by rfl) (hfew:((backTo cpos (starEach (e::es) X.env)).all (fun x=>!x.1) && (backToKw cpos (keywordEach [] X.env)).all (fun x=>x.1.isSome)
   && decide ((e::es).length+([]:List Keyword).length+(if ([]:List Keyword).isEmpty then 0 else 1)<30))=true:=by rfl) (hline:(apos.endLine == cpos.line)=true:=by rfl) (hs:starEach (e::es) X.env=(false,eval e X.env)::starEach es X.env:=by rfl) (hplain:(backTo cpos (starEach es X.env)).any (·.1)=false:=by rfl):QE X (.Call (.Attribute o name apos) (e::es) [] cpos) (tBM X.K T r to t):=⟨L2.aj3 (pa:=pa) (slot:=slot) (hty:=hty) (hm:=hm) (ho:=ho.run) (ha:=ha.run) (hbase:=hbase) (hfew:=hfew) (hline:=hline) (hs:=hs) (hplain:=hplain)⟩
theorem qM {X:Cx}{o:Expr}{to:TE}{name:Str}{apos cpos:Pos}{T id:String}{r:V→List V→Hp→VK→Prop} (pa:PlainAttrs T) (slot:Slot T name id) (hty:typeOf (.builtin id)=pure (.type "method_descriptor")) (hm:MtR X id r) (ho:QE X o to) (hbase:attributeBase o name X.env (eval o X.env)=eval o X.env:=by rfl) (hline:(apos.endLine == cpos.line)=true:=by rfl):QE X (.Call (.Attribute o name apos) [] [] cpos) (ahf X.K T r to):=⟨L2.ahQ (pa:=pa) (slot:=slot) (hty:=hty) (hm:=hm) (ho:=ho.run) (hbase:=hbase) (hline:=hline)⟩
theorem abl {X:Cx}{e:Expr}{te:TE}{p1 p2 pos pos2:Pos} (hgl:Gl X "list") (hgr:Gl X "reversed") (ml:X.mg "list"=none) (mr:X.mg "reversed"=none) (hc:X.calm=true) (he:QE X e te) (hs1:starEach [.Call (.Name "reversed" p2) [e] [] pos2] X.env=[(false,eval (.Call (.Name "reversed" p2) [e] [] pos2) X.env)]:=by rfl) (hs2:starEach [e] X.env=[(false,eval e X.env)]:=by rfl):QE X (.Call (.Name "list" p1) [.Call (.Name "reversed" p2) [e] [] pos2] [] pos) (SwR.tLR X.K te):=⟨SwR.abo (hgl:=hgl) (hgr:=hgr) (ml:=ml) (mr:=mr) (hc:=hc) (he:=he.run) (hs1:=hs1) (hs2:=hs2)⟩
theorem oA {X:Cx}{e:Expr}{t:TE} (h:QE X e t) (he:∀ whole,isTrue e X.env whole=(do let v ← whole; standAt e.pos; holding [v] (truthy v)):=by intro _; rfl):QT X e (tB t):=⟨L2.ahG (h:=h.run) (he:=he)⟩
theorem Fq {X:Cx}{a:Expr}{ta:TE} (ha:QE X a ta) (he:∀ whole,isTrue a X.env whole=(do let v ← whole; standAt a.pos; holding [v] (truthy v))):QT X a (fun σ H Q=>ta σ H fun x H'=>∃ k,YL X.K x H' k∧Q k H'):=⟨L2.aev (ha:=ha.run) (he:=he)⟩
theorem aQ {X:Cx}{a b:Expr}{ta tb:TE}{pos:Pos}{op:CmpOp}{r:R2} (ho:OpR X (compareOp op) r) (ha:QE X a ta) (hb:QE X b tb) (hm:behindInMarks op b=false):QT X (.Compare a [op] [b] pos) (tTest (tOp r ta tb)):=⟨L2.pt_cmpR (ho:=ho) (ha:=ha.run) (hb:=hb.run) (hm:=hm)⟩
theorem PJ {X:Cx}{a:Expr}{pos:Pos}{tA:TT} (ha:QT X a tA):QT X (.UnaryOp .Not a pos) (ahe tA):=⟨L2.ahH (ha:=ha.run)⟩
theorem qI {X:Cx}{a b:Expr}{pos:Pos}{tA tB':TT}{rest:List Expr} (ha:QT X a tA) (hb:QW X (.BoolOp .And (b::rest) pos) tB'):QW X (.BoolOp .And (a::b::rest) pos) (aa8 tA tB'):=⟨L2.ahE (ha:=ha.run) (hb:=hb.run)⟩
theorem pY {X:Cx}{a:Expr}{pos:Pos}{tA:TT} (ha:QT X a tA):QW X (.BoolOp .And [a] pos) tA:=⟨L2.af_ (ha:=ha.run)⟩
theorem afz {X:Cx}{a b:Expr}{pos:Pos}{tA tB':TT}{rest:List Expr} (ha:QT X a tA) (hb:QW X (.BoolOp .Or (b::rest) pos) tB'):QW X (.BoolOp .Or (a::b::rest) pos) (tOr tA tB'):=⟨L2.ajZ (ha:=ha.run) (hb:=hb.run)⟩
theorem ac6 {X:Cx}{a:Expr}{pos:Pos}{tA:TT} (ha:QT X a tA):QW X (.BoolOp .Or [a] pos) tA:=⟨L2.ahD (ha:=ha.run)⟩
theorem ak {X:Cx}:QA X [] tNil:=⟨L2.pa_nil⟩
theorem aj {X:Cx}{e:Expr}{es:List Expr}{te:TE}{t:TA} (ha:QE X e te) (hr:QA X es t) (hs:starEach (e::es) X.env=(false,eval e X.env)::starEach es X.env:=by rfl):QA X (e::es) (tCons te t):=⟨L2.pa_cons (ha:=ha.run) (hr:=hr.run) (hs:=hs)⟩
theorem aO {X:Cx}{e:Expr}{te:TE}{pos:Pos} (he:QE X e te):QS X (.Return (some e) pos) (tRet te):=⟨L2.ps_ret (he:=he.run)⟩
theorem aaw {X:Cx}{pos:Pos}:QS X (.Return none pos) afs:=⟨L2.aga⟩
theorem bA {X:Cx}{pos:Pos}{i:Nat}{x:Str}{e:Expr}{te:TE}{pos':Pos} (hN:X.N.Nodup) (hi:X.N[i]?=some x) (hx:Loc X.env.scope x) (he:QE X e te) (hs:swapsWith e (some (.Name x pos')) pos.line X.env=pure false:=by rfl) (hf:X.fn x=true∨X.env.scope.names.lookup x=some .local:=by first | exact .inl rfl | exact .inr rfl | assumption):QS X (.Assign [.Name x pos'] e pos) (tAsg te (gName i)):=⟨L2.ps_set (hN:=hN) (hi:=hi) (hx:=hx) (he:=he.run) (hs:=hs) (hf:=hf)⟩
theorem ac7 {X:Cx}{pos:Pos}{i:Nat}{x:Str}{e:Expr}{te:TE}{op:Operator}{ti:TIp}{pos':Pos} (hN:X.N.Nodup) (hi:X.N[i]?=some x) (hx:Loc X.env.scope x) (he:QE X e te) (ho:PIp X op ti) (hf:X.fn x=true∨X.env.scope.names.lookup x=some .local:=by first | exact .inl rfl | exact .inr rfl | assumption):QS X (.AugAssign (.Name x pos') op e pos) (ahg i te ti):=⟨L2.ahI (hN:=hN) (hi:=hi) (hx:=hx) (he:=he.run) (ho:=ho) (hf:=hf)⟩
theorem bC {X:Cx}{t u:TS}{pos:Pos}{c:Expr}{a b:List Stmt}{tc:TT} (hc:QT X c tc) (ha:QSs X a t) (hb:QSs X b u):QS X (.If c a b pos) (tIfS tc t u):=⟨L2.ps_if (hc:=hc.run) (ha:=ha.run) (hb:=hb.run)⟩
theorem tQ {X:Cx}{pos:Pos}{c:Expr}{body:List Stmt}{tc:TT}{tb:TS} (hp:PassesOwn (model X.prog X.w) X.A X.env X.xe) (hc:QT X c tc) (hb:QSs X body tb):QS X (.While c body [] pos) (xu tc tb):=⟨L2.aew (hp:=hp) (hc:=hc.run) (hb:=hb.run)⟩
theorem PK {X:Cx}{tg:Expr}{iter:Expr}{body:List Stmt}{wi:TI}{g:TG}{tb:TS}{pos:Pos} (hp:PassesOwn (model X.prog X.w) X.A X.env X.xe) (hc:X.calm=true) (hi:QI X tg iter wi) (hg:QG X tg g) (hb:QSs X body tb) (hs:∀ x,foldedSetIterable iter X.env x=pure x:=by intro _; rfl):QS X (.For tg iter body [] pos) (tFor wi g tb):=⟨L2.ps_for (hp:=hp) (hc:=hc) (hi:=hi.run) (hg:=hg.run) (hb:=hb.run) (hs:=hs)⟩
theorem cZ {X:Cx}{e:Expr}{te:TE}{pos:Pos} (he:QE X e te) (hs:swapsWith e none pos.line X.env=pure false:=by rfl):QS X (.Expr e pos) (tDrop te):=⟨L2.ps_expr (he:=he.run) (hs:=hs)⟩
theorem Zk {X:Cx}{pos:Pos}:QS X (.Continue pos) afv:=⟨L2.Zm⟩
theorem af6 {X:Cx}{pos:Pos}:QS X (.Pass pos) tNext:=⟨L2.agb⟩
theorem aeu {X:Cx}{st:Stmt}:QS X st acM:=⟨L2.aey⟩
theorem Ik {X:Cx}{pos:Pos}{tg e:Expr}{te:TE}{g:TG} (he:QE X e te) (hg:QG X tg g) (hs:swapsWithSole [tg] e pos.line X.env=pure false:=by rfl) (hw:swappedStores [tg] e X.env=pure none:=by rfl) (h1:(assignEach [tg] X.env).map (·.2)=[assign tg X.env]:=by rfl):QS X (.Assign [tg] e pos) (tAsg te g):=⟨L2.ahJ (he:=he.run) (hg:=hg.run) (hs:=hs) (hw:=hw) (h1:=h1)⟩
theorem aX {X:Cx}:QSs X [] tNext:=⟨L2.pss_nil⟩
theorem aq {X:Cx}{st:Stmt}{rest:List Stmt}{t u:TS} (h1:QS X st t) (h2:QSs X rest u):QSs X (st::rest) (tSeq t u):=⟨L2.pss_cons (h1:=h1.run) (h2:=h2.run)⟩
theorem aA {X:Cx}{st:Stmt}{t:TS} (h1:QS X st t):QSs X [st] t:=⟨L2.pss_one (h1:=h1.run)⟩
theorem qJ {X:Cx}{tg:Expr}{a:Expr}{ta:TA}{p pos:Pos} (hg:Gl X "range") (hm:X.mg "range"=none) (ha:QA X [a] ta) (hs:starEach [a] X.env=[(false,eval a X.env)]:=by rfl):QI X tg (.Call (.Name "range" p) [a] [] pos) (afF ta):=⟨L2.ac9 (hg:=hg) (hm:=hm) (ha:=ha.run) (hs:=hs)⟩
theorem aay {X:Cx}{tg:Expr}{l:Expr}{tl:TE} (hl:QE X l tl):QI X tg l (iList X.K tl):=⟨L2.pi_list (hl:=hl.run)⟩
theorem lZ {X:Cx}{pos:Pos}{i:Nat}{x:Str} (hN:X.N.Nodup) (hi:X.N[i]?=some x) (hx:Loc X.env.scope x) (hf:X.fn x=true∨X.env.scope.names.lookup x=some .local:=by first | exact .inl rfl | exact .inr rfl | assumption):QG X (.Name x pos) (gName i):=⟨L2.pg_name (hN:=hN) (hi:=hi) (hx:=hx) (hf:=hf)⟩
theorem PL {X:Cx}{pos:Pos}{es:List Expr}{k:Nat}{t:TGs}{n:Nat} (hc:X.calm=true) (h:QGs X es t) (hn:(assignEach es X.env).length=n:=by rfl) (hst:(assignEach es X.env).findIdx? (·.1)=none:=by rfl):QG X (.Tuple es k pos) (ais X.K n t):=⟨L2.ahL (hc:=hc) (h:=h.run) (hn:=hn) (hst:=hst)⟩
theorem Kh {X:Cx}:QGs X [] aiu:=⟨L2.agj⟩
theorem qK {X:Cx}{e:Expr}{es:List Expr}{t:TG}{u:TGs} (h1:QG X e t) (h2:QGs X es u) (hs:(assignEach (e::es) X.env).map (·.2)=assign e X.env::(assignEach es X.env).map (·.2):=by rfl):QGs X (e::es) (afK t u):=⟨L2.aeA (h1:=h1.run) (h2:=h2.run) (hs:=hs)⟩
theorem cN {X:Cx}:QO X none QZ:=⟨L2.agf⟩
theorem cM {X:Cx}{e:Expr}{te:TE} (h:QE X e te):QO X (some e) (aft te):=⟨L2.agd (h:=h.run)⟩
theorem okQ {P:Program}{w:World}{K:PySem.W.Frag}{mg:Str→Option Value}{base:Heap}{x qual:Str}{st:Stmt}{f:Addr}{fd:FuncData}{N ps:List Str}{k:Nat}{sp:Sp} (F:Fun K x qual st f fd) (S:FnScope N ps (defScope st)) (len:∀ vs H Q E,sp vs H Q E→vs.length=ps.length)
  (hb:∀ (cdv:Value) (A:Around) (outer:List Env) (s:Shared) (H:Hp) (vs:List V) (Q:VK) (E:XK),Room k (A.deeper (envOfC qual (defScope st) s.heap.objs.size f cdv))→sp vs H Q E →
   ∃ t,QSs (cxOf CX0 P w K mg base N qual (defScope st) f cdv A outer s H E).nox (defBody st) t∧t { nx:=fun _ H'=>Q .non H',rt:=Q } (start N vs) H):FnOk P w K mg base CX0 (k+1) f fd ps sp :=
 F.ok S len fun cdv A outer s H vs Q E hr h=>let ⟨t,q,r⟩:=hb cdv A outer s H vs Q E hr h; ⟨t,q.run,r⟩
theorem oH:bootBuiltins "len"=some (.builtin "len"):=by decide +kernel
theorem ajk:bootBuiltins "sum"=some (.builtin "sum"):=by decide +kernel
theorem adM:bootBuiltins "min"=some (.builtin "min"):=by decide +kernel
theorem jT:bootBuiltins "isinstance"=some (.builtin "isinstance"):=by decide +kernel
theorem ajl:bootBuiltins "int"=some (.type "int"):=by decide +kernel
theorem pA:bootBuiltins "tuple"=some (.type "tuple"):=by decide +kernel
theorem small {n:Nat} (h:n≤1000000):n≤sizeLine:=Nat.le_trans h (by decide)
theorem ahq {n:Nat} (h:n≤1000000):n<sizeLine:=Nat.lt_of_le_of_lt h (by decide)
theorem aaG {α:Type}{ys:List α} (h:ys≠[]):∃ y,ys[ys.length - 1]?=some y:=by
 have:ys.length - 1<ys.length:=by
  have:=List.length_pos_iff.mpr h
  lia
 exact⟨ys[ys.length - 1],List.getElem?_eq_getElem this⟩
theorem Oj (xs:List V) (k:Nat):qZ xs (some (k:Int)) none=xs.drop k:=by
 unfold qZ
 rw [HT.aar,HT.Ww]
 by_cases h:k≤xs.length
 ·rw [Nat.min_eq_left h,List.take_of_length_le (by rw [List.length_drop]; lia)]
 ·rw [Nat.min_eq_right (by lia),List.drop_eq_nil_of_le (by lia),List.drop_eq_nil_of_le (by lia),List.take_nil]
theorem Yk (xs:List V) (k:Nat):qZ xs none (some (k:Int))=xs.take k:=by
 unfold qZ
 rw [HT.aar,HT.Ww,List.drop_zero,Nat.sub_zero]
 by_cases h:k≤xs.length
 ·rw [Nat.min_eq_left h]
 ·rw [Nat.min_eq_right (by lia),List.take_of_length_le (Nat.le_refl _),List.take_of_length_le (by lia)]
section
variable {K:PySem.W.Frag}
theorem bB.rev {α β:Type}{R:α→β→Prop}{as:List α}{bs:List β} (h:bB R as bs):bB R as.reverse bs.reverse:=by
 induction h with
 | nil=>exact .nil
 | cons r _ ih=>rw [List.reverse_cons,List.reverse_cons]; exact ih.append (bB.one r)
def Kv (K:PySem.W.Frag) (H₀ H:Hp) (ts:List T) (x:V):Prop:=∃ a xs,x=.ref a∧H₀ a=none∧H a=some (.lst xs)∧TRs K H ts xs
structure GJ (K:PySem.W.Frag) (H₀ H:Hp) (p:Addr) (st:List (List T)) (ys:List V):Prop where
 new:H₀ p=none
 same:Same H₀ H
 at_:H p=some (.lst ys)
 rows:bB (Kv K H₀ H) st.reverse ys
 nd:((.ref p:V)::ys).Nodup
theorem Kv.upd {H₀ H:Hp}{p:Addr}{o:HO}{ts:List T}{x:V} (h:Kv K H₀ H ts x) (hne:x≠.ref p) (k:Kt H (upd H p o)):Kv K H₀ (upd H p o) ts x:=by
 obtain⟨a,xs,rfl,h1,h2,h3⟩:=h
 exact⟨a,xs,rfl,h1,by rw [upd_ne (fun z=>hne (by rw [z]))]; exact h2,h3.mono k⟩
theorem zT {H₀ H:Hp}{p:Addr}{o:HO} (k:Kt H (upd H p o)):∀ {ss:List (List T)}{ys:List V},bB (Kv K H₀ H) ss ys→(.ref p:V) ∉ ys→bB (Kv K H₀ (upd H p o)) ss ys:=by
 intro ss ys h
 induction h with
 | nil=>intro _; exact .nil
 | cons r _ ih=>intro hn; exact .cons (r.upd (fun z=>hn (by rw [z]; exact List.mem_cons_self)) k) (ih fun z=>hn (List.mem_cons_of_mem _ z))
theorem ac1 {H₀ H:Hp}{p q:Addr}{st:List (List T)}{ys:List V} (R:GJ K H₀ H p st ys) (hq:H q=none):GJ K H₀ (upd (upd H q (.lst [])) p (.lst (ys++[.ref q]))) p ([]::st) (ys++[.ref q]):=by
 have npq:p≠q:=ne_of_none R.at_ hq
 have hq0:H₀ q=none:=R.same.free hq
 have nin:(.ref q:V) ∉ ys:=fun hm=>by
  obtain⟨i,hi⟩:=List.mem_iff_getElem?.mp hm
  obtain⟨ts,_,a,xs,e,_,h2,_⟩:=R.rows.get hi
  cases e
  rw [hq] at h2
  cases h2
 have nd:=List.nodup_cons.mp R.nd
 have k1:Kt H (upd H q (.lst [])):=Kt.new hq
 have h1:upd H q (.lst []) p=some (.lst ys):=by rw [upd_ne npq]; exact R.at_
 have k2:Kt (upd H q (.lst [])) (upd (upd H q (.lst [])) p (.lst (ys++[.ref q]))):=Kt.lst h1
 refine⟨R.new,gB (gB R.same hq0) R.new,upd_same,?_,?_⟩
 ·rw [List.reverse_cons]
  refine bB.append (zT k2 (zT k1 R.rows nin) nd.1) (bB.one ⟨q,[],rfl,hq0,?_,bM.mpr rfl⟩)
  rw [upd_ne (Ne.symm npq)]
  exact upd_same
 ·rw [← List.cons_append]
  refine List.nodup_append.mpr ⟨R.nd,by simp,fun x hx y hy e=>?_⟩
  have ey:y=.ref q:=by simpa using hy
  rw [ey] at e
  subst e
  rcases List.mem_cons.mp hx with z | z
  ·exact npq (V.ref.inj z).symm
  ·exact nin z
theorem bB.snoc {α β:Type}{R:α→β→Prop}{as:List α}{a:α}{bs:List β} (h:bB R (as++[a]) bs):∃ bs' b,bs=bs'++[b]∧bB R as bs'∧R a b:=by
 induction as generalizing bs with
 | nil =>
  cases h with
  | cons r h=>cases h; exact⟨[],_,rfl,.nil,r⟩
 | cons c as ih =>
  cases h with
  | cons r h =>
   obtain⟨bs',b,rfl,h1,h2⟩:=ih h
   exact⟨_::bs',b,rfl,.cons r h1,h2⟩
theorem Et {ys:List V}{v:V}:atI (ys++[v]) (-1)=some v:=by
 unfold atI ixN
 have hl:(ys++[v]).length=ys.length+1:=by simp
 rw [if_neg (by decide),if_pos (by rw [hl]; lia),hl,show ((-1:Int)+((ys.length+1:Nat):Int)).toNat=ys.length by lia,Option.bind_some]
 simp
theorem ajF {t u:TT}{σ:Sg}{H H1 H2:Hp}{Q:Bool→Hp→Prop}{b1 b2:Bool} (h1:∀ R:Bool→Hp→Prop,R b1 H1→t σ H R) (h2:∀ R:Bool→Hp→Prop,R b2 H2→u σ H1 R) (q1:b1=true→Q b2 H2) (q2:b1=false→Q false H1):aa8 t u σ H Q:=by
 refine h1 _ ?_
 cases b1 with
 | true=>exact iteT (h2 _ (q1 rfl))
 | false=>exact iteF (q2 rfl)
theorem acL {t u:TT}{σ:Sg}{H:Hp}{Q:Bool→Hp→Prop}{b1 b2:Bool} (h1:∀ R:Bool→Hp→Prop,R b1 H→t σ H R) (h2:∀ R:Bool→Hp→Prop,R b2 H→u σ H R) (q:Q (b1 && b2) H):aa8 t u σ H Q :=
 ajF h1 h2 (fun e=>by subst e; exact q) (fun e=>by subst e; exact q)
end
section
variable {X:Cx}
def ac5 (K:PySem.W.Frag):R2:=fun x y H Q=>∃ a b xs ys,x=.ref a∧y=.ref b∧SqT K H a xs∧SqT K H b ys∧xs.length+ys.length≤sizeLine∧∀ p H',Same H H'→SqT K H' p (xs++ys)→Q (.ref p) H'
theorem bf:OpR X (binaryOp .Add) (ac5 X.K):=by
 intro pins s σ H x y v u Q I rx ry h
 obtain⟨a,b,xs,ys,rfl,rfl,ha,hb,hz,q⟩:=h
 by_cases hx:xs=[]
 ·subst hx
  cases rx
  cases ry
  obtain⟨its,r1,p1,_⟩:=I.tuple ha
  obtain⟨its2,r2,p2,_⟩:=I.tuple hb
  have e1:its=[]:=r1.Ed.mpr rfl
  subst e1
  obtain⟨⟨cls,dd,data,sl⟩,ho,hc,n,hd⟩:=id p1
  obtain⟨⟨cls2,dd2,data2,sl2⟩,ho2,hc2,n2,hd2⟩:=id p2
  simp only at hc hd hc2 hd2
  subst hc hd hc2 hd2
  exact concat_meets ⟨_,ho,rfl⟩ ⟨_,ho2,rfl⟩ noFill_tuple_add seq_tuple_add PySem.F.slot_tuple_add PySem.F.entry_tuple_add (PySem.F.args_tuple_add_2 _ _)
   (tuple_addW0 a b ([]:List Value).toArray its2.toArray n n2 dd dd2 sl sl2 rfl) ⟨ho,ho2,⟨.ref b,H,I,rfl,q b H (Same.refl H) hb⟩⟩
 ·refine ago pins s σ H _ _ v u Q I rx ry ⟨a,b,xs,ys,rfl,rfl,ha,hb,hx,hz,fun e=>?_,fun _ p hp=>q p _ (same_new hp _) (SqT.of upd_same)⟩
  subst e
  exact q a H (Same.refl H) (by rw [List.append_nil]; exact ha)
theorem Nh:fillsNumberSlot (.type "tuple") "mul"=pure false:=by
 first | kernel_rfl | (unfold fillsNumberSlot; kernel_rfl)
theorem Wy:seqRepeat? (.type "tuple")=pure (some (.builtin "tuple.__mul__")):=by
 unfold seqRepeat?
 first | kernel_rfl | (simp only [typeLookup_type,builtinLookup_eq_fast]; kernel_rfl) | rfl
theorem abj (a:Int) (t:Tok) (l:Addr) (items:Array Value) (n:Nat) (dd:Option Addr) (sl:Array (Option Value)) :
  Meets (Builtin.«int.__rmul__» ⟨[.int a t,.ref l],[]⟩) (fun _ R s=>s.heap.get? l=some { cls:=.type "tuple",dict:=dd,data:=.seq items n,slots:=sl }∧R (.ok (.ret Value.notImplemented)) s) :=
 .of_wp fun prog w A R s h=>by
  obtain⟨hp,g,d,tk,os⟩:=s
  obtain⟨hl,h⟩:=h
  wp_walk
  exact⟨_,rfl,h⟩
theorem acJ (l:Addr) (items:Array Value) (n:Nat) (dd:Option Addr) (sl:Array (Option Value)) (k:Int) (t:Tok) (h0:(items.isEmpty || k == 1)=true) (h1:¬ (decide (k < -(2 ^ 63)) || decide (k ≥ 2 ^ 63))=true) :
  Meets (Builtin.«tuple.__mul__» ⟨[.ref l,.int k t],[]⟩) (fun _ R s=>s.heap.get? l=some { cls:=.type "tuple",dict:=dd,data:=.seq items n,slots:=sl }∧R (.ok (.ret (.ref l))) s) :=
 .of_wp fun prog w A R s h=>by
  obtain⟨hp,g,d,tk,os⟩:=s
  obtain⟨hl,h⟩:=h
  have f1:=AutoSeq1.idx_int
  have f2:=AutoSeq1.sub_tuple_tuple
  wp_walk using AutoSeq1.wpAny_loadPart' hl
  rw [if_neg h1]
  wp_walk using AutoSeq1.wpAny_loadPart' hl
  exact⟨_,rfl,h⟩
theorem acI (l:Addr) (items:Array Value) (n:Nat) (dd:Option Addr) (sl:Array (Option Value)) (k:Int) (t:Tok) (h0:¬ (items.isEmpty || k == 1)=true) (h1:¬ (decide (k < -(2 ^ 63)) || decide (k ≥ 2 ^ 63))=true) (h2:(decide (k≤0) || items.isEmpty)=true) :
  Meets (Builtin.«tuple.__mul__» ⟨[.ref l,.int k t],[]⟩) (fun _ R s=>s.heap.get? l=some { cls:=.type "tuple",dict:=dd,data:=.seq items n,slots:=sl }∧R (.ok (.ret (.ref s.heap.objs.size))) { s with heap:=s.heap.push { cls:=.type "tuple",data:=.seq #[] } }) :=
 .of_wp fun prog w A R s h=>by
  obtain⟨hp,g,d,tk,os⟩:=s
  obtain⟨hl,h⟩:=h
  have f1:=AutoSeq1.idx_int
  have f2:=AutoSeq1.sub_tuple_tuple
  wp_walk using AutoSeq1.wpAny_loadPart' hl
  rw [if_neg h1]
  wp_walk using AutoSeq1.wpAny_loadPart' hl
  exact⟨_,rfl,h⟩
theorem acK (l:Addr) (items:Array Value) (n:Nat) (dd:Option Addr) (sl:Array (Option Value)) (k:Int) (t:Tok) (h0:¬ (items.isEmpty || k == 1)=true) (h1:¬ (decide (k < -(2 ^ 63)) || decide (k ≥ 2 ^ 63))=true) (h2:¬ (decide (k≤0) || items.isEmpty)=true)
  (h3:¬ (items.size:Int) * k > (2 ^ 63 - 1) / 8) (h4:¬ Builtin.Tuple.tupleTooMany ((items.size:Int) * k)=true) (h5:((List.replicate k.toNat items).foldl (·++·) #[]).size≤sizeLine) :
  Meets (Builtin.«tuple.__mul__» ⟨[.ref l,.int k t],[]⟩) (fun _ R s=>s.heap.get? l=some { cls:=.type "tuple",dict:=dd,data:=.seq items n,slots:=sl }∧R (.ok (.ret (.ref s.heap.objs.size))) { s with heap:=s.heap.push { cls:=.type "tuple",data:=.seq ((List.replicate k.toNat items).foldl (·++·) #[]) } }) :=
 .of_wp fun prog w A R s h=>by
  obtain⟨hp,g,d,tk,os⟩:=s
  obtain⟨hl,h⟩:=h
  have f1:=AutoSeq1.idx_int
  have f2:=AutoSeq1.sub_tuple_tuple
  wp_walk using AutoSeq1.wpAny_loadPart' hl
  rw [if_neg h1]
  wp_walk using AutoSeq1.wpAny_loadPart' hl
  rw [if_neg h3]
  wp_walk using AutoSeq1.wpAny_loadPart' hl
  exact⟨_,rfl,h⟩
def yC (xs:List V) (k:Int):List V:=(List.replicate k.toNat xs).flatten
def Ij (K:PySem.W.Frag):R2:=fun x y H Q=>∃ a k xs,x=.ref a∧y=.int k∧SqT K H a xs∧-(2 ^ 62)≤k∧k<2 ^ 62∧xs.length * k.toNat≤sizeLine∧∀ p H',Same H H'→SqT K H' p (yC xs k)→Q (.ref p) H'
theorem o7:OpR X (binaryOp .Mult) (Ij X.K):=by
 intro pins s σ H x y v u Q I rx ry h
 obtain⟨a,k,xs,rfl,rfl,ha,h1,h2,hz,q⟩:=h
 cases rx
 obtain⟨t,rfl⟩:=ry
 obtain⟨its,r,p1,hzx⟩:=I.tuple ha
 have hlen:=r.length
 obtain⟨⟨cls,dd,data,sl⟩,ho,hc,n,hd⟩:=id p1
 simp only at hc hd
 subst hc hd
 have b1:¬ (decide (k < -(2 ^ 63)) || decide (k ≥ 2 ^ 63))=true:=by
  rw [decide_eq_false (by lia),decide_eq_false (by lia)]
  decide
 refine wpAny_binaryOp_repeat_ref (T:="tuple") (U:="int") (by decide) ⟨_,ho,rfl⟩ (fun s'=>typeIs_int s' k t) Nh F.fills_int_mul F.slot_int_rmul Wy F.slot_int_index.lookup
  (call_meets F.slot_int_rmul (typeIs_int s k t) F.entry_int_rmul (F.args_int_rmul_2 _ _) (abj k t a its.toArray n dd sl) ⟨ho,rfl,⟨_,ho,rfl⟩,?_⟩)
 by_cases c0:(its.toArray.isEmpty || k == 1)=true
 ·refine call_meets F.slot_tuple_mul ⟨_,ho,rfl⟩ F.entry_tuple_mul (F.args_tuple_mul_2 _ _) (acJ a its.toArray n dd sl k t c0 b1) ⟨ho,⟨.ref a,H,I,rfl,q a H (Same.refl H) ?_⟩⟩
  rcases Bool.or_eq_true_iff.mp c0 with z | z
  ·have:its=[]:=by simpa using z
   have hx:xs=[]:=r.Ed.mp this
   subst hx
   have:yC ([]:List V) k=[]:=by unfold yC; simp
   rw [this]
   exact ha
  ·have:k=1:=by simpa using z
   subst this
   have:yC xs 1=xs:=by unfold yC; simp
   rw [this]
   exact ha
 ·by_cases c2:(decide (k≤0) || its.toArray.isEmpty)=true
  ·refine call_meets F.slot_tuple_mul ⟨_,ho,rfl⟩ F.entry_tuple_mul (F.args_tuple_mul_2 _ _) (acI a its.toArray n dd sl k t c0 b1 c2) ⟨ho,?_⟩
   have hk:k≤0:=by
    rcases Bool.or_eq_true_iff.mp c2 with z | z
    ·exact of_decide_eq_true z
    ·rw [z] at c0
     exact absurd rfl c0
   have e0:yC xs k=[]:=by
    unfold yC
    rw [show k.toNat=0 by lia]
    rfl
   refine⟨.ref s.heap.objs.size,_,I.laid (t':=s.toks) (o:=.tup []) (fun b ob z=>Heap.get?_push_of_some _ z) (Nat.le_refl _) ?_,rfl,q _ _ (same_new (I.hok.fresh (Nat.le_refl _)) _) (by rw [e0]; exact SqT.of upd_same)⟩
   exact⟨Nat.zero_le _,[],.nil,IsTup.new _ _⟩
  ·have hk:0<k:=by
    by_cases hk:k≤0
    ·rw [decide_eq_true hk] at c2
     exact absurd rfl c2
    ·lia
   have hsz:its.toArray.size * k.toNat≤sizeLine:=by rw [List.size_toArray,← hlen]; exact hz
   have hsl:(sizeLine:Nat)=16777216:=sizeLine_eq
   have hpr:(its.toArray.size:Int) * k=((its.toArray.size * k.toNat:Nat):Int):=by
    rw [Int.natCast_mul,show ((k.toNat:Nat):Int)=k by lia]
   have hnew:(List.replicate k.toNat its.toArray).foldl (·++·) #[]=(List.replicate k.toNat its).flatten.toArray:=by
    have:=foldl_rep its k.toNat []
    rw [List.nil_append] at this
    exact this
   have hrl:(List.replicate k.toNat its).flatten.length≤sizeLine:=by
    rw [len_rep,Nat.mul_comm]
    simpa using hsz
   refine call_meets F.slot_tuple_mul ⟨_,ho,rfl⟩ F.entry_tuple_mul (F.args_tuple_mul_2 _ _) (acK a its.toArray n dd sl k t c0 b1 c2 ?_ ?_ ?_) ⟨ho,?_⟩
   ·rw [hpr]
    have:((2:Int) ^ 63 - 1) / 8=1152921504606846975:=by decide
    rw [this]
    lia
   ·unfold Builtin.Tuple.tupleTooMany
    rw [hpr,decide_eq_false (by lia)]
    decide
   ·rw [hnew,List.size_toArray]
    exact hrl
   ·rw [hnew]
    have rr:=r.rep k.toNat
    refine⟨.ref s.heap.objs.size,_,I.laid (t':=s.toks) (o:=.tup (yC xs k)) (fun b ob z=>Heap.get?_push_of_some _ z) (Nat.le_refl _) ?_,rfl,q _ _ (same_new (I.hok.fresh (Nat.le_refl _)) _) (SqT.of upd_same)⟩
    exact⟨by unfold yC; rw [rr.length]; exact hrl,_,rr,IsTup.new _ _⟩
end
theorem Ul {H:Hp}{lo:Int}{n:Nat}{σ:Sg}{js:List Nat}{te:TE}{Q:VK} (J:Addr→Nat→List V→Hp→Prop) (hz:n≤sizeLine) (h0:∀ D,H D=none→J D 0 [] (upd H D (.lst [])))
  (hD:∀ D i ys H',J D i ys H'→H' D=some (.lst ys)∧ys.length=i)
  (hte:∀ D i ys H' (R:VK),i<n→J D i ys H'→(∀ y H3,H3 D=some (.lst ys)→J D (i+1) (ys++[y]) (upd H3 D (.lst (ys++[y])))→R y H3)→te (some (.int (lo+i))::frv σ js) H' R)
  (q:∀ D ys H',J D n ys H'→Q (.ref D) H'):Ce (Itr lo n) js te σ Q H:=by
 intro D hDn
 refine⟨fun i m ys H'=>m=n - i∧i≤n∧J D i ys H',⟨n,by lia,Nat.zero_le _,h0 D hDn⟩,?_⟩
 rintro i m ys H' ⟨rfl,hi,hj⟩
 obtain⟨h1,h2⟩:=hD D i ys H' hj
 refine⟨h1,?_⟩
 by_cases hlt:i<n
 ·refine .inr ⟨hlt,fun x H2 y=>?_⟩
  obtain⟨e,y⟩:=y
  subst e
  subst y
  exact hte D i ys _ _ hlt hj fun y H3 g1 g2=>⟨g1,by lia,n - (i+1),by lia,rfl,hlt,g2⟩
 ·have e:i=n:=by lia
  subst e
  exact .inl ⟨Nat.le_refl _,q D ys H' hj⟩
theorem aeT {K:PySem.W.Frag}{H:Hp}{a:Addr}{xs:List V}{σ:Sg}{js:List Nat}{te:TE}{Q:VK} (J:Addr→Nat→List V→Hp→Prop) (hz:xs.length≤sizeLine) (h0:∀ D,H D=none→J D 0 [] (upd H D (.lst [])))
  (hD:∀ D i ys H',J D i ys H'→H' D=some (.lst ys)∧ys.length=i∧SqL K H' a xs)
  (hte:∀ D i x ys H' (R:VK),xs[i]?=some x→J D i ys H'→(∀ y H3,H3 D=some (.lst ys)→J D (i+1) (ys++[y]) (upd H3 D (.lst (ys++[y])))→R y H3)→te (some x::frv σ js) H' R)
  (q:∀ D ys H',J D xs.length ys H'→Q (.ref D) H'):Ce (Itl K a) js te σ Q H:=by
 intro D hDn
 refine⟨fun i m ys H'=>m=xs.length - i∧i≤xs.length∧J D i ys H',⟨xs.length,by lia,Nat.zero_le _,h0 D hDn⟩,?_⟩
 rintro i m ys H' ⟨rfl,hi,hj⟩
 obtain⟨h1,h2,h3⟩:=hD D i ys H' hj
 refine⟨h1,?_⟩
 by_cases hlt:i<xs.length
 ·refine .inr ⟨⟨xs,xs[i],h3,List.getElem?_eq_getElem hlt⟩,fun x H2 y=>?_⟩
  obtain⟨e,y⟩:=y
  subst e
  exact hte D i x ys _ _ (y xs h3) hj fun y H3 g1 g2=>⟨g1,by lia,xs.length - (i+1),by lia,rfl,hlt,g2⟩
 ·have e:i=xs.length:=by lia
  subst e
  exact .inl ⟨⟨xs,h3,Nat.le_refl _⟩,q D ys H' hj⟩
def Bv (H:Hp) (p:Addr):Prop:=∃ ns:List Int,H p=some (.lst (ns.map V.int))
structure Dr (p:Addr) (H H':Hp):Prop where
 keep:∀ b o,b≠p→H b=some o→H' b=some o
 dH:Bv H' p
theorem Dr.refl {p:Addr}{H:Hp} (d:Bv H p):Dr p H H:=⟨fun _ _ _ e=>e,d⟩
theorem Dr.trans {p:Addr}{H H1 H2:Hp} (a:Dr p H H1) (b:Dr p H1 H2):Dr p H H2:=⟨fun c o n e=>b.keep c o n (a.keep c o n e),b.dH⟩
theorem Dr.same {p:Addr}{H H1 H2:Hp} (a:Dr p H H1) (S:Same H1 H2):Dr p H H2:=⟨fun c o n e=>S c o (a.keep c o n e),let ⟨ns,e⟩:=a.dH; ⟨ns,S _ _ e⟩⟩
theorem Dr.kt {p:Addr}{H H':Hp} (d:Bv H p) (a:Dr p H H'):Kt H H':=by
 obtain⟨ns,e⟩:=d
 exact⟨fun b xs q=>a.keep b _ (ne_of q e (fun z=>by cases z)) q,fun b o u q=>a.keep b _ (ne_of q e (fun z=>by cases z)) q⟩
theorem Dr.upd {p b:Addr}{H H':Hp}{o:HO} (a:Dr p H H') (h:H b=none) (hp:b≠p):Dr p H (upd H' b o) :=
 ⟨fun c u n e=>by rw [upd_ne (ne_of_none e h)]; exact a.keep c u n e,let ⟨ns,e⟩:=a.dH; ⟨ns,by rw [upd_ne (Ne.symm hp)]; exact e⟩⟩
section
variable {X:Cx}{scope:Scope}{cl:List (Str×Addr)}{x:Str}{fr:List Str}{js:List Nat}{elt iter:Expr}{px pos:Pos}{wi:TI}{te:TE}{pins:List (Addr×Obj)}{s:Shared}{σ:Sg}{H:Hp}
theorem agH {Q:VK} (use:Option (Value→Sem Unit)) (QQ:Value→Shared→Prop) (hc:X.calm=true) (L:JW X scope x fr js cl) (hi:PI X (.Name x px) iter wi)
  (he:∀ C s H fp pins,PE (blk X scope cl C (x::fr) s H fp pins) elt te)
  (hs:∀ v,foldedSetIterable iter X.env v=pure v) (I:Inv X pins σ H s) (h:tLC wi js te σ H Q)
  (fin:∀ (D C:Addr) (s6:Shared) (H5:Hp) (m6:Str→Option Value),s6.heap.Ns C m6→H5 C=none→(∀ h',Heap.SameBut C s6.heap h'→Inv X pins σ H5 { s6 with heap:=h' })→X.env.locals≠C→X.s₀.heap.objs.size≤C →
   (∀ y c,X.env.cells.lookup y=some c→c≠C)→(∀ p∈X.pn++pins,p.1≠C)→Q (.ref D) H5→compPost (model X.prog X.w) X.A X.xe use QQ (.ref D) C (.ok .next) s6) :
  wpAny (model X.prog X.w) X.A (comprehension (.ListComp elt [⟨.Name x px,iter,[],0⟩] scope pos) scope X.env (firstIterPos [⟨.Name x px,iter,[],0⟩] pos) (newList []) false (eval iter X.env) use) QQ X.xe s:=by
 refine wpAny_comprehension_free rfl hs L.clos L.kind L.loc (thn (hi pins s σ H _ I h) fun v s1 h1=>thn h1 fun itv s2 h2=>?_)
 obtain⟨it,fp,tn,J,H2,e,I2,T,st2,f2,rd⟩:=h2
 subst e
 obtain⟨W,⟨m0,w0⟩,turn⟩:=rd _ I2.fresh
 have I3:=I2.lnew (ys:=[]) (its:=[]) (t':=s2.toks) .nil (Nat.zero_le _)
 refine wpAny_newObj_type ?_
 have XF:∀ b∈fp,b<s2.heap.objs.size:=fun b hb=>by
  obtain⟨o,ho,_⟩:=T.obj 0 _ st2 b hb
  exact Heap.lt_size ho
 generalize hs3:({ s2 with heap:=s2.heap.push { cls:=.type "list",dict:=none,data:=.seq ([]:List Value).toArray } }:Shared)=s3
 have I3':Inv X pins σ (upd H2 s2.heap.objs.size (.lst [])) s3:=by rw [← hs3]; exact I3
 have sz3:s3.heap.objs.size=s2.heap.objs.size+1:=by rw [← hs3]; exact Heap.size_push ..
 have k23:∀ b o,s2.heap.get? b=some o→s3.heap.get? b=some o:=fun b o e=>by rw [← hs3]; exact Heap.get?_push_of_some _ e
 have fsz:∀ b∈fp,b<s3.heap.objs.size:=fun b hb=>by rw [sz3]; exact Nat.lt_succ_of_lt (XF b hb)
 have f3:∀ b∈fp,FpOk X pins (upd H2 s2.heap.objs.size (.lst [])) b:=fun b hb=>⟨by rw [upd_ne (Nat.ne_of_lt (XF b hb))]; exact (f2 b hb).1,(f2 b hb).2⟩
 refine wpAny_newFunctionEnv L.cell (by intro y hy; simp at hy) (fun h4 hn4 aeV=>?_) L.kind
 have k34:∀ b o,s3.heap.get? b=some o→h4.get? b=some o:=fun b o e=>(aeV.2 b (Nat.ne_of_lt (Heap.lt_size e))).trans (Heap.get?_push_of_some _ e)
 generalize hX':blk X scope cl s3.heap.objs.size (x::fr) s3 (upd H2 s2.heap.objs.size (.lst [])) fp pins=X'
 have I4:Inv X' [] (none::frv σ js) (upd H2 s2.heap.objs.size (.lst [])) { s3 with heap:=h4,toks:=s3.toks+([]:List (Str×Value)).length }:=by
  rw [← hX']; exact aaO I3' L hc f3 fsz hn4 k34
 have st4:tn 0 h4:=T.keep _ _ _ st2 fun b _ o e=>k34 b o (k23 b o e)
 have he':PE X' elt te:=by rw [← hX']; exact he _ _ _ _ _
 have xp:X'.prog=X.prog:=by rw [← hX']; rfl
 have xw:X'.w=X.w:=by rw [← hX']; rfl
 have xK:X'.K=X.K:=by rw [← hX']; rfl
 have xA:X'.A=X.A:=by rw [← hX']; rfl
 have xc:X'.calm=true:=by rw [← hX']; rfl
 have xe:X'.xe=fun _ _=>False:=by rw [← hX']; rfl
 have xn:X'.N=x::fr:=by rw [← hX']; rfl
 have xv:X'.env=compEnvC scope cl s3.heap.objs.size X.env:=by rw [← hX']; rfl
 have xpn:X'.pn=X.pn++pins:=by rw [← hX']; rfl
 have xex:X'.ex=fp:=by rw [← hX']; rfl
 have xfs:X'.fs=frs X.stack:=by rw [← hX']; rfl
 have back:∀ {H':Hp}{s':Shared}{h':Heap}{σ':Sg},Inv X' [] σ' H' s'→Heap.SameBut s3.heap.objs.size s'.heap h'→Inv X pins σ H' { s' with heap:=h' }:=fun {H' s' h' σ'} J' hsb=>by
  rw [← hX'] at J'; exact Yo I3' J' f3 hsb
 have frame:∀ b∈fp,b ∉ frs X.stack:=fun b hb z=>by
  rcases List.mem_cons.mp (I3'.stkSub b z) with e | e
  ·exact (f3 b hb).2.1 e
  ·exact (f3 b hb).2.2.1 e
 have stat:∀ {H':Hp},(∀ b∈fp,H' b=none)→∀ b∈fp,FpOk X' [] H' b:=fun {H'} hn b hb=>by
  refine⟨hn b hb,?_,?_,.inl (by rw [xex]; exact hb),?_,?_⟩
  ·rw [xv]; exact Nat.ne_of_lt (fsz b hb)
  ·rw [xfs]; exact frame b hb
  ·rw [xv]; exact fun y c e=>(f3 b hb).2.2.2.2.1 y c (L.sub y c e)
  ·rw [xpn,List.append_nil]; exact (f3 b hb).2.2.2.2.2
 have loop:codeAny (model X.prog X.w) X.A (.compLoop (.ListComp elt [⟨.Name x px,iter,[],0⟩] scope pos) 0 (.ref it) (.ref s2.heap.objs.size) (compEnvC scope cl s3.heap.objs.size X.env))
   (compPost (model X.prog X.w) X.A X.xe use QQ (.ref s2.heap.objs.size) s3.heap.objs.size) { s3 with heap:=h4,toks:=s3.toks+([]:List (Str×Value)).length }:=by
  refine aaF (fun n s'=>∃ i ys o H',Inv X' [] (o::frv σ js) H' s'∧tn i s'.heap∧(∀ b∈fp,H' b=none)∧W i n ys H') ?_ m0 ⟨0,[],none,_,I4,st4,fun b hb=>(f3 b hb).1,w0⟩
  rintro n s5 ⟨i,ys,o,H5,I5,st5,fr5,w5⟩
  obtain⟨hD,hstep⟩:=turn i n ys H5 w5
  rcases hstep with⟨stop,qn⟩ | ⟨go,step⟩
  ·have q:=T.done X' xp xw xK xc i [] s5 _ H5 (fun _ _=>False) I5 (stat fr5) st5 stop
   rw [xA] at q
   refine thn q fun r s6 ⟨hr,I6⟩=>?_
   subst hr
   obtain⟨m6,hn6,_⟩:=I6.loc
   rw [xv] at hn6
   have nC:H5 s3.heap.objs.size=none:=by
    have q:=I6.free
    rw [xv] at q
    exact q
   exact fin s2.heap.objs.size s3.heap.objs.size s6 H5 m6 hn6 nC (fun h' hsb=>back I6 hsb) (Nat.ne_of_lt I3'.lt) I3'.sz (fun y c e=>Nat.ne_of_lt (by
    obtain⟨v,hv⟩:=I3'.cell y c e
    obtain⟨o,ho,_⟩:=hv
    exact Heap.lt_size ho)) (fun p hp=>Nat.ne_of_lt (Heap.lt_size (I3'.pin p hp).1)) qn
  ·have q:=T.item X' xp xw xK xc i [] s5 _ H5 (fun _ _=>False) I5 (stat fr5) st5 go
   rw [xA] at q
   refine thn q fun r s6 ⟨u,hr,h6⟩=>?_
   subst hr
   refine thn h6 fun _ s7 ⟨xx,H7,I7,r7,y7,st7,fr7⟩=>?_
   have I7':=I7.pinned (stat fr7) (T.obj _ _ st7)
   have hg:PG X' (.Name x px) (gName 0):=by
    refine pg_name (i:=0) (x:=x) (by rw [xn]; exact L.nd) (by rw [xn]; rfl) ?_ ?_
    ·rw [xv]; exact .inl (lookup_relabel_local L.var)
    ·rw [xv]; exact .inr (lookup_relabel_local L.var)
   have q7:=hg _ s7 _ H7 xx u (fun σ8 H8=>σ8=some xx::frv σ js∧H8=H7) I7' r7 ⟨rfl,rfl⟩
   rw [xp,xw,xA,xe,xv] at q7
   refine thn q7 fun _ s8 ⟨σ8,H8,I8,e8,e8'⟩=>?_
   subst e8 e8'
   have q8:=he' _ s8 _ _ _ I8 (step xx _ y7)
   rw [xp,xw,xA,xe,xv] at q8
   refine thn q8 fun yv s9 ⟨y,H9,I9,r9,d9,z9,m9,hm9,w9⟩=>?_
   have q9:=dD (X:=X') _ s9 _ H9 (.ref s2.heap.objs.size) [y] (.ref s2.heap.objs.size) [yv] (fun z H'=>H'=upd H9 s2.heap.objs.size (.lst (ys++[y]))) I9 rfl (.cons r9 .nil) ⟨_,ys,y,rfl,rfl,d9,z9,rfl⟩
   rw [xp,xw,xA,xe] at q9
   refine thn q9 fun _ s10 ⟨_,H10,I10,_,e10⟩=>?_
   subst e10
   refine⟨m9,hm9,i+1,ys++[y],some xx,_,I10.unpinned,T.keep _ _ _ st7 fun b hb ob e=>(I10.pin (b,ob) (List.mem_append_right _ (List.mem_append_right _ (mem_pinsAt hb e)))).1,fun b hb=>?_,w9⟩
   obtain⟨ob,e,_⟩:=T.obj _ _ st7 b hb
   exact (I10.pin (b,ob) (List.mem_append_right _ (List.mem_append_right _ (mem_pinsAt hb e)))).2.1
 exact codeAny_compStart_list loop (T.self _ 0 _ _ _ st4 loop)
theorem aex {i:Nat}{y:Str}{py spos:Pos} (hN:X.N.Nodup) (hy:X.N[i]?=some y) (hx:Loc X.env.scope y) (hc:X.calm=true) (L:JW X scope x fr js cl) (hi:PI X (.Name x px) iter wi)
  (he:∀ C s H fp pins,PE (blk X scope cl C (x::fr) s H fp pins) elt te)
  (hs:∀ v,foldedSetIterable iter X.env v=pure v:=by intro _; rfl)
  (hsw:swapsWith (.ListComp elt [⟨.Name x px,iter,[],0⟩] scope pos) (some (.Name y py)) spos.line X.env=pure true:=by rfl)
  (hf:X.fn y=true∨X.env.scope.names.lookup y=some .local:=by first | exact .inl rfl | exact .inr rfl | assumption) :
  PS X (.Assign [.Name y py] (.ListComp elt [⟨.Name x px,iter,[],0⟩] scope pos) spos) (tAsg (tLC wi js te) (gName i)):=by
 intro pins s σ H D I h
 rw [exec_Assign_Name_used _ _ _ _ hsw]
 refine wpAny_bind (wpAny_standAt (wpAny_bind ?_))
 show wpAny _ X.A (do let _ ← comprehension (.ListComp elt [⟨.Name x px,iter,[],0⟩] scope pos) scope X.env (firstIterPos [⟨.Name x px,iter,[],0⟩] pos) (newList []) false (eval iter X.env) (some (assign (.Name y py) X.env))) _ _ s
 refine wpAny_bind (wpAny_mono (agH (some (assign (.Name y py) X.env)) (fun _ s'=>SP X pins D .next s') hc L hi he hs I h ?_) (fun _ s' hq=>wpAny_pure (wpAny_pure hq)) fun _ _ e=>e)
 intro Dd C s6 H5 m6 hn nC back hLC hsz hcell hpin q
 have J:Inv X pins σ H5 s6:=back s6.heap (Heap.SameBut.refl _ _)
 show wpAny _ X.A (assign (.Name y py) X.env (.ref Dd)) _ _ _
 refine wpAny_assign_Name (store_ok2 (v:=.ref Dd) J hN hy hx rfl (fun s7 I7 hsb=>?_) hf)
 obtain⟨a,hsb,ha⟩:=hsb
 have haC:C≠a:=by
  rcases ha with e | e
  ·rw [e]; exact Ne.symm hLC
  ·exact Ne.symm (hcell _ _ e)
 refine⟨m6,hn.sameBut hsb haC,fun h' hs'=>?_⟩
 have k:∀ b o,b≠C→s7.heap.get? b=some o→h'.get? b=some o:=fun b o n e=>hs'.extBut b o n e
 have J':=I7.turned (t':=s7.toks) k nC (Ne.symm hLC) (.inr hsz) hcell hpin
 exact⟨_,_,J',q⟩
end
theorem WD {X:Cx}{scope:Scope}{cl:List (Str×Addr)}{x:Str}{fr:List Str}{js:List Nat}{elt iter:Expr}{px pos:Pos}{wi:TI}{te:TE}{i:Nat}{y:Str}{py spos:Pos} (hN:X.N.Nodup) (hy:X.N[i]?=some y) (hx:Loc X.env.scope y) (hc:X.calm=true) (L:JW X scope x fr js cl) (hi:QI X (.Name x px) iter wi)
  (he:∀ C s H fp pins,QE (blk X scope cl C (x::fr) s H fp pins) elt te)
  (hs:∀ v,foldedSetIterable iter X.env v=pure v:=by intro _; rfl)
  (hsw:swapsWith (.ListComp elt [⟨.Name x px,iter,[],0⟩] scope pos) (some (.Name y py)) spos.line X.env=pure true:=by rfl)
  (hf:X.fn y=true∨X.env.scope.names.lookup y=some .local:=by first | exact .inl rfl | exact .inr rfl | assumption) :
  QS X (.Assign [.Name y py] (.ListComp elt [⟨.Name x px,iter,[],0⟩] scope pos) spos) (tAsg (tLC wi js te) (gName i)) :=
 ⟨aex hN hy hx hc L hi.run (fun C s H fp pins=>(he C s H fp pins).run) hs hsw hf⟩
section
variable {K:PySem.W.Frag}{H:Hp}{Q:VK}
theorem bV {ts us:List T}{x y:V} (hx:TR K H (.node ts) x) (hy:TR K H (.node us) y) (hz:ts.length+us.length≤sizeLine) (q:∀ z H',Same H H'→TR K H' (.node (ts++us)) z→Q z H'):ac5 K x y H Q:=by
 obtain⟨a,xs,rfl,ha,ra⟩:=bW.mp hx
 obtain⟨b,ys,rfl,hb,rb⟩:=bW.mp hy
 refine⟨a,b,xs,ys,rfl,rfl,ha,hb,by rw [ra.length,rb.length]; exact hz,fun p H' S h=>q _ _ S (wV h ((ra.append rb).mono (.of S)))⟩
theorem TRs.at {ts:List T}{xs:List V} (h:TRs K H ts xs) {i:Nat}{t:T} (e:ts[i]?=some t):∃ x,xs[i]?=some x∧TR K H t x:=by
 have hl:=h.length
 have hi:i<ts.length:=(List.getElem?_eq_some_iff.mp e).1
 have e2:xs[i]?=some (xs[i]'(by lia)):=List.getElem?_eq_getElem _
 obtain⟨t',e3,h3⟩:=h.get e2
 rw [e] at e3
 cases e3
 exact⟨_,e2,h3⟩
theorem nIx {ts:List T}{x y:V}{t:T} (hx:TR K H (.node ts) x) (i:Nat) (e:ts[i]?=some t) (q:∀ z,TR K H t z→Q z H) (hy:y=.int ((i:Nat):Int):=by rfl):aer K x y H Q:=by
 obtain⟨a,xs,rfl,ha,ra⟩:=bW.mp hx
 obtain⟨v,e2,h2⟩:=ra.at e
 exact⟨a,xs,_,v,rfl,hy,ha,atI_nat e2,q v h2⟩
theorem aj6 {ts:List T}{x:V} (hx:TR K H (.node ts) x) (k:Nat) {j:Option Int} (q:∀ z H',Same H H'→TR K H' (.node (ts.drop k)) z→Q z H') (hj:j=some ((k:Nat):Int):=by rfl):PB K x j none H Q:=by
 obtain⟨a,xs,rfl,ha,ra⟩:=bW.mp hx
 subst hj
 refine⟨a,xs,rfl,ha,fun p H' S h=>q _ _ S (wV h ?_)⟩
 rw [Oj]
 exact (ra.drop k).mono (.of S)
theorem nTo {ts:List T}{x:V} (hx:TR K H (.node ts) x) (k:Nat) {j:Option Int} (q:∀ z H',Same H H'→TR K H' (.node (ts.take k)) z→Q z H') (hj:j=some ((k:Nat):Int):=by rfl):PB K x none j H Q:=by
 obtain⟨a,xs,rfl,ha,ra⟩:=bW.mp hx
 subst hj
 refine⟨a,xs,rfl,ha,fun p H' S h=>q _ _ S (wV h ?_)⟩
 rw [Yk]
 exact (ra.take k).mono (.of S)
theorem cV {t:T}{x:V} (h:TR K H t x):TRs K H [t] [x]:=cH.mpr ⟨x,[],rfl,h,bM.mpr rfl⟩
theorem k_ {t u:T}{x y:V} (h:TR K H t x) (g:TR K H u y):TRs K H [t,u] [x,y]:=cH.mpr ⟨x,[y],rfl,h,cV g⟩
theorem ahb {t u r:T}{x y z:V} (h:TR K H t x) (g:TR K H u y) (k:TR K H r z):TRs K H [t,u,r] [x,y,z]:=cH.mpr ⟨x,[y,z],rfl,h,k_ g k⟩
end
section
variable {X:Cx}{K:PySem.W.Frag}
end
theorem R0 {K:PySem.W.Frag}{p:Addr}{H1:Hp}{n:Nat}{lo:Int}{σ:Sg}{js:List Nat}{te:TE}{Q:VK} (Sh:T→Prop) (hk:Bv H1 p) (hn:n≤sizeLine)
  (hte:∀ (i:Nat) H' (R:VK),i<n→Dr p H1 H'→(∀ y t H3,Dr p H' H3→TR K H3 t y→Sh t→R y H3)→te (some (.int (lo+i))::frv σ js) H' R)
  (q:∀ D ys ts H',Dr p H1 H'→H' D=some (.lst ys)→ts.length=n→TRs K H' ts ys→(∀ t∈ts,Sh t)→Q (.ref D) H'):Ce (Itr lo n) js te σ Q H1:=by
 refine Ul (fun D i ys H'=>D≠p∧H1 D=none∧Dr p H1 H'∧H' D=some (.lst ys)∧ys.length=i∧∃ ts,TRs K H' ts ys∧∀ t∈ts,Sh t) hn (fun D hD=>?_) (fun D i ys H' j=>⟨j.2.2.2.1,j.2.2.2.2.1⟩) (fun D i ys H' R hi j hR=>?_) (fun D ys H' j=>?_)
 ·have hne:D≠p:=fun z=>by
   obtain⟨ns,e1⟩:=hk
   rw [z,e1] at hD; cases hD
  exact⟨hne,hD,(Dr.refl hk).upd hD hne,upd_same,rfl,[],bM.mpr rfl,fun _ h=>by simp at h⟩
 ·obtain⟨hne,hD,Dh,h1,hl,ts,htr,hsh⟩:=j
  refine hte i H' R hi Dh fun y t H3 D3 ht hs=>?_
  have h3:=D3.keep D _ hne h1
  refine hR y H3 h3 ⟨hne,hD,(Dh.trans D3).upd hD hne,upd_same,by rw [List.length_append,hl]; rfl,ts++[t],?_,fun u hu=>?_⟩
  ·exact TRs.append ((htr.mono (D3.kt Dh.dH)).mono (Kt.lst h3)) (cH.mpr ⟨y,[],rfl,ht.mono (Kt.lst h3),bM.mpr rfl⟩)
  ·rcases List.mem_append.mp hu with z | z
   ·exact hsh u z
   ·rw [List.mem_singleton.mp z]; exact hs
 ·obtain⟨hne,hD,Dh,h1,hl,ts,htr,hsh⟩:=j
  exact q D ys ts H' Dh h1 (by rw [← htr.length]; exact hl) htr hsh
section
variable {X:Cx}
end
def B (a b:Nat) (t:T):Prop:=t.deep≤a∧t.parts≤b
theorem B.le {a b a' b':Nat}{t:T} (h:B a b t) (h1:a≤a') (h2:b≤b'):B a' b' t:=⟨Nat.le_trans h.1 h1,Nat.le_trans h.2 h2⟩
theorem Hf:B 0 1 (.node []):=⟨by rw [T.aR,T.cU]; lia,by rw [T.aN,T.aY]; lia⟩
theorem gj {a b a' b':Nat}{t:T}{ts:List T} (h:B a b t) (g:B a' b' (.node ts)):B (max (a+1) a') (b+b') (.node (t::ts)):=by
 obtain⟨h1,h2⟩:=h
 obtain⟨g1,g2⟩:=g
 rw [T.aR] at g1
 rw [T.aN] at g2
 refine⟨?_,?_⟩
 ·rw [T.aR,T.aU]; lia
 ·rw [T.aN,T.aF]; lia
theorem Kz {a b a' b':Nat}{us:List T} (g:B a' b' (.node us)):∀ {ts:List T},B a b (.node ts)→B (max a a') (b+b') (.node (ts++us))
 | [],_=>g.le (by lia) (by lia)
 | t::ts,h=>by
  obtain⟨h1,h2⟩:=h
  rw [T.aR,T.aU] at h1
  rw [T.aN,T.aF] at h2
  have q:=Kz g (ts:=ts) (a:=a) (b:=b - t.parts) ⟨by rw [T.aR]; lia,by rw [T.aN]; lia⟩
  have q1:=q.1
  have q2:=q.2
  rw [T.aR] at q1
  rw [T.aN] at q2
  refine⟨?_,?_⟩
  ·rw [List.cons_append,T.aR,T.aU]; lia
  ·rw [List.cons_append,T.aN,T.aF]; lia
theorem Qz {a b:Nat}{t:T} (h:B a b t):B (a+1) (b+1) (.node [t]):=(gj h Hf).le (by lia) (by lia)
theorem G9 {a b n:Nat}:∀ {ts:List T},(∀ t∈ts,B a b t)→ts.length≤n→B (a+1) (1+n * b) (.node ts)
 | [],_,_=>Hf.le (by lia) (by lia)
 | t::ts,h,hl=>by
  rw [List.length_cons] at hl
  obtain⟨m,rfl⟩:∃ m,n=m+1:=⟨n - 1,by lia⟩
  refine (gj (h t List.mem_cons_self) (G9 (n:=m) (fun u hu=>h u (List.mem_cons_of_mem _ hu)) (by lia))).le (by lia) ?_
  rw [Nat.succ_mul]; lia
theorem B.len {a b:Nat}{ts:List T} (h:B a b (.node ts)):ts.length<b:=by
 have h2:=h.2
 rw [T.aN] at h2
 have:∀ us:List T,us.length≤T.aH us:=fun us=>by
  induction us with
  | nil=>exact Nat.zero_le _
  | cons u us ih =>
   rw [List.length_cons,T.aF]
   have:1≤u.parts:=by cases u; rw [T.aN]; lia
   lia
 have:=this ts
 lia
theorem bH {K:PySem.W.Frag}{H:Hp}{p:Addr}{xs:List V}{ts:List T} (hp:H p=none) (h:TRs K H ts xs):Same H (upd H p (.tup xs))∧TR K (upd H p (.tup xs)) (.node ts) (.ref p) :=
 ⟨same_new hp _,wV (SqT.of upd_same) (h.mono (.new hp))⟩
def pbT:Nat→Nat
 | 0=>1
 | d+1=>1+3 * pbT d
theorem BJ {ts:List T}{n b:Nat} (hl:ts.length≤n) (h:∀ t∈ts,t.parts≤b):T.aH ts≤n * b :=
 Nat.le_trans (T.Im h) (Nat.mul_le_mul_right b hl)
theorem fO {K:PySem.W.Frag}{H:Hp}{p:Addr} (h:H p=some (.tup [])):TR K H (.node []) (.ref p):=wV (xs:=[]) (SqT.of h) (bM.mpr rfl)
theorem aac {K:PySem.W.Frag}{H:Hp}{t:T}{x:V} (h:TR K H t x):∀ n:Nat,TRs K H (List.replicate n t) (List.replicate n x)
 | 0=>bM.mpr rfl
 | n+1=>by
  rw [List.replicate_succ,List.replicate_succ]
  exact cH.mpr ⟨x,_,rfl,h,aac h n⟩
def acU (K:PySem.W.Frag):Sp:=fun vs H Q _=>∃ (a:Addr) (ns:List Int),vs=[.ref a]∧SqL K H a (ns.map V.int)∧ns.length≤63∧∀ p H',Same H H'→H p=none→Bv H' p→Q (.ref p) H'
def H_:Sp:=fun vs H Q _=>∃ (p:Addr) (m:Int),vs=[.ref p,.int m]∧0<m∧Bv H p∧∀ i H',0≤i→i<m→Dr p H H'→Q (.int i) H'
def ShT:Nat→T→Prop:=fun d t=>t.deep≤d∧t.parts≤pbT d
def Ek (n:Nat):T:=.node (List.replicate n (.node []))
theorem afq (n:Nat):B 1 (1+n) (Ek n):=(G9 (n:=n) (fun t ht=>by rw [List.eq_of_mem_replicate ht]; exact Hf) (by rw [List.length_replicate]; exact Nat.le_refl _)).le (by lia) (by lia)
theorem ShT.b {d:Nat}{t:T} (h:ShT d t):B d (pbT d) t:=h
theorem ah8 {ns:List Nat}{k:Nat} (hk:k<ns.length):∃ c∈ns,atI (ns.map fun n:Nat=>V.int (n:Int)) (k:Int)=some (.int (c:Int)) :=
 ⟨ns[k],List.getElem_mem hk,atI_nat (by rw [List.getElem?_map,List.getElem?_eq_getElem hk]; rfl)⟩
def spLaw (K:PySem.W.Frag):Sp:=fun vs H Q _=>∃ (a:Addr) (ns:List Int),vs=[.ref a]∧SqL K H a (ns.map V.int)∧ns.length≤63∧∀ H',Q (.bl true) H'
def aB (t:T):Nat:=match t.kids with
 | []=>0
 | f::_=>min 9 f.kids.length
def aZ (t:T):T:=.node (t.kids.drop 1)
theorem ae4 {α:Type} (x:α) (n:Nat):(List.replicate n [x]).flatten=List.replicate n x:=by
 induction n with
 | zero=>rfl
 | succ n ih=>rw [List.replicate_succ,List.flatten_cons,ih,List.replicate_succ]; rfl
def je (n:Nat) (us:List T):T:=.node (Ek n::us)
def afy (K:PySem.W.Frag):Sp:=fun vs H Q _=>∃ x t,vs=[x]∧TR K H t x∧t.deep≤400∧t.parts≤1000000∧∀ y H',Same H H'→TR K H' (je 0 t.kids) y→Q y H'
def acS (K:PySem.W.Frag):Sp:=fun vs H Q _=>∃ x t,vs=[x]∧TR K H t x∧t.deep≤400∧t.parts≤1000000∧∀ y H',Same H H'→TR K H' (je 8 t.kids) y→Q y H'
def aak (K:PySem.W.Frag):Sp:=fun vs H Q _=>∃ n:Nat,vs=[.int (n:Int)]∧1≤n∧n≤6∧∀ y H',Same H H'→TR K H' (je n []) y→Q y H'
def Ia (K:PySem.W.Frag):Sp:=fun vs H Q _=>∃ x t y u,vs=[x,y]∧TR K H t x∧TR K H u y∧(t.deep≤400∧t.parts≤1000000)∧(u.deep≤400∧u.parts≤1000000)∧∀ z H',Same H H'→TR K H' (je 7 (t::u.kids)) z→Q z H'
theorem gH {K:PySem.W.Frag}{H:Hp}{Q:VK}{σ:L2.St}{ts:List T}{x:V} (hx:TR K H (.node ts) x) (k:Nat) {j:Option Int} (q:∀ z H',Same H H'→TR K H' (.node (ts.drop k)) z→Q z H') (hj:j=some ((k:Nat):Int):=by rfl):QZ σ H (fun u H3=>PB K x j u H3 Q):=aj6 hx k q hj
theorem cQ {K:PySem.W.Frag}{H:Hp}{Q:VK}{σ:L2.St}{ts:List T}{x y:V}{t:T} (hx:TR K H (.node ts) x) (i:Nat) (e:ts[i]?=some t) (q:∀ z,TR K H t z→Q z H) (hy:y=.int ((i:Nat):Int):=by rfl):tC y σ H (fun y H2=>aer K x y H2 Q):=nIx hx i e q hy
theorem Ky {a b:Nat}{t:T} (h:B a b t):B a b (aZ t):=by
 cases t with
 | node ts =>
  cases ts with
  | nil=>exact h
  | cons u us =>
   obtain⟨h1,h2⟩:=h
   rw [T.aR,T.aU] at h1
   rw [T.aN,T.aF] at h2
   exact⟨by show (T.node us).deep≤a; rw [T.aR]; lia,by show (T.node us).parts≤b; rw [T.aN]; lia⟩
def leaf:T:=.node []
def ats (s:List T) (k:Nat):T:=(s[k]?).getD leaf
def many (k:Nat):Nat:=([0,1,1,2,2,1,3,1,1,0]:List Nat).getD k 0
def pad (s:List T) (n:Nat):List T:=s++List.replicate (n - s.length) leaf
theorem dj {s:List T}{n:Nat} (h:n≤s.length):pad s n=s:=by
 unfold pad
 rw [show n - s.length=0 by lia,List.replicate_zero,List.append_nil]
theorem zy (s:List T) (n:Nat):n≤(pad s n).length:=by
 unfold pad
 rw [List.length_append,List.length_replicate]
 lia
def behind (w:T) (s:List T):List T :=
 if aB w=0 then aZ w::s
 else if 6<aB w then pad s (many (aB w))
 else if aB w=1 then (pad s 1).drop 1
 else if aB w=2 then ats (pad s 1) 0::ats (pad s 1) 0::(pad s 1).drop 1
 else if aB w=3 then ats (pad s 2) 1::ats (pad s 2) 0::(pad s 2).drop 2
 else if aB w=4 then .node (ats (pad s 2) 0::(ats (pad s 2) 1).kids)::(pad s 2).drop 2
 else if aB w=5 then ats (ats (pad s 1) 0).kids 0::.node ((ats (pad s 1) 0).kids.drop 1)::(pad s 1).drop 1
 else ats (pad s 3) 2::ats (pad s 3) 0::ats (pad s 3) 1::(pad s 3).drop 3
def onward (tx s:List T):List T×List T×Nat :=
 match (ats tx 0).kids with
 | []=>(tx.drop 1,s,12)
 | w::ws =>
  if aB w=7 then
   if (ats s 0).kids≠[] then (ats (w.kids.drop 1) 0::.node ws::tx.drop 1,behind w s,7) else (.node (w.kids.drop 2)::.node ws::tx.drop 1,behind w s,8)
  else if aB w=8 then
   if (ats s 0).kids≠[] then (aZ w::tx,behind w s,9) else (.node ws::tx.drop 1,behind w s,10)
  else if aB w=9 then (.node ws::tx.drop 1,behind w s,11)
  else (.node ws::tx.drop 1,behind w s,aB w)
theorem vR (w:T):aB w≤9:=by
 unfold aB
 split
 ·lia
 ·exact Nat.min_le_left _ _
def Ke (K:PySem.W.Frag):Sp:=fun vs H Q _=>∃ x t,vs=[x]∧TR K H t x∧t.deep≤400∧∀ H',Same H H'→Q (.int (aB t:Nat)) H'
theorem dO {s:List T}{k:Nat} (h:k<s.length):s[k]?=some (ats s k):=by
 unfold ats
 rw [List.getElem?_eq_getElem h]
 rfl
theorem h_ (t:T):T.node t.kids=t:=by cases t; rfl
theorem aaD {ns:List Nat}{k:Nat} (hk:k<ns.length):atI (ns.map fun n:Nat=>V.int (n:Int)) (k:Int)=some (.int ((ns.getD k 0:Nat):Int)) :=
 atI_nat (by rw [List.getElem?_map,List.getElem?_eq_getElem hk,List.getD_eq_getElem?_getD,List.getElem?_eq_getElem hk]; rfl)
section
variable {w:T}{s:List T}
theorem Gy (h:aB w=0):behind w s=aZ w::s:=by unfold behind; rw [if_pos h]
theorem j6 (h:6<aB w):behind w s=pad s (many (aB w)):=by unfold behind; rw [if_neg (by lia),if_pos h]
theorem Yt (h:aB w=1):behind w s=(pad s 1).drop 1:=by unfold behind; rw [h]; rfl
theorem Ys (h:aB w=2):behind w s=ats (pad s 1) 0::ats (pad s 1) 0::(pad s 1).drop 1:=by unfold behind; rw [h]; rfl
theorem Yr (h:aB w=3):behind w s=ats (pad s 2) 1::ats (pad s 2) 0::(pad s 2).drop 2:=by unfold behind; rw [h]; rfl
theorem Yq (h:aB w=4):behind w s=.node (ats (pad s 2) 0::(ats (pad s 2) 1).kids)::(pad s 2).drop 2:=by unfold behind; rw [h]; rfl
theorem Tr (h:aB w=5):behind w s=ats (ats (pad s 1) 0).kids 0::.node ((ats (pad s 1) 0).kids.drop 1)::(pad s 1).drop 1:=by unfold behind; rw [h]; rfl
theorem Yp (h:aB w=6):behind w s=ats (pad s 3) 2::ats (pad s 3) 0::ats (pad s 3) 1::(pad s 3).drop 3:=by unfold behind; rw [h]; rfl
end
theorem Yy {s:List T}{k:Nat} (h:k<s.length):ats s k∈s:=List.mem_of_getElem? (dO h)
section
variable {X:Cx}
end
theorem B.pos {a b:Nat}{t:T} (h:B a b t):1≤b:=Nat.le_trans (T.gC t) h.2
theorem pQ {a b:Nat} (k:Nat) {ts:List T} (h:B a b (.node ts)):B a b (.node (ts.drop k)):=by
 obtain⟨h1,h2⟩:=h
 have e:=List.take_append_drop k ts
 rw [← e,T.aR,T.iT] at h1
 rw [← e,T.aN,T.b_] at h2
 exact⟨by rw [T.aR]; lia,by rw [T.aN]; lia⟩
theorem Kw {a b:Nat}{ts:List T}{t:T} (h:B a b (.node ts)) (ht:t∈ts):B a b t:=by
 have h1:=h.1
 have h2:=h.2
 rw [T.aR] at h1
 rw [T.aN] at h2
 have:=T.nP ht
 have:=T.jd ht
 exact⟨by lia,by lia⟩
theorem gF {a b:Nat}{ts:List T} (h:B a b (.node ts)) (k:Nat):B a b (ats ts k):=by
 by_cases hk:k<ts.length
 ·exact Kw h (Yy hk)
 ·unfold ats
  rw [List.getElem?_eq_none (by lia)]
  exact Hf.le (by lia) h.pos
theorem pP {a b:Nat}{t:T} (h:B a b t):B a b (.node t.kids):=by rw [h_]; exact h
theorem G_ {a b:Nat}{s:List T} (n:Nat) (hn:n≤3) (ha:1≤a) (h:B a b (.node s)):B a (b+4) (.node (pad s n)) :=
 (Kz (G9 (a:=0) (b:=1) (n:=3) (fun t ht=>by rw [List.eq_of_mem_replicate ht]; exact Hf) (by rw [List.length_replicate]; lia)) h).le (by lia) (by lia)
theorem afr {a b:Nat}{w:T}{s:List T} (ha:1≤a) (hw:B a b w) (hs:B a b (.node s)):B (a+2) (4 * b+16) (.node (behind w s)):=by
 have hb:=hw.pos
 unfold behind
 split
 ·exact (gj (Ky hw) hs).le (by lia) (by lia)
 split
 ·refine (G_ _ ?_ ha hs).le (by lia) (by lia)
  have:∀ k,k≤9→many k≤3:=by decide
  exact this _ (vR w)
 have p1:=G_ 1 (by lia) ha hs
 have p2:=G_ 2 (by lia) ha hs
 have p3:=G_ 3 (by lia) ha hs
 split
 ·exact (pQ 1 p1).le (by lia) (by lia)
 split
 ·exact (gj (gF p1 0) (gj (gF p1 0) (pQ 1 p1))).le (by lia) (by lia)
 split
 ·exact (gj (gF p2 1) (gj (gF p2 0) (pQ 2 p2))).le (by lia) (by lia)
 split
 ·exact (gj (gj (gF p2 0) (pP (gF p2 1))) (pQ 2 p2)).le (by lia) (by lia)
 split
 ·exact (gj (gF (pP (gF p1 0)) 0) (gj (pQ 1 (pP (gF p1 0))) (pQ 1 p1))).le (by lia) (by lia)
 ·exact (gj (gF p3 2) (gj (gF p3 0) (gj (gF p3 1) (pQ 3 p3)))).le (by lia) (by lia)
theorem afp {a b:Nat}{tx s:List T} (ha:1≤a) (ht:B a b (.node tx)) (hs:B a b (.node s)):B (a+2) (4 * b+16) (.node (onward tx s).1)∧B (a+2) (4 * b+16) (.node (onward tx s).2.1):=by
 have hb:=ht.pos
 have t0:=pP (gF ht 0)
 unfold onward
 split
 ·exact⟨(pQ 1 ht).le (by lia) (by lia),hs.le (by lia) (by lia)⟩
 ·rename_i w ws e
  rw [e] at t0
  have hw:B a b w:=Kw t0 List.mem_cons_self
  have hws:B a b (.node ws):=pQ 1 t0
  have hbe:=afr ha hw hs
  have hd:=pQ 1 ht
  have hl:=pQ 1 (pP hw)
  split
  ·split
   ·exact⟨(gj (gF hl 0) (gj hws hd)).le (by lia) (by lia),hbe⟩
   ·exact⟨(gj (pQ 2 (pP hw)) (gj hws hd)).le (by lia) (by lia),hbe⟩
  split
  ·split
   ·exact⟨(gj (Ky hw) ht).le (by lia) (by lia),hbe⟩
   ·exact⟨(gj hws hd).le (by lia) (by lia),hbe⟩
  split
  ·exact⟨(gj hws hd).le (by lia) (by lia),hbe⟩
  ·exact⟨(gj hws hd).le (by lia) (by lia),hbe⟩
theorem alk {te:TE}{i:Nat}{u:TS}{D:Ends}{σ:L2.St}{H:Hp} (P:V→Hp→Prop) (h:∀ R:VK,(∀ v H',P v H'→R v H')→te σ H R) (k:∀ v H',P v H'→u D (σ.set i (some v)) H'):tSeq (tAsg te (gName i)) u D σ H:=h _ k
theorem jY {te:TE}{i:Nat}{u:TS}{D:Ends}{σ:L2.St}{H:Hp} (σ':V→L2.St) (hσ:∀ v,σ.set i (some v)=σ' v) (P:V→Hp→Prop) (h:∀ R:VK,(∀ v H',P v H'→R v H')→te σ H R) (k:∀ v H',P v H'→u D (σ' v) H'):tSeq (tAsg te (gName i)) u D σ H :=
 alk P h fun v H' p=>by rw [hσ]; exact k v H' p
def YK (o:Obj) (xs:List V):Prop:=∃ (its:Array Value) (n:Nat),o.cls=.type "tuple"∧o.data=.seq its n∧its.size≤sizeLine∧Vals xs its.toList
theorem YK.sq {K:PySem.W.Frag}{o:Obj}{xs:List V}{a:Addr}{H:Hp} (h:YK o xs) (l:K.lookup a=some o):SqT K H a xs:=by
 obtain⟨its,n,h1,h2,h3,h4⟩:=h
 exact .inr ⟨o,its,n,l,h1,h2,h3,h4⟩
def ur (K:PySem.W.Frag):Sp:=fun vs H Q _=>∃ x t,vs=[x]∧TR K H t x∧t.deep≤400∧∀ y H',Same H H'→TR K H' (ats t.kids 0) y→Q y H'
def xG (K:PySem.W.Frag):Sp:=fun vs H Q _=>∃ x t,vs=[x]∧TR K H t x∧∀ y H',Same H H'→TR K H' (aZ t) y→Q y H'
theorem Wd (t:T):aB t=min 9 (ats t.kids 0).kids.length:=by
 cases t with
 | node ts=>cases ts <;> rfl
theorem jr {K:PySem.W.Frag}{H:Hp}{t:T}{x:V} (h:TR K H t x):TR K H (.node t.kids) x:=by rw [h_]; exact h
theorem cR {n:Nat} (h:n≤16000000):n≤sizeLine:=Nat.le_trans h (by decide)
theorem ajE:(2:Int) ^ 62=4611686018427387904:=by decide
theorem Xg {K:PySem.W.Frag}{H:Hp}{Q:VK}{x y:V}{k:Int} (n:Nat) (hx:TR K H (.node [.node []]) x) (hy:y=.int k) (hk:k.toNat=n) (h0:-16000000≤k) (hn:n≤16000000) (q:∀ z H',Same H H'→TR K H' (Ek n) z→Q z H'):Ij K x y H Q:=by
 obtain⟨a,xs,rfl,ha,ra⟩:=bW.mp hx
 obtain⟨v,r,rfl,hv,hr⟩:=cH.mp ra
 rw [bM] at hr
 subst hr
 subst hk
 have h2:=ajE
 refine⟨a,k,[v],rfl,hy,ha,by lia,by lia,by show 1 * k.toNat≤sizeLine; exact cR (by lia),fun p H' S h=>q _ _ S ?_⟩
 have e:yC [v] k=List.replicate k.toNat v:=by
  unfold yC
  exact ae4 v _
 rw [e] at h
 exact wV h (aac (hv.mono (.of S)) _)
theorem afE {K:PySem.W.Frag}{H:Hp}{Q:VK}{σ:L2.St}{x y:V}{k:Int} (n:Nat) (hx:TR K H (.node [.node []]) x) (hy:y=.int k) (hk:k.toNat=n) (h0:-16000000≤k) (hn:n≤16000000) (q:∀ z H',Same H H'→TR K H' (Ek n) z→Q z H'):tC y σ H (fun y H2=>Ij K x y H2 Q):=Xg n hx hy hk h0 hn q
def looks (k:Nat):Nat:=([0,1,1,2,2,1,3,1,1,1,1,0,0]:List Nat).getD k 0
def uL (k:Nat) (l:T) (s:List T):List T :=
 if k=0 then l::s
 else if k=1 then s.drop 1
 else if k=2 then ats s 0::s
 else if k=3 then ats s 1::ats s 0::s.drop 2
 else if k=4 then .node (ats s 0::(ats s 1).kids)::s.drop 2
 else if k=5 then ats (ats s 0).kids 0::aZ (ats s 0)::s.drop 1
 else if k=6 then ats s 2::ats s 0::ats s 1::s.drop 3
 else s
theorem adI {s:List T} (h:1≤s.length):ats s 0::s.drop 1=s:=by
 cases s with
 | nil=>simp at h
 | cons t r=>rfl
theorem Zb {w:T}{s:List T} (h:aB w≤6):behind w s=uL (aB w) (aZ w) (pad s (looks (aB w))):=by
 have hl:aB w=0∨aB w=1∨aB w=2∨aB w=3∨aB w=4∨aB w=5∨aB w=6:=by lia
 rcases hl with e | e | e | e | e | e | e
 ·rw [Gy e,e]; show _=aZ w::pad s 0; rw [dj (Nat.zero_le _)]
 ·rw [Yt e,e]; rfl
 ·rw [Ys e,e]
  show _=ats (pad s 1) 0::pad s 1
  rw [adI (zy s 1)]
 ·rw [Yr e,e]; rfl
 ·rw [Yq e,e]; rfl
 ·rw [Tr e,e]; rfl
 ·rw [Yp e,e]; rfl
def stepT (tx s:List T):Nat:=(onward tx s).2.2
theorem Lx {tx s:List T} (h:(ats tx 0).kids=[]):stepT tx s=12:=by
 unfold stepT onward
 rw [h]
section
variable {tx s:List T}{w:T}{ws:List T}
theorem adb (h:(ats tx 0).kids=[]):onward tx s=(tx.drop 1,s,12):=by
 unfold onward
 rw [h]
theorem WT (h:(ats tx 0).kids=w::ws) (e:aB w=7) (d:(ats s 0).kids≠[]):onward tx s=(ats (w.kids.drop 1) 0::.node ws::tx.drop 1,pad s 1,7):=by
 unfold onward
 rw [h]
 show (if aB w=7 then _ else _)=_
 rw [if_pos e,if_pos d,j6 (by lia),e]
 rfl
theorem abp (h:(ats tx 0).kids=w::ws) (e:aB w=7) (d:(ats s 0).kids=[]):onward tx s=(.node (w.kids.drop 2)::.node ws::tx.drop 1,pad s 1,8):=by
 unfold onward
 rw [h]
 show (if aB w=7 then _ else _)=_
 rw [if_pos e,if_neg (by simp [d]),j6 (by lia),e]
 rfl
theorem RB (h:(ats tx 0).kids=w::ws) (e:aB w=8) (d:(ats s 0).kids≠[]):onward tx s=(aZ w::tx,pad s 1,9):=by
 unfold onward
 rw [h]
 show (if aB w=7 then _ else _)=_
 rw [if_neg (by lia),if_pos e,if_pos d,j6 (by lia),e]
 rfl
theorem Ry (h:(ats tx 0).kids=w::ws) (e:aB w=8) (d:(ats s 0).kids=[]):onward tx s=(.node ws::tx.drop 1,pad s 1,10):=by
 unfold onward
 rw [h]
 show (if aB w=7 then _ else _)=_
 rw [if_neg (by lia),if_pos e,if_neg (by simp [d]),j6 (by lia),e]
 rfl
theorem Rz (h:(ats tx 0).kids=w::ws) (e:aB w=9):onward tx s=(.node ws::tx.drop 1,pad s 0,11):=by
 unfold onward
 rw [h]
 show (if aB w=7 then _ else _)=_
 rw [if_neg (by lia),if_neg (by lia),if_pos e,j6 (by lia),e]
 rfl
theorem Rx (h:(ats tx 0).kids=w::ws) (e:aB w≤6):onward tx s=(.node ws::tx.drop 1,uL (aB w) (aZ w) (pad s (looks (aB w))),aB w):=by
 unfold onward
 rw [h]
 show (if aB w=7 then _ else _)=_
 rw [if_neg (by lia),if_neg (by lia),if_neg (by lia),Zb e]
end
theorem zm {k:Nat}{l:T}{s:List T} (h:7≤k):uL k l s=s:=by
 unfold uL
 rw [if_neg (by lia),if_neg (by lia),if_neg (by lia),if_neg (by lia),if_neg (by lia),if_neg (by lia),if_neg (by lia)]
theorem Nt (k:Nat):looks k≤3:=by
 by_cases h:k<13
 ·have:∀ k,k<13→looks k≤3:=by decide
  exact this k h
 ·unfold looks
  rw [List.getD_eq_getElem?_getD,List.getElem?_eq_none (by show 13≤k; lia)]
  decide
section
variable {tx s:List T}
theorem zX:((ats tx 0).kids=[]∧onward tx s=(tx.drop 1,s,12))∨∃ w ws,(ats tx 0).kids=w::ws ∧
  (onward tx s=(ats (w.kids.drop 1) 0::.node ws::tx.drop 1,pad s 1,7)∨onward tx s=(.node (w.kids.drop 2)::.node ws::tx.drop 1,pad s 1,8)∨onward tx s=(aZ w::tx,pad s 1,9) ∨ ∃ k,(k≤6∨k=10∨k=11)∧onward tx s=(.node ws::tx.drop 1,uL k (aZ w) (pad s (looks k)),k)):=by
 cases hk:(ats tx 0).kids with
 | nil=>exact .inl ⟨rfl,adb hk⟩
 | cons w ws =>
  refine .inr ⟨w,ws,rfl,?_⟩
  have h9:=vR w
  by_cases e7:aB w=7
  ·by_cases d:(ats s 0).kids=[]
   ·exact .inr (.inl (abp hk e7 d))
   ·exact .inl (WT hk e7 d)
  by_cases e8:aB w=8
  ·by_cases d:(ats s 0).kids=[]
   ·exact .inr (.inr (.inr ⟨10,by lia,Ry hk e8 d⟩))
   ·exact .inr (.inr (.inl (RB hk e8 d)))
  by_cases e9:aB w=9
  ·exact .inr (.inr (.inr ⟨11,by lia,Rz hk e9⟩))
  ·exact .inr (.inr (.inr ⟨aB w,by lia,Rx hk (by lia)⟩))
theorem zq:stepT tx s≤12:=by
 unfold stepT
 rcases zX (tx:=tx) (s:=s) with⟨_,e⟩ | ⟨w,ws,_,e | e | e | ⟨k,h,e⟩⟩
 ·rw [e]; exact Nat.le_refl 12
 ·rw [e]; show 7≤12; lia
 ·rw [e]; show 8≤12; lia
 ·rw [e]; show 9≤12; lia
 ·rw [e]; show k≤12; lia
theorem akA (h:stepT tx s=12):onward tx s=(tx.drop 1,s,12):=by
 unfold stepT at h
 rcases zX (tx:=tx) (s:=s) with⟨_,e⟩ | ⟨w,ws,_,e | e | e | ⟨k,g,e⟩⟩
 ·exact e
 ·rw [e] at h; cases h
 ·rw [e] at h; cases h
 ·rw [e] at h; cases h
 ·rw [e] at h; have h:k=12:=h; lia
theorem afS (h:stepT tx s≠12):∃ w ws,(ats tx 0).kids=w::ws:=by
 unfold stepT at h
 rcases zX (tx:=tx) (s:=s) with⟨_,e⟩ | ⟨w,ws,z,_⟩
 ·rw [e] at h; exact absurd rfl h
 ·exact⟨w,ws,z⟩
variable {w:T}{ws:List T}
theorem st7 (hk:(ats tx 0).kids=w::ws) (h:stepT tx s=7):onward tx s=(ats (w.kids.drop 1) 0::.node ws::tx.drop 1,pad s 1,7):=by
 unfold stepT at h
 rcases zX (tx:=tx) (s:=s) with⟨_,e⟩ | ⟨w',ws',z,e | e | e | ⟨k,g,e⟩⟩
 ·rw [e] at h; cases h
 ·rw [hk] at z; cases z; exact e
 ·rw [e] at h; cases h
 ·rw [e] at h; cases h
 ·rw [e] at h; have h:k=7:=h; lia
theorem st8 (hk:(ats tx 0).kids=w::ws) (h:stepT tx s=8):onward tx s=(.node (w.kids.drop 2)::.node ws::tx.drop 1,pad s 1,8):=by
 unfold stepT at h
 rcases zX (tx:=tx) (s:=s) with⟨_,e⟩ | ⟨w',ws',z,e | e | e | ⟨k,g,e⟩⟩
 ·rw [e] at h; cases h
 ·rw [e] at h; cases h
 ·rw [hk] at z; cases z; exact e
 ·rw [e] at h; cases h
 ·rw [e] at h; have h:k=8:=h; lia
theorem st9 (hk:(ats tx 0).kids=w::ws) (h:stepT tx s=9):onward tx s=(aZ w::tx,pad s 1,9):=by
 unfold stepT at h
 rcases zX (tx:=tx) (s:=s) with⟨_,e⟩ | ⟨w',ws',z,e | e | e | ⟨k,g,e⟩⟩
 ·rw [e] at h; cases h
 ·rw [e] at h; cases h
 ·rw [e] at h; cases h
 ·rw [hk] at z; cases z; exact e
 ·rw [e] at h; have h:k=9:=h; lia
theorem stw (hk:(ats tx 0).kids=w::ws) (h12:stepT tx s≠12) (h7:stepT tx s≠7) (h8:stepT tx s≠8) (h9:stepT tx s≠9):onward tx s=(.node ws::tx.drop 1,uL (stepT tx s) (aZ w) (pad s (looks (stepT tx s))),stepT tx s):=by
 unfold stepT at h12 h7 h8 h9 ⊢
 rcases zX (tx:=tx) (s:=s) with⟨_,e⟩ | ⟨w',ws',z,e | e | e | ⟨k,g,e⟩⟩
 ·rw [e] at h12; exact absurd rfl h12
 ·rw [e] at h7; exact absurd rfl h7
 ·rw [e] at h8; exact absurd rfl h8
 ·rw [e] at h9; exact absurd rfl h9
 ·rw [hk] at z; cases z; rw [e]
end
def BX (tx:List T):Prop:=tx.length≤8000000∧∀ t∈tx,B 389 8000000 t
theorem BX.of {a b:Nat}{tx:List T} (h:B a b (.node tx)) (ha:a≤390) (hb:b≤8000000):BX tx:=by
 refine⟨by have:=h.len; lia,fun t ht=>?_⟩
 have h1:=h.1
 have h2:=h.2
 rw [T.aR] at h1
 rw [T.aN] at h2
 have:=T.nP ht
 have:=T.jd ht
 exact⟨by lia,by lia⟩
theorem Yc {n:Nat}:∀ {ts:List T},(∀ t∈ts,t.deep<n)→T.bD ts≤n
 | [],_=>by rw [T.cU]; lia
 | t::ts,h=>by
  rw [T.aU]
  have h1:=h t List.mem_cons_self
  have h2:=Yc (n:=n) (ts:=ts) fun u hu=>h u (List.mem_cons_of_mem _ hu)
  lia
theorem BX.deep {tx:List T} (h:BX tx):(T.node tx).deep≤390:=by
 rw [T.aR]
 exact Yc fun t ht=>by have:=(h.2 t ht).1; lia
theorem BX.ats {tx:List T} (h:BX tx):B 390 8000000 (ats tx 0):=by
 cases tx with
 | nil=>exact Hf.le (by lia) (by lia)
 | cons t r=>exact (h.2 t List.mem_cons_self).le (by lia) (by lia)
def acQ (K:PySem.W.Frag):Sp:=fun vs H Q _=>∃ x tx s,vs=[x]∧TR K H (.node [.node tx,.node s]) x∧BX tx∧B 390 8000000 (.node s)∧∀ H',Same H H'→Q (.int (stepT tx s:Nat)) H'
def Wa (K:PySem.W.Frag):Sp:=fun vs H Q _=>∃ x s,∃ n:Nat,vs=[x,.int (n:Int)]∧TR K H (.node s) x∧s.length≤8000000∧n≤3∧∀ y H',Same H H'→TR K H' (.node (pad s n)) y→Q y H'
def VR (K:PySem.W.Frag):Sp:=fun vs H Q _=>∃ (k:Nat) (y z:V) (l:T) (s:List T),vs=[.int (k:Int),y,z]∧TR K H l y∧TR K H (.node s) z∧looks k≤s.length∧B 395 8000010 (.node s)∧∀ v H',Same H H'→TR K H' (.node (uL k l s)) v→Q v H'
def Wb (K:PySem.W.Frag):Sp:=fun vs H Q _=>∃ x tx s,vs=[x]∧TR K H (.node [.node tx,.node s]) x∧BX tx∧B 390 8000000 (.node s)∧∀ H',Same H H'→Q (.bl (decide (tx.length=0))) H'
def xH (K:PySem.W.Frag):Sp:=fun vs H Q _=>∃ x tx s,vs=[x]∧TR K H (.node [.node tx,.node s]) x∧tx≠[]∧BX tx∧B 390 8000000 (.node s) ∧
 ∀ y H',Same H H'→TR K H' (.node [.node (onward tx s).1,.node (onward tx s).2.1]) y→Q y H'
theorem afc (ts:List T):(T.node ts).beq leaf=decide (ts.length=0):=by
 cases ts with
 | nil=>show T.beq (.node []) leaf=true; exact (T.beq_iff _ _).mpr rfl
 | cons t r =>
  rw [Bool.eq_iff_iff,T.beq_iff]
  simp [leaf]
theorem lE {t:T}:T.beq t leaf=decide (t.kids=[]):=by
 by_cases z:t.kids=[]
 ·rw [decide_eq_true z]
  exact (T.beq_iff _ _).mpr (by cases t; exact congrArg T.node z)
 ·rw [decide_eq_false z]
  exact Bool.eq_false_iff.mpr fun y=>z (by rw [(T.beq_iff _ _).mp y]; rfl)
theorem ahB {X:Cx}{pos:Pos}{o i:Expr}{to ti:TE}{t:Pa} (ho:QE X o to) (hi:QE X i ti) (hs:YW X t)
  (ha:∀ v,assign (.Subscript o i pos) X.env v=(do
   let ov ← holding [v] (eval o X.env)
   let iv ← holding [v,ov] (eval i X.env)
   standAt pos
   holding [v,ov,iv] (setItem ov iv v)
   release [v,ov,iv] []):=by intro _; rfl):QG X (.Subscript o i pos) (ait to ti t):=⟨L2.ahM (ho:=ho.run) (hi:=hi.run) (hs:=hs) (ha:=ha)⟩
section
variable {X:Cx}
theorem adJ (hc:X.calm=true):CallR X (.builtin "sum") (fun xs H Q=>∃ (p:Addr) (ns:List Int),xs=[.ref p]∧SqT X.K H p (ns.map V.int)∧Q (.int ns.sum) H):=by
 intro pins s σ H xs us Q I r h
 obtain⟨p,ns,rfl,hq,q⟩:=h
 obtain⟨u,rfl,rx⟩:=vals1 r
 cases rx
 obtain⟨its,r',pl,hz⟩:=I.tuple hq
 have hi:IntsAre its ns:=intsAre_of r'
 obtain⟨ys,e⟩:=hi.allInts.items
 have hns:ns=ys.toList.map (·.1):=by
  rw [← hi.numsOf,← nums_intItems,← e]
 have ht:s.heap.IsTuple p its.toArray:=pl
 rw [e] at ht
 obtain⟨o,ho,hc',n,hd⟩:=id ht
 have hne:p≠s.heap.objs.size:=Nat.ne_of_lt (Heap.lt_size ho)
 have hsz:(intItems ys).size=ys.size:=by simp [intItems]
 have W:=Walks.tuple (prog:=X.prog) (w:=X.w) (A:=X.A.in1) (I.ok.hd hc) s.heap.objs.size p hne (intItems ys)
 rw [hsz] at W
 refine call_sum_walkG (wpAny_pyIter_tuple ht ?_)
 refine⟨s.heap.objs.size,_,_,_,_,_,numAt ys,rfl,W,⟨⟨_,Heap.get?_push_size _ rfl,rfl,rfl⟩,ht.push _⟩,fun b hb=>?_,fun i v hP=>intItems_at hP,fun h' tk t' hk=>?_⟩
 ·rcases List.mem_cons.mp hb with rfl | hb
  ·exact Heap.lt_size (Heap.get?_push_size _ rfl)
  ·obtain rfl:=List.mem_singleton.mp hb
   exact Heap.lt_size (Heap.get?_push_of_some _ ho)
 ·have es:preSum (numAt ys) ys.size=ns.sum:=by rw [preSum_eq,List.take_of_length_le (by simp),hns]
  exact⟨.int ns.sum,H,I.kept (fun b o e=>hk b o (fun z=>absurd (Heap.lt_size e) (by rw [List.mem_singleton.mp z]; exact Nat.lt_irrefl _)) (Heap.get?_push_of_some _ e)),⟨t',by rw [es]⟩,q⟩
end
theorem R9 {n j:Nat} (h:j<n):ixN n (j:Int)=some j:=by
 unfold ixN
 rw [if_pos (by lia),if_pos (by lia),Int.toNat_natCast]
abbrev nv (n:Nat):V:=.int (n:Int)
def zK (K:PySem.W.Frag):Sp:=fun vs H Q _=>∃ x t,vs=[x]∧TR K H t x∧t.parts≤8000000∧∀ H',Same H H'→Q (.int t.parts) H'
def aaT (K:PySem.W.Frag) (H:Hp) (x:V) (n:Nat) (p:Addr):Nat→Sg→Hp→Prop:=fun m σ H'=>∃ (ys:List V) (ts:List T) (c:Nat) (o:Option V),
 σ=[some x,some (.ref p),some (.int c),o]∧Same H H'∧H' p=some (.lst ys)∧TRs K H' ts ys∧c+T.aH ts=n∧m=T.aH ts
def ev0 (k:Nat):List Nat:=(List.replicate 15 0).set k 1
def nj (tx s:List T):List Nat :=
 if stepT tx s=2 then (ev0 2).set 13 (ats s 0).parts
 else if stepT tx s=9 then (ev0 9).set 14 (aZ (ats (ats tx 0).kids 0)).parts
 else ev0 (stepT tx s)
def wR (ns:List Nat):Int:=((ns.take 13).map fun n:Nat=>(n:Int)).sum - (ns.getD 2 0:Nat)+(ns.getD 13 0:Nat)
def bL (tx s:List T):Nat:=if stepT tx s=2 then (ats s 0).parts else 1
theorem El (tx s:List T):(nj tx s).length=15:=by
 unfold nj ev0
 split
 ·simp
 split <;> simp
theorem agQ (tx s:List T):wR (nj tx s)=(bL tx s:Nat):=by
 have h:=zq (tx:=tx) (s:=s)
 unfold nj bL
 split
 ·rename_i e
  show (0+(0+(1+(0+(0+(0+(0+(0+(0+(0+(0+(0+(0+0))))))))))))) - (1:Int)+((ats s 0).parts:Int)=_
  lia
 split
 ·show (0+(0+(0+(0+(0+(0+(0+(0+(0+(1+(0+(0+(0+0))))))))))))) - (0:Int)+(0:Int)=_
  lia
 ·generalize stepT tx s=k at *
  have:∀ k,k≤12→k≠2→wR (ev0 k)=((1:Nat):Int):=by decide
  exact this k h (by assumption)
theorem uf (tx s:List T):1≤bL tx s:=by
 unfold bL
 split
 ·exact T.gC _
 ·exact Nat.le_refl 1
def acV (K:PySem.W.Frag):Sp:=fun vs H Q _=>∃ (a:Addr) (ns:List Nat),vs=[.ref a]∧SqT K H a (ns.map nv)∧ns.length=15∧∀ H',Same H H'→Q (.int (wR ns)) H'
theorem afD {ns:List Nat}{k:Nat} (h:k<ns.length):atI (ns.map nv) (k:Int)=some (.int ((ns.getD k 0:Nat):Int)) :=
 atI_nat (by rw [List.getElem?_map,List.getElem?_eq_getElem h,List.getD_eq_getElem?_getD,List.getElem?_eq_getElem h]; rfl)
theorem agy (ns:List Nat) (k:Nat):(ns.map nv).take k=((ns.take k).map fun n:Nat=>(n:Int)).map V.int:=by
 rw [← List.map_take,List.map_map]
 rfl
theorem ahZ (ns:List Nat) (k v:Nat):(ns.map nv).set k (nv v)=(ns.set k v).map nv:=by rw [List.map_set]
theorem abV (s:List T) (k:Nat):T.aH (s.drop k)≤T.aH s:=by
 have e:=congrArg T.aH (List.take_append_drop k s)
 rw [T.b_] at e
 lia
theorem aeF (t:T):t.parts=1+T.aH t.kids:=by cases t; rw [T.aN]; rfl
theorem abK (t:T):(aZ t).parts≤t.parts:=by
 unfold aZ
 rw [T.aN,aeF t]
 have:=abV t.kids 1
 lia
end Sw
namespace PySem
section
variable {prog:Program}{w:World}{A:Around}{E:Value→Shared→Prop}{s:Shared}
end
end PySem
namespace Sw
open PySem PySem.Spec PyProof.Rows L2
section
variable {X:Cx}{pins:List (Addr×Obj)}{σ:Sg}{H:Hp}{s:Shared}{scope:Scope}{cl:List (Str×Addr)}{x y:Str}{fr:List Str}{js:List Nat}{fp:List Addr}
end
section
variable {X:Cx}{scope:Scope}{cl:List (Str×Addr)}{x y:Str}{fr:List Str}{js:List Nat}{elt iter:Expr}{px py pt pos:Pos}{kt:Nat}{wi:TI}{te:TE}
end
section
variable {X:Cx}{pins:List (Addr×Obj)}{σ:Sg}{H:Hp}{s:Shared}
end
section
variable {X:Cx}
end
inductive Dt where
 | i (n:Int) | s (x:Str) | t (ds:List Dt)
namespace Dt
mutual
def deep:Dt→Nat
 | .i _=>0
 | .s _=>0
 | .t ds=>bD ds
def bD:List Dt→Nat
 | []=>0
 | d::ds=>max (deep d+1) (bD ds)
end
mutual
def beq:Dt→Dt→Bool
 | .i n,.i m=>n == m
 | .s x,.s y=>x == y
 | .t ds,.t es=>j5 ds es
 | .i _,.s _=>false
 | .i _,.t _=>false
 | .s _,.i _=>false
 | .s _,.t _=>false
 | .t _,.i _=>false
 | .t _,.s _=>false
def j5:List Dt→List Dt→Bool
 | [],[]=>true
 | d::ds,e::es=>beq d e && j5 ds es
 | [],_::_=>false
 | _::_,[]=>false
end
mutual
theorem beq_iff:∀ d e:Dt,beq d e=true↔d=e
 | .i n,.i m=>by rw [beq,beq_iff_eq]; simp
 | .s x,.s y=>by rw [beq,beq_iff_eq]; simp
 | .t ds,.t es=>by rw [beq,Bb ds es]; simp
 | .i _,.s _=>by rw [beq]; simp
 | .i _,.t _=>by rw [beq]; simp
 | .s _,.i _=>by rw [beq]; simp
 | .s _,.t _=>by rw [beq]; simp
 | .t _,.i _=>by rw [beq]; simp
 | .t _,.s _=>by rw [beq]; simp
theorem Bb:∀ ds es:List Dt,j5 ds es=true↔ds=es
 | [],[]=>by rw [j5]; simp
 | d::ds,e::es=>by rw [j5,Bool.and_eq_true,beq_iff d e,Bb ds es]; simp
 | [],_::_=>by rw [j5]; simp
 | _::_,[]=>by rw [j5]; simp
end
theorem pB (d:Dt):beq d d=true:=(beq_iff d d).mpr rfl
theorem nP {d:Dt}:∀ {ds:List Dt},d∈ds→d.deep+1≤bD ds
 | e::es,h=>by
  rw [bD]
  rcases List.mem_cons.mp h with rfl | h
  ·lia
  ·have:=nP h
   lia
end Dt
mutual
def DR (K:PySem.W.Frag) (H:Hp):Dt→V→Prop
 | .i n,x=>x=.int n
 | .s z,x=>x=.str z
 | .t ds,x=>∃ a xs,x=.ref a∧SqT K H a xs∧DRs K H ds xs
def DRs (K:PySem.W.Frag) (H:Hp):List Dt→List V→Prop
 | [],xs=>xs=[]
 | d::ds,xs=>∃ x r,xs=x::r∧DR K H d x∧DRs K H ds r
end
section
variable {K:PySem.W.Frag}{H H':Hp}
theorem DW {n:Int}{x:V}:DR K H (.i n) x↔x=.int n:=by rw [DR]
theorem Bw {z:Str}{x:V}:DR K H (.s z) x↔x=.str z:=by rw [DR]
theorem rH {ds:List Dt}{x:V}:DR K H (.t ds) x↔∃ a xs,x=.ref a∧SqT K H a xs∧DRs K H ds xs:=by rw [DR]
theorem uK {xs:List V}:DRs K H [] xs↔xs=[]:=by rw [DRs]
theorem lX {d:Dt}{ds:List Dt}{xs:List V}:DRs K H (d::ds) xs↔∃ x r,xs=x::r∧DR K H d x∧DRs K H ds r:=by rw [DRs]
theorem DRs.length:∀ {ds:List Dt}{xs:List V},DRs K H ds xs→xs.length=ds.length
 | [],xs,h=>by rw [uK] at h; rw [h]; rfl
 | d::ds,xs,h=>by
  obtain⟨x,r,rfl,_,h2⟩:=lX.mp h
  rw [List.length_cons,List.length_cons,DRs.length h2]
theorem DRs.get:∀ {ds:List Dt}{xs:List V}{j:Nat}{x:V},DRs K H ds xs→xs[j]?=some x→∃ d,ds[j]?=some d∧DR K H d x
 | [],xs,j,x,h,e=>by rw [uK] at h; rw [h] at e; simp at e
 | d::ds,xs,0,x,h,e=>by
  obtain⟨y,r,rfl,h1,_⟩:=lX.mp h
  cases e
  exact⟨d,rfl,h1⟩
 | d::ds,xs,j+1,x,h,e=>by
  obtain⟨y,r,rfl,_,h2⟩:=lX.mp h
  obtain⟨d',hd',h'⟩:=DRs.get (j:=j) h2 (by simpa using e)
  exact⟨d',by simpa using hd',h'⟩
mutual
def ofT:T→Dt
 | .node ts=>.t (Ir ts)
def Ir:List T→List Dt
 | []=>[]
 | t::ts=>ofT t::Ir ts
end
mutual
theorem TR.dr:∀ {t:T}{x:V},TR K H t x→DR K H (ofT t) x
 | .node ts,x,h=>by
  obtain⟨a,xs,e,h1,h2⟩:=bW.mp h
  rw [ofT]
  exact rH.mpr ⟨a,xs,e,h1,TRs.dr h2⟩
theorem TRs.dr:∀ {ts:List T}{xs:List V},TRs K H ts xs→DRs K H (Ir ts) xs
 | [],xs,h=>by rw [Ir]; exact uK.mpr (bM.mp h)
 | t::ts,xs,h=>by
  obtain⟨x,r,e,h1,h2⟩:=cH.mp h
  rw [Ir]
  exact lX.mpr ⟨x,r,e,TR.dr h1,TRs.dr h2⟩
end
mutual
theorem MP:∀ t:T,(ofT t).deep=t.deep
 | .node ts=>by rw [ofT,Dt.deep,T.aR,Uj ts]
theorem Uj:∀ ts:List T,Dt.bD (Ir ts)=T.bD ts
 | []=>by rw [Ir,Dt.bD,T.cU]
 | t::ts=>by rw [Ir,Dt.bD,T.aU,MP t,Uj ts]
end
theorem aaX {a:Addr}{ns:List Nat} (h:SqT K H a (ns.map nv)):DR K H (.t (ns.map fun n:Nat=>.i (n:Int))) (.ref a):=by
 refine rH.mpr ⟨a,_,rfl,h,?_⟩
 induction ns generalizing a with
 | nil=>exact uK.mpr rfl
 | cons n ns ih =>
  have:∀ ms:List Nat,DRs K H (ms.map fun n:Nat=>.i (n:Int)) (ms.map nv):=fun ms=>by
   induction ms with
   | nil=>exact uK.mpr rfl
   | cons m ms ih=>exact lX.mpr ⟨_,_,rfl,DW.mpr rfl,ih⟩
  exact this (n::ns)
theorem DR2 {a:Addr}{d e:Dt}{x y:V} (h:SqT K H a [x,y]) (h1:DR K H d x) (h2:DR K H e y):DR K H (.t [d,e]) (.ref a) :=
 rH.mpr ⟨a,_,rfl,h,lX.mpr ⟨_,_,rfl,h1,lX.mpr ⟨_,_,rfl,h2,uK.mpr rfl⟩⟩⟩
end
section
variable {X:Cx}{pins:List (Addr×Obj)}{σ:Sg}{H:Hp}{s:Shared}
mutual
theorem adF (I:Inv X pins σ H s):∀ (d e:Dt) (x:V),DR X.K H d x→DR X.K H e x→d=e
 | .i n,.i m,x,h,g=>by rw [DW] at h g; rw [h] at g; cases g; rfl
 | .i n,.s m,x,h,g=>by rw [DW] at h; rw [Bw] at g; rw [h] at g; cases g
 | .i n,.t m,x,h,g=>by rw [DW] at h; obtain⟨a,xs,e,_⟩:=rH.mp g; rw [h] at e; cases e
 | .s n,.i m,x,h,g=>by rw [Bw] at h; rw [DW] at g; rw [h] at g; cases g
 | .s n,.s m,x,h,g=>by rw [Bw] at h g; rw [h] at g; cases g; rfl
 | .s n,.t m,x,h,g=>by rw [Bw] at h; obtain⟨a,xs,e,_⟩:=rH.mp g; rw [h] at e; cases e
 | .t n,.i m,x,h,g=>by rw [DW] at g; obtain⟨a,xs,e,_⟩:=rH.mp h; rw [g] at e; cases e
 | .t n,.s m,x,h,g=>by rw [Bw] at g; obtain⟨a,xs,e,_⟩:=rH.mp h; rw [g] at e; cases e
 | .t ds,.t es,x,h,g=>by
  obtain⟨a,xs,rfl,h1,h2⟩:=rH.mp h
  obtain⟨b,ys,e,g1,g2⟩:=rH.mp g
  cases e
  have:=I.HS h1 g1
  subst this
  rw [aaM I ds es xs h2 g2]
theorem aaM (I:Inv X pins σ H s):∀ (ds es:List Dt) (xs:List V),DRs X.K H ds xs→DRs X.K H es xs→ds=es
 | [],[],_,_,_=>rfl
 | [],e::es,xs,h,g=>by
  rw [uK] at h
  obtain⟨x,r,z,_⟩:=lX.mp g
  rw [h] at z; cases z
 | d::ds,[],xs,h,g=>by
  rw [uK] at g
  obtain⟨x,r,z,_⟩:=lX.mp h
  rw [g] at z; cases z
 | d::ds,e::es,xs,h,g=>by
  obtain⟨x,r,rfl,h1,h2⟩:=lX.mp h
  obtain⟨y,q,z,g1,g2⟩:=lX.mp g
  cases z
  rw [adF I d e x h1 g1,aaM I ds es r h2 g2]
end
def nZ (ds es:List Dt) (j:Nat):Bool:=match ds[j]?,es[j]? with
 | some d,some e=>Dt.beq d e
 | _,_=>true
theorem Ji:∀ ds es:List Dt,((List.range (min ds.length es.length)).all (nZ ds es) && ds.length == es.length)=Dt.j5 ds es:=by
 intro ds
 induction ds with
 | nil =>
  intro es
  cases es with
  | nil=>rfl
  | cons e es=>rw [Dt.j5]; simp
 | cons d ds ih =>
  intro es
  cases es with
  | nil=>rw [Dt.j5]; simp
  | cons e es =>
   have e1:min (d::ds).length (e::es).length=min ds.length es.length+1:=by simp only [List.length_cons]; lia
   rw [e1,List.range_succ_eq_map,List.all_cons,List.all_map]
   have e2:(nZ (d::ds) (e::es)∘Nat.succ)=nZ ds es:=by
    funext j
    simp [nZ]
   have e3:nZ (d::ds) (e::es) 0=Dt.beq d e:=rfl
   have e4:((d::ds).length == (e::es).length)=(ds.length == es.length):=by simp
   rw [e2,e3,e4,Bool.and_assoc,ih,Dt.j5]
theorem ajS (I:Inv X pins σ H s):∀ (n:Nat) (d e:Dt) (A:Around) (x y:V) (u v:Value),d.deep<n→DR X.K H d x→DR X.K H e y→RelV x u→RelV y v→A.units+n<cLine→SeqAt.EqAt A s u v (Dt.beq d e):=by
 intro n
 induction n with
 | zero=>intro d e A x y u v hd; lia
 | succ n ih =>
  intro d e A x y u v hd q r ru rv hu
  have hu0:A.units<cLine:=by lia
  cases d with
  | i n1 =>
   rw [DW] at q; subst q; obtain⟨t1,rfl⟩:=ru
   cases e with
   | i m1=>rw [DW] at r; subst r; obtain⟨t2,rfl⟩:=rv; rw [Dt.beq]; exact SeqAt.EqAt.int_int _ _ _ _
   | s m1=>rw [Bw] at r; subst r; obtain⟨t2,rfl⟩:=rv; rw [Dt.beq]; exact SeqAt.EqAt.int_str _ _ _ _
   | t es =>
    obtain⟨b,ys,rfl,r1,r2⟩:=rH.mp r
    cases rv
    obtain⟨jts,_,ht2,_⟩:=I.tuple r1
    rw [Dt.beq]; exact SeqAt.EqAt.int_tuple _ _ ht2 hu0
  | s x1 =>
   rw [Bw] at q; subst q; obtain⟨t1,rfl⟩:=ru
   cases e with
   | i m1=>rw [DW] at r; subst r; obtain⟨t2,rfl⟩:=rv; rw [Dt.beq]; exact SeqAt.EqAt.str_int _ _ _ _
   | s m1=>rw [Bw] at r; subst r; obtain⟨t2,rfl⟩:=rv; rw [Dt.beq]; exact SeqAt.EqAt.str_str _ _ _ _
   | t es =>
    obtain⟨b,ys,rfl,r1,r2⟩:=rH.mp r
    cases rv
    obtain⟨jts,_,ht2,_⟩:=I.tuple r1
    rw [Dt.beq]; exact SeqAt.EqAt.str_tuple _ _ ht2 hu0
  | t ds =>
   obtain⟨a,xs,rfl,q1,q2⟩:=rH.mp q
   cases ru
   obtain⟨its,rvs,ht,_⟩:=I.tuple q1
   cases e with
   | i m1=>rw [DW] at r; subst r; obtain⟨t2,rfl⟩:=rv; rw [Dt.beq]; exact SeqAt.EqAt.tuple_int _ _ ht hu0
   | s m1=>rw [Bw] at r; subst r; obtain⟨t2,rfl⟩:=rv; rw [Dt.beq]; exact SeqAt.EqAt.tuple_str _ _ ht hu0
   | t es =>
    obtain⟨b,ys,rfl,r1,r2⟩:=rH.mp r
    cases rv
    obtain⟨jts,ahv,ht2,_⟩:=I.tuple r1
    by_cases hne:a=b
    ·subst hne
     have et:Dt.t ds=Dt.t es:=adF I _ _ _ q r
     rw [et,Dt.pB]
     exact SeqAt.EqAt.same _
    ·refine SeqAt.EqAt.of_refs hne ?_
     rw [Dt.deep] at hd
     have l1:=rvs.length
     have l2:=ahv.length
     have l3:=q2.length
     have l4:=r2.length
     have key:=SeqAt.RcAt.tuples (A:=A) (e:=nZ ds es) ht ht2 (by lia) (fun j j1 j2=>?_)
     ·have ev:((List.range (min its.toArray.size jts.toArray.size)).all (nZ ds es) && its.toArray.size == jts.toArray.size)=Dt.beq (.t ds) (.t es):=by
       rw [List.size_toArray,List.size_toArray,← l1,← l2,l3,l4,Dt.beq,← Ji]
      rw [ev] at key
      exact key
     ·have j1':j<xs.length:=by rw [l1]; simpa using j1
      have j2':j<ys.length:=by rw [l2]; simpa using j2
      obtain⟨u1,hu1,ru1⟩:=rvs.get (List.getElem?_eq_getElem j1')
      obtain⟨u2,hu2,ru2⟩:=ahv.get (List.getElem?_eq_getElem j2')
      obtain⟨d1,hd1,dr1⟩:=q2.get (List.getElem?_eq_getElem j1')
      obtain⟨d2,hd2,dr2⟩:=r2.get (List.getElem?_eq_getElem j2')
      have ee:nZ ds es j=Dt.beq d1 d2:=by unfold nZ; rw [hd1,hd2]
      have g1:its.toArray[j]=u1:=by
       obtain⟨_,e⟩:=List.getElem?_eq_some_iff.mp hu1
       simpa using e
      have g2:jts.toArray[j]=u2:=by
       obtain⟨_,e⟩:=List.getElem?_eq_some_iff.mp hu2
       simpa using e
      rw [ee,g1,g2]
      have hm:=Dt.nP (List.mem_of_getElem? hd1)
      exact ih d1 d2 A.in1 _ _ u1 u2 (by lia) dr1 dr2 ru1 ru2 (by rw [Around.in1_units]; lia)
end
section
variable {X:Cx}{pins:List (Addr×Obj)}{σ:Sg}{H:Hp}{s:Shared}
theorem Xw (I:Inv X pins σ H s) {n:Nat}{A:Around}{ds es:List Dt}{xs ys:List V}{its jts:List Value} (q2:DRs X.K H ds xs) (r2:DRs X.K H es ys) (rv:Vals xs its) (rv2:Vals ys jts) (hd:Dt.bD ds≤n) (hu:A.units+n<cLine)
  (j:Nat) (j1:j<its.toArray.size) (j2:j<jts.toArray.size):SeqAt.EqAt A s its.toArray[j] jts.toArray[j] (nZ ds es j):=by
 have l1:=rv.length
 have l2:=rv2.length
 have j1':j<xs.length:=by rw [l1]; simpa using j1
 have j2':j<ys.length:=by rw [l2]; simpa using j2
 obtain⟨u1,hu1,ru1⟩:=rv.get (List.getElem?_eq_getElem j1')
 obtain⟨u2,hu2,ru2⟩:=rv2.get (List.getElem?_eq_getElem j2')
 obtain⟨d1,hd1,dr1⟩:=q2.get (List.getElem?_eq_getElem j1')
 obtain⟨d2,hd2,dr2⟩:=r2.get (List.getElem?_eq_getElem j2')
 have ee:nZ ds es j=Dt.beq d1 d2:=by unfold nZ; rw [hd1,hd2]
 have g1:its.toArray[j]=u1:=by
  obtain⟨_,e⟩:=List.getElem?_eq_some_iff.mp hu1
  simpa using e
 have g2:jts.toArray[j]=u2:=by
  obtain⟨_,e⟩:=List.getElem?_eq_some_iff.mp hu2
  simpa using e
 rw [ee,g1,g2]
 have hm:=Dt.nP (List.mem_of_getElem? hd1)
 exact ajS I n d1 d2 A _ _ u1 u2 (by lia) dr1 dr2 ru1 ru2 hu
end
section
variable {X:Cx}
def alu (K:PySem.W.Frag) (n:Nat):R2:=fun x y H Q=>∃ ds es,DR K H (.t ds) x∧DR K H (.t es) y∧(Dt.t ds).deep<n∧Q (.bl (Dt.beq (.t ds) (.t es))) H
def als (K:PySem.W.Frag) (n:Nat):R2:=fun x y H Q=>∃ ds es,DR K H (.t ds) x∧DR K H (.t es) y∧(Dt.t ds).deep<n∧Q (.bl (!Dt.beq (.t ds) (.t es))) H
theorem ahU {n:Nat} (hu:X.A.units+n<cLine):OpR X (compareOp .Eq) (alu X.K n):=by
 intro pins s σ H x y v u Q I rx ry h
 obtain⟨ds,es,h1,h2,hd,q⟩:=h
 obtain⟨a,xs,rfl,q1,q2⟩:=rH.mp h1
 obtain⟨b,ys,rfl,r1,r2⟩:=rH.mp h2
 cases rx
 cases ry
 obtain⟨its,rv,ht,_⟩:=I.tuple q1
 obtain⟨jts,rv2,ht2,_⟩:=I.tuple r1
 rw [Dt.deep] at hd
 have key:=SeqAt.RcAt.tuples (A:=X.A) (e:=nZ ds es) ht ht2 (by lia) (Xw I q2 r2 rv rv2 (n:=n - 1) (by lia) (by rw [Around.in1_units]; lia))
 have ev:((List.range (min its.toArray.size jts.toArray.size)).all (nZ ds es) && its.toArray.size == jts.toArray.size)=Dt.beq (.t ds) (.t es):=by
  rw [List.size_toArray,List.size_toArray,← rv.length,← rv2.length,q2.length,r2.length,Dt.beq,← Ji]
 rw [ev] at key
 exact key _ _ _ _ ⟨.bl _,H,I,rfl,q⟩
theorem ahT {n:Nat} (hu:X.A.units+n<cLine):OpR X (compareOp .NotEq) (als X.K n):=by
 intro pins s σ H x y v u Q I rx ry h
 obtain⟨ds,es,h1,h2,hd,q⟩:=h
 obtain⟨a,xs,rfl,q1,q2⟩:=rH.mp h1
 obtain⟨b,ys,rfl,r1,r2⟩:=rH.mp h2
 cases rx
 cases ry
 obtain⟨its,rv,ht,_⟩:=I.tuple q1
 obtain⟨jts,rv2,ht2,_⟩:=I.tuple r1
 rw [Dt.deep] at hd
 have key:=SeqAt.RcNeAt.tuples (A:=X.A) (e:=nZ ds es) ht ht2 (by lia) (Xw I q2 r2 rv rv2 (n:=n - 1) (by lia) (by rw [Around.in1_units]; lia))
 have ev:((List.range (min its.toArray.size jts.toArray.size)).all (nZ ds es) && its.toArray.size == jts.toArray.size)=Dt.beq (.t ds) (.t es):=by
  rw [List.size_toArray,List.size_toArray,← rv.length,← rv2.length,q2.length,r2.length,Dt.beq,← Ji]
 rw [ev] at key
 exact key _ _ _ _ ⟨.bl _,H,I,rfl,q⟩
end
def gZ:List Nat:=List.replicate 15 0
def fK (a b:List Nat):List Nat:=a.zipWith (· + ·) b
theorem YD {a b:List Nat} (h:a.length=15) (g:b.length=15):(fK a b).length=15:=by unfold fK; rw [List.length_zipWith,h,g]; rfl
theorem adW {b:List Nat} (g:b.length=15):fK gZ b=b:=by
 unfold fK gZ
 refine List.ext_getElem? fun i=>?_
 rw [List.getElem?_zipWith,List.getElem?_replicate]
 by_cases h:i<15
 ·rw [if_pos h,List.getElem?_eq_getElem (by lia)]
  show some (0+_)=some _
  rw [Nat.zero_add]
 ·rw [if_neg h,List.getElem?_eq_none (by lia)]
theorem acf {b:List Nat} (g:b.length=15):fK b gZ=b:=by
 unfold fK gZ
 refine List.ext_getElem? fun i=>?_
 rw [List.getElem?_zipWith,List.getElem?_replicate]
 by_cases h:i<15
 ·rw [if_pos h,List.getElem?_eq_getElem (by lia)]
  show some (_+0)=some _
  rw [Nat.add_zero]
 ·rw [if_neg h,List.getElem?_eq_none (by lia)]
theorem acg (a b c:List Nat):fK (fK a b) c=fK a (fK b c):=by
 unfold fK
 refine List.ext_getElem? fun i=>?_
 simp only [List.getElem?_zipWith]
 cases a[i]? <;> cases b[i]? <;> cases c[i]? <;> simp [Nat.add_assoc]
def goT (b:Nat) (tx s:List T):List T×List T×List Nat :=
 if h:tx=[]∨b<bL tx s then (tx,s,gZ)
 else ((goT (b - bL tx s) (onward tx s).1 (onward tx s).2.1).1,(goT (b - bL tx s) (onward tx s).1 (onward tx s).2.1).2.1,fK (nj tx s) (goT (b - bL tx s) (onward tx s).1 (onward tx s).2.1).2.2)
termination_by b
decreasing_by
 all_goals
  have:=uf tx s
  have:¬ b<bL tx s:=fun z=>h (.inr z)
  lia
def spT (b:Nat) (tx s:List T):Nat :=
 if h:tx=[]∨b<bL tx s then 0
 else bL tx s+spT (b - bL tx s) (onward tx s).1 (onward tx s).2.1
termination_by b
decreasing_by
 have:=uf tx s
 have:¬ b<bL tx s:=fun z=>h (.inr z)
 lia
section
variable {b:Nat}{tx s:List T}
theorem rP (h:tx=[]∨b<bL tx s):goT b tx s=(tx,s,gZ):=by rw [goT,dif_pos h]
theorem Q5 (h:tx=[]∨b<bL tx s):spT b tx s=0:=by rw [spT,dif_pos h]
theorem uG (h1:tx≠[]) (h2:bL tx s≤b):goT b tx s=((goT (b - bL tx s) (onward tx s).1 (onward tx s).2.1).1,(goT (b - bL tx s) (onward tx s).1 (onward tx s).2.1).2.1,fK (nj tx s) (goT (b - bL tx s) (onward tx s).1 (onward tx s).2.1).2.2):=by
 rw [goT,dif_neg (fun z=>z.elim h1 (by lia))]
theorem Q6 (h1:tx≠[]) (h2:bL tx s≤b):spT b tx s=bL tx s+spT (b - bL tx s) (onward tx s).1 (onward tx s).2.1:=by
 rw [spT,dif_neg (fun z=>z.elim h1 (by lia))]
end
theorem Kg {P:Nat→List T→List T→Prop} (h0:∀ b tx s,(tx=[]∨b<bL tx s)→P b tx s) (h1:∀ b tx s,tx≠[]→bL tx s≤b→P (b - bL tx s) (onward tx s).1 (onward tx s).2.1→P b tx s):∀ b tx s,P b tx s:=by
 intro b
 induction b using Nat.strongRecOn with
 | ind b ih =>
  intro tx s
  by_cases h:tx=[]∨b<bL tx s
  ·exact h0 b tx s h
  ·have hc:=uf tx s
   have h2:bL tx s≤b:=by
    have:¬ b<bL tx s:=fun z=>h (.inr z)
    lia
   exact h1 b tx s (fun z=>h (.inl z)) h2 (ih _ (by lia) _ _)
theorem vp:∀ b tx s,(goT b tx s).2.2.length=15:=by
 refine Kg (fun b tx s h=>?_) (fun b tx s h1 h2 ih=>?_)
 ·rw [rP h]; rfl
 ·rw [uG h1 h2]; exact YD (El _ _) ih
theorem ab3:wR gZ=0:=by decide
theorem ab4 {ns ms:List Nat} (h1:ns.length=15) (h2:ms.length=15):wR (fK ns ms)=wR ns+wR ms:=by
 unfold fK
 match ns,h1,ms,h2 with
 | [a0,a1,a2,a3,a4,a5,a6,a7,a8,a9,a10,a11,a12,a13,a14],_,[c0,c1,c2,c3,c4,c5,c6,c7,c8,c9,c10,c11,c12,c13,c14],_ =>
  simp only [wR,List.zipWith_cons_cons,List.zipWith_nil_left,List.take_succ_cons,List.take_zero,List.map_cons,List.map_nil,List.sum_cons,List.sum_nil,List.getD_cons_succ,List.getD_cons_zero,Int.natCast_add]
  lia
theorem agN:∀ b tx s,wR (goT b tx s).2.2=(spT b tx s:Nat):=by
 refine Kg (fun b tx s h=>?_) (fun b tx s h1 h2 ih=>?_)
 ·rw [rP h,Q5 h]; exact ab3
 ·rw [uG h1 h2,Q6 h1 h2]
  show wR (fK _ _)=_
  rw [ab4 (El _ _) (vp _ _ _),agQ,ih]
  lia
inductive Sane:Nat→List T→List T→Prop
 | mk {b:Nat}{tx s:List T} (h1:BX tx) (h2:B 390 8000000 (.node s)) (h3:tx≠[]→bL tx s≤b→Sane (b - bL tx s) (onward tx s).1 (onward tx s).2.1):Sane b tx s
theorem Sane.bx {b:Nat}{tx s:List T} (h:Sane b tx s):BX tx:=by cases h; assumption
theorem Sane.bs {b:Nat}{tx s:List T} (h:Sane b tx s):B 390 8000000 (.node s):=by cases h; assumption
theorem Sane.next {b:Nat}{tx s:List T} (h:Sane b tx s) (h1:tx≠[]) (h2:bL tx s≤b):Sane (b - bL tx s) (onward tx s).1 (onward tx s).2.1:=by
 cases h with
 | mk _ _ h3=>exact h3 h1 h2
theorem Sane.last:∀ b tx s,Sane b tx s→BX (goT b tx s).1∧B 390 8000000 (.node (goT b tx s).2.1):=by
 refine Kg (fun b tx s h g=>?_) (fun b tx s h1 h2 ih g=>?_)
 ·rw [rP h]; exact⟨g.bx,g.bs⟩
 ·rw [uG h1 h2]; exact ih (g.next h1 h2)
def Vs (ns:List Nat):Dt:=.t (ns.map fun n:Nat=>.i (n:Int))
theorem Ql:∀ ns:List Nat,Dt.bD (ns.map fun n:Nat=>.i (n:Int))≤1
 | []=>by show Dt.bD []≤1; rw [Dt.bD]; lia
 | n::ns=>by
  show Dt.bD (.i _::_)≤1
  rw [Dt.bD,Dt.deep]
  have:=Ql ns
  lia
theorem adG (ns:List Nat):(Vs ns).deep≤1:=by unfold Vs; rw [Dt.deep]; exact Ql ns
def J9:Str:=PySem.Str.ofString "told"
def ame:Str:=PySem.Str.ofString "out"
def Vn (b:Nat) (tx s:List T):Str:=if (goT b tx s).1=[] then J9 else ame
def Vp (b:Nat) (tx s:List T):T:=if (goT b tx s).1=[] then ats (goT b tx s).2.1 0 else leaf
def uU (tx s:List T):T:=.node [.node tx,.node s]
def Q8 (K:PySem.W.Frag):Sp:=fun vs H Q _=>∃ x t y u,vs=[x,y]∧TR K H t x∧TR K H u y∧∀ z H',Same H H'→TR K H' (uU [t] [u]) z→Q z H'
def acT (K:PySem.W.Frag):Sp:=fun vs H Q _=>∃ (x:V) (tx s:List T) (b:Nat),vs=[x,.int (b:Int)]∧TR K H (uU tx s) x∧Sane b tx s ∧
 ∀ p y c H',Same H H'→SqT K H' p [y,.ref c]→TR K H' (uU (goT b tx s).1 (goT b tx s).2.1) y→SqT K H' c ((goT b tx s).2.2.map nv)→Q (.ref p) H'
def afx (K:PySem.W.Frag):Sp:=fun vs H Q _=>∃ (x y:V) (t u:T) (b:Nat),vs=[x,y,.int (b:Int)]∧TR K H t x∧TR K H u y∧Sane b [t] [u] ∧
 ∀ p v H',Same H H'→SqT K H' p [.str (Vn b [t] [u]),v,nv (spT b [t] [u])]→TR K H' (Vp b [t] [u]) v→Q (.ref p) H'
def Ue (K:PySem.W.Frag):Sp:=fun vs H Q _=>∃ (x y:V) (t u:T) (b:Nat),vs=[x,y,.int (b:Int)]∧TR K H t x∧TR K H u y∧Sane b [t] [u] ∧
 ∀ c H',Same H H'→SqT K H' c ((goT b [t] [u]).2.2.map nv)→Q (.ref c) H'
section
variable (p:List T) (d x:T) (Y:List T)
end
theorem agM {tx s:List T}:goT 0 tx s=(tx,s,gZ):=rP (.inr (by have:=uf tx s; lia))
end Sw
namespace PySem
open Builtin Builtin.Str
section
variable {prog:Program}{w:World}{A:Around}{E:Value→Shared→Prop}{s:Shared}{x:Str}{t:Tok}{Q:Value→Shared→Prop}
end
end PySem
namespace Sw
open PySem PySem.Spec PyProof.Rows L2
section
variable {X:Cx}
end
open SeqAt in
theorem Zc (l:Addr) (items:Array Value) (n:Nat) (dd:Option Addr) (sl:Array (Option Value)) (x:Value) (e:Value→Bool) (j:Nat) (hj:j<items.size) (hit:e items[j]=true) (hno:∀ m (hm:m<items.size),m<j→e items[m]=false) :
  Meets (Builtin.«tuple.index» ⟨[.ref l,x],[]⟩) (fun A R u=>u.heap.get? l=some { cls:=.type "tuple",dict:=dd,data:=.seq items n,slots:=sl }∧(∀ y,y∈items→EqAt A.in1 u y x (e y))∧R (.ok (.ret (.int j u.toks))) { u with toks:=u.toks+1 }) :=
 .of_wp fun prog w A R u h=>by
  obtain⟨hp,g,d,tk,os⟩:=u; obtain⟨hl,he,h⟩:=h
  unfold Builtin.«tuple.index»
  simp only [Std.Legacy.Range.forIn_eq_forIn_range']
  wp_walk using wpAny_loadPart' hl,wpAny_forIn_list _ (fun rest b s'=>b.1=none∧s'=⟨hp,g,d,tk,os⟩∧∃ i,i≤j∧rest=(List.range' 0 items.size).drop i) _
  case turn =>
   rintro i rest b s' ⟨hb,rfl,m,hm,hr⟩
   have hlt:m<items.size:=by
    have:=congrArg List.length hr
    simp at this
    lia
   have hr2:(List.range' 0 items.size).drop m=m::(List.range' 0 items.size).drop (m+1):=by
    rw [List.drop_eq_getElem_cons (by simpa using hlt)]
    simp
   rw [hr2] at hr
   obtain⟨rfl,rfl⟩:=List.cons.inj hr
   have e1:items[i]?=some items[i]:=Array.getElem?_eq_getElem hlt
   rw [e1]
   refine wpAny_bind (he _ (Array.getElem_mem hlt) prog w _ _ ?_)
   by_cases hmj:i=j
   ·subst hmj
    rw [hit]
    wp_walk
    exact⟨_,rfl,h⟩
   ·rw [hno i hlt (by lia)]
    wp_walk
    exact⟨rfl,rfl,i+1,by lia,rfl⟩
  case fin =>
   rintro ⟨b1,b2⟩ s' ⟨hb,rfl,m,hm,hr⟩
   have:=congrArg List.length hr
   simp at this
   lia
  case h =>
   refine⟨rfl,rfl,0,Nat.zero_le _,?_⟩
   simp
end Sw
namespace Sw
abbrev Std:=List T×List T
def nx (st:Std):Std:=((onward st.1 st.2).1,(onward st.1 st.2).2.1)
def jf (st:Std):Nat:=match (ats st.1 0).kids with
 | []=>1
 | w::_=>if aB w=2 then (ats st.2 0).parts else 1
abbrev W (n:Nat):T:=je n []
abbrev o8 (yes no:List T):T:=je 7 (.node yes::no)
def xT (st:Std):Prop:=aB (ats (ats st.1 0).kids 0)≠8
inductive Wlk:Std→Nat→Nat→Std→Prop where
 | nil {st:Std}:Wlk st 0 0 st
 | cons {st e:Std}{n c:Nat}:st.1≠[]→xT st→Wlk (nx st) n c e→Wlk st (n+1) (c+jf st) e
theorem Wlk.to {st e:Std}{n c n' c':Nat} (h:Wlk st n c e) (e1:n=n') (e2:c=c'):Wlk st n' c' e:=by subst e1; subst e2; exact h
theorem Wlk.one {st e u:Std}{n c k:Nat} (h1:st.1≠[]) (h2:xT st) (h3:nx st=u) (h4:jf st=k) (g:Wlk u n c e):Wlk st (n+1) (c+k) e:=by
 subst h3; subst h4; exact .cons h1 h2 g
section
variable {t cs s:List T}{e:Std}{n c:Nat}
theorem rK {w:T}{k:Nat} (h:aB w=k) (hk:k≠8):xT (.node (w::t)::cs,s):=by
 show aB w≠8
 rw [h]; exact hk
theorem gY {w:T} (h:aB w≤6):nx (.node (w::t)::cs,s)=(.node t::cs,behind w s):=by
 unfold nx onward
 show (_,_)=_
 simp only [ats,T.kids,List.getElem?_cons_zero,Option.getD_some,List.drop_succ_cons,List.drop_zero]
 rw [if_neg (by lia),if_neg (by lia),if_neg (by lia)]
theorem nu {w:T} (h:aB w≠2):jf (.node (w::t)::cs,s)=1:=by
 show (if aB w=2 then _ else 1)=1
 rw [if_neg h]
theorem Vo {us:List T} (g:Wlk (.node t::cs,.node us::s) n c e):Wlk (.node (je 0 us::t)::cs,s) (n+1) (c+1) e :=
 .one (by simp) (rK (k:=0) rfl (by decide)) (by rw [gY (by show 0≤6; decide),Gy rfl]; rfl) (nu (by show 0≠2; decide)) g
theorem su {a:T} (g:Wlk (.node t::cs,s) n c e):Wlk (.node (W 1::t)::cs,a::s) (n+1) (c+1) e :=
 .one (by simp) (rK (k:=1) rfl (by decide)) (by rw [gY (by decide),Yt rfl,dj (by simp)]; rfl) (nu (by decide)) g
theorem acA {a:T} (g:Wlk (.node t::cs,a::a::s) n c e):Wlk (.node (W 2::t)::cs,a::s) (n+1) (c+a.parts) e :=
 .one (by simp) (rK (k:=2) rfl (by decide)) (by rw [gY (by decide),Ys rfl,dj (by simp)]; rfl) rfl g
theorem fj {a b:T} (g:Wlk (.node t::cs,b::a::s) n c e):Wlk (.node (W 3::t)::cs,a::b::s) (n+1) (c+1) e :=
 .one (by simp) (rK (k:=3) rfl (by decide)) (by rw [gY (by decide),Yr rfl,dj (by simp)]; rfl) (nu (by decide)) g
theorem bZ {a:T}{b:List T} (g:Wlk (.node t::cs,.node (a::b)::s) n c e):Wlk (.node (W 4::t)::cs,a::.node b::s) (n+1) (c+1) e :=
 .one (by simp) (rK (k:=4) rfl (by decide)) (by rw [gY (by decide),Yq rfl,dj (by simp)]; rfl) (nu (by decide)) g
theorem pH {a:List T} (g:Wlk (.node t::cs,ats a 0::.node (a.drop 1)::s) n c e):Wlk (.node (W 5::t)::cs,.node a::s) (n+1) (c+1) e :=
 .one (by simp) (rK (k:=5) rfl (by decide)) (by rw [gY (by decide),Tr rfl,dj (by simp)]; rfl) (nu (by decide)) g
theorem pR {a:T}{b:List T} (g:Wlk (.node t::cs,a::.node b::s) n c e):Wlk (.node (W 5::t)::cs,.node (a::b)::s) (n+1) (c+1) e:=pH g
theorem eF {a b d:T} (g:Wlk (.node t::cs,d::a::b::s) n c e):Wlk (.node (W 6::t)::cs,a::b::d::s) (n+1) (c+1) e :=
 .one (by simp) (rK (k:=6) rfl (by decide)) (by rw [gY (by decide),Yp rfl,dj (by simp)]; rfl) (nu (by decide)) g
theorem fu (g:Wlk (cs,s) n c e):Wlk (.node []::cs,s) (n+1) (c+1) e :=
 .one (by simp) (by show 0≠8; decide) rfl rfl g
theorem J7 {yes no:List T}{a:T} (ha:a.kids≠[]) (g:Wlk (.node yes::.node t::cs,a::s) n c e):Wlk (.node (o8 yes no::t)::cs,a::s) (n+1) (c+1) e :=
 .one (by simp) (rK (k:=7) rfl (by decide)) (by
  unfold nx onward
  simp only [ats,T.kids,List.getElem?_cons_zero,Option.getD_some,List.drop_succ_cons,List.drop_zero]
  rw [if_pos (by rfl),if_pos (by exact ha),j6 (by show 6<7; decide),dj (by show 1≤_; simp)]; rfl) (nu (by show 7≠2; decide)) g
theorem Ez {yes no:List T}{a:T} (ha:a.kids=[]) (g:Wlk (.node no::.node t::cs,a::s) n c e):Wlk (.node (o8 yes no::t)::cs,a::s) (n+1) (c+1) e :=
 .one (by simp) (rK (k:=7) rfl (by decide)) (by
  unfold nx onward
  simp only [ats,T.kids,List.getElem?_cons_zero,Option.getD_some,List.drop_succ_cons,List.drop_zero]
  rw [if_pos (by rfl),if_neg (by exact fun z=>z ha),j6 (by show 6<7; decide),dj (by show 1≤_; simp)]; rfl) (nu (by show 7≠2; decide)) g
end
def aa6 (t:List T):List T:=W 6::W 6::W 4::W 6::W 6::W 4::W 3::t
def QX (t:List T):List T:=W 1::W 4::W 3::W 5::t
def QM:Nat→List T
 | 1=>[W 1]
 | 2=>[W 2,W 6,W 3,W 4,W 3,W 4]
 | 3=>[W 3,W 5,W 3,W 6,W 4,W 3,W 4]
 | 4=>[W 3,W 5,W 6,W 4,W 4]
 | 5=>[W 5,W 6,W 6,W 4,W 3,W 4]
 | 6=>[W 3,W 5,W 3,W 5,W 3,W 6,W 4,W 6,W 4,W 3,W 4]
 | _=>[]
def QV (t:List T):List T:=W 6::W 6::W 4::W 6::W 5::t
def akq:List T:=[W 4,W 3,W 6,W 5,W 3,W 1,W 4]
def tNo:List T:=[W 4,W 3,W 6,W 5,W 1,W 4]
def aa7:List T:=[W 4,W 3,W 6,W 5,W 3,W 2,W 6,W 4,W 6,W 5,W 6,W 4,W 4,W 3,W 4]
def aa5:List T:=[W 4,W 6,W 1,W 3]
def HX:Nat→List T→List T
 | 0,t=>t
 | n+1,t=>W 1::HX n t
def qj (k:Nat):List T:=HX (k+1) (if k=0 then aa6 [] else if k=7 then QV [o8 akq tNo] else QX (QM k++[W 3]))
def J_:Nat→List T→List T
 | 0,t=>t
 | n+1,t=>W 3::W 4::J_ n t
def xu:List T:=J_ 8 (W 4::QV [o8 aa7 aa5])
def HW:List T:=HX 10 [W 4]
def cB:Nat→List T
 | 0=>[o8 HW xu]
 | d+1=>[o8 (W 5::W 3::cB d) (qj (7 - d))]
def jG:List T:=[W 5,o8 (W 5::W 5::cB 8) [W 1]]
def bU:List T:=[je 8 jG,W 1,W 5,W 3,W 1]
def dh:List T:=W 5::je 0 []::W 6::W 4::je 0 []::W 6::W 4::bU
section
variable {t cs s us:List T}{e:Std}{n c:Nat}
theorem J8 {as:List T} (g:Wlk (.node t::cs,s) n c e):∀ {k:Nat},as.length=k→Wlk (.node (HX k t)::cs,as++s) (n+k) (c+k) e:=by
 intro k hk
 induction as generalizing k with
 | nil=>cases hk; exact g
 | cons a as ih=>cases hk; exact su (ih rfl)
theorem ag9 {l:T}{w:T}{ts st:List T} (g:Wlk (.node t::cs,.node (w::ts)::.node (l::st)::us) n c e):Wlk (.node (aa6 t)::cs,l::w::.node ts::.node st::us) (n+7) (c+7) e :=
 eF (eF (bZ (eF (eF (bZ (fj g))))))
theorem aec {l w:T}{ts st:List T} (g:Wlk (.node t::cs,ats st 0::.node (st.drop 1)::.node (w::ts)::us) n c e):Wlk (.node (QX t)::cs,l::w::.node ts::.node st::us) (n+4) (c+4) e :=
 su (bZ (fj (pH g)))
theorem w_top {l w:T}{ts st:List T} (g:Wlk (.node t::cs,ats st 0::.node (st.drop 1)::.node (w::ts)::l::us) n c e):Wlk (.node (QV t)::cs,l::w::.node ts::.node st::us) (n+5) (c+5) e :=
 eF (eF (bZ (eF (pH g))))
def jQ:Nat→List T→List T
 | 1,s=>s.drop 1
 | 2,s=>ats s 0::ats s 0::s.drop 1
 | 3,s=>ats (s.drop 1) 0::ats s 0::s.drop 2
 | 4,s=>.node (ats s 0::(ats (s.drop 1) 0).kids)::s.drop 2
 | 5,s=>ats (ats s 0).kids 0::.node ((ats s 0).kids.drop 1)::s.drop 1
 | 6,s=>ats (s.drop 2) 0::ats s 0::ats (s.drop 1) 0::s.drop 3
 | _,s=>s
theorem zp (k:Nat) (g:Wlk (cs,s) n c e):Wlk (List.replicate k (.node [])++cs,s) (n+k) (c+k) e:=by
 induction k with
 | zero=>exact g
 | succ k ih=>exact fu ih
theorem aat {α:Type} (x:α) (k:Nat) (l:List α):List.replicate k x++x::l=List.replicate (k+1) x++l:=by
 induction k with
 | zero=>rfl
 | succ k ih=>rw [List.replicate_succ,List.cons_append,ih]; rfl
theorem D_ {fs:List T}{d:Nat}:∀ {as cs s:List T},Wlk (.node (cB d)::(List.replicate as.length (.node [])++cs),.node fs::(as.reverse++s)) n c e →
  Wlk (.node (cB (as.length+d))::cs,.node (as++fs)::s) (n+3 * as.length) (c+3 * as.length) e:=by
 intro as
 induction as with
 | nil=>intro cs s g; rw [List.length_nil,Nat.zero_add]; exact g
 | cons a as ih =>
  intro cs s g
  have g':Wlk (.node (cB d)::(List.replicate as.length (.node [])++.node []::cs),.node fs::(as.reverse++a::s)) n c e:=by
   rw [aat]
   rw [List.reverse_cons,List.append_assoc] at g
   exact g
  rw [List.length_cons,show as.length+1+d=as.length+d+1 by lia]
  exact (J7 (yes:=W 5::W 3::cB (as.length+d)) (a:=.node (a::(as++fs))) (by simp [T.kids]) (pR (fj (ih g')))).to (by lia) (by lia)
theorem acB:∀ {as fs s:List T},Wlk (.node t::cs,.node (as.reverse++fs)::s) n c e→Wlk (.node (J_ as.length t)::cs,.node fs::(as++s)) (n+2 * as.length) (c+2 * as.length) e:=by
 intro as
 induction as with
 | nil=>intro fs s g; exact g
 | cons a as ih =>
  intro fs s g
  rw [List.reverse_cons,List.append_assoc] at g
  exact (fj (bZ (ih g))).to (by rw [List.length_cons]; lia) (by rw [List.length_cons]; lia)
def resT (as l xs ts st:List T):List T×List T :=
 if as.length=0 then (.node xs::ts,.node l::st)
 else if as.length≤6 then (.node xs::ts,jQ as.length st)
 else if as.length=7 then if (ats st 0).kids≠[] then (ats l 0::.node xs::ts,ats st 0::st.drop 1) else (.node (l.drop 1)::.node xs::ts,ats st 0::st.drop 1)
 else if as.length=8 then if (ats st 0).kids≠[] then (.node l::.node (.node (.node as::l)::xs)::ts,ats st 0::st.drop 1) else (.node xs::ts,ats st 0::st.drop 1)
 else (.node xs::ts,st)
def ig (tx s:List T):Nat:=match (ats tx 0).kids with
 | []=>0
 | w::_=>if aB w=2 then (ats s 0).parts else if aB w=8∧(ats s 0).kids≠[] then (aZ w).parts else 0
theorem Mz (s:List T):pad s 1=ats s 0::s.drop 1:=by
 cases s with
 | nil=>rfl
 | cons a s=>rw [dj (by simp)]; rfl
theorem Eo {w:T}{k:Nat} (h1:1≤k) (h6:k≤6) (h:aB w=k):behind w s=jQ k s:=by
 rcases (by lia:k=1∨k=2∨k=3∨k=4∨k=5∨k=6) with rfl | rfl | rfl | rfl | rfl | rfl
 ·rw [Yt h,Mz]; rfl
 ·rw [Ys h,Mz]; rfl
 ·rw [Yr h]
  match s with
  | []=>rfl
  | [a]=>rfl
  | a::b::s=>rw [dj (by simp)]; rfl
 ·rw [Yq h]
  match s with
  | []=>rfl
  | [a]=>rfl
  | a::b::s=>rw [dj (by simp)]; rfl
 ·rw [Tr h,Mz]; rfl
 ·rw [Yp h]
  match s with
  | []=>rfl
  | [a]=>rfl
  | [a,b]=>rfl
  | a::b::d::s=>rw [dj (by simp)]; rfl
theorem gG {w:T}{ws ts:List T}:onward (.node (w::ws)::ts) s =
  if aB w=7 then
   if (ats s 0).kids≠[] then (ats (w.kids.drop 1) 0::.node ws::ts,behind w s,7) else (.node (w.kids.drop 2)::.node ws::ts,behind w s,8)
  else if aB w=8 then
   if (ats s 0).kids≠[] then (aZ w::.node (w::ws)::ts,behind w s,9) else (.node ws::ts,behind w s,10)
  else if aB w=9 then (.node ws::ts,behind w s,11)
  else (.node ws::ts,behind w s,aB w):=rfl
theorem ac3 {as l xs ts:List T}:((onward (.node (.node (.node as::l)::xs)::ts) s).1,(onward (.node (.node (.node as::l)::xs)::ts) s).2.1)=resT as l xs ts s:=by
 have hs:aB (.node (.node as::l))=min 9 as.length:=rfl
 rw [gG]
 unfold resT
 rw [hs]
 by_cases h0:as.length=0
 ·rw [if_neg (by lia),if_neg (by lia),if_neg (by lia),if_pos h0,Gy (by rw [hs]; lia)]; rfl
 rw [if_neg h0]
 by_cases h6:as.length≤6
 ·rw [if_neg (by lia),if_neg (by lia),if_neg (by lia),if_pos h6,Eo (k:=as.length) (by lia) h6 (by rw [hs]; lia)]
 rw [if_neg h6]
 by_cases h7:as.length=7
 ·rw [if_pos (by lia),if_pos h7,j6 (by rw [hs]; lia),hs,show min 9 as.length=7 by lia,show many 7=1 from rfl,Mz]
  split <;> rfl
 rw [if_neg h7]
 by_cases h8:as.length=8
 ·rw [if_neg (by lia),if_pos (by lia),if_pos h8,j6 (by rw [hs]; lia),hs,show min 9 as.length=8 by lia,show many 8=1 from rfl,Mz]
  split <;> rfl
 ·rw [if_neg (by lia),if_neg (by lia),if_pos (by lia),if_neg h8,j6 (by rw [hs]; lia),hs,show min 9 as.length=9 by lia,show many 9=0 from rfl,dj (Nat.zero_le _)]
theorem res_none {xs ts:List T}:((onward (.node (.node []::xs)::ts) s).1,(onward (.node (.node []::xs)::ts) s).2.1)=resT [] [] xs ts s:=by
 unfold onward
 simp only [ats,T.kids,List.getElem?_cons_zero,Option.getD_some,List.drop_succ_cons,List.drop_zero]
 rw [Gy rfl]
 rfl
theorem Gg {tx:List T} (h:tx≠[]):nx (.node bU::cs,.node tx::s)=(.node jG::.node bU::cs,.node tx::s):=by
 unfold nx
 rw [show bU=je 8 jG::[W 1,W 5,W 3,W 1] from rfl,gG,if_neg (by show 8≠7; decide),if_pos (by rfl),if_pos (by exact h),j6 (by show 6<8; decide),dj (by show 1≤_; simp)]
 rfl
theorem R_:nx (.node bU::cs,.node []::s)=(.node [W 1,W 5,W 3,W 1]::cs,.node []::s):=by
 unfold nx
 rw [show bU=je 8 jG::[W 1,W 5,W 3,W 1] from rfl,gG,if_neg (by show 8≠7; decide),if_pos (by rfl),if_neg (by exact fun z=>z rfl),j6 (by show 6<8; decide),dj (by show 1≤_; simp)]
theorem XD {st:List T}:Wlk (nx (.node bU::cs,.node []::.node st::us)) 5 5 (cs,ats st 0::us):=by
 rw [R_]
 exact su (pH (fj (su (fu .nil))))
theorem aeZ {x:T}{its:List T}:Wlk (nx (.node dh::cs,.node (x::its)::us)) 6 6 (.node bU::cs,.node [x]::.node [.node its]::us):=by
 have e:nx (.node dh::cs,.node (x::its)::us)=(.node (je 0 []::W 6::W 4::je 0 []::W 6::W 4::bU)::cs,x::.node its::us):=by
  rw [show dh=W 5::je 0 []::W 6::W 4::je 0 []::W 6::W 4::bU from rfl,gY (by show 5≤6; decide),Tr rfl,dj (by simp)]
  rfl
 rw [e]
 exact Vo (eF (bZ (Vo (eF (bZ .nil)))))
end
def wt (st:Std):Nat:=T.aH st.1+T.aH st.2
theorem vX (k:Nat) (s:List T):T.aH (s.drop k)≤T.aH s:=by
 have e:=T.b_ (s.take k) (s.drop k)
 rw [List.take_append_drop] at e
 lia
theorem Fy (s:List T) (k:Nat):(ats s k).parts≤T.aH s+1:=by
 induction s generalizing k with
 | nil=>unfold ats leaf; rw [List.getElem?_nil,Option.getD_none,T.aN,T.aY]; lia
 | cons a s ih =>
  rw [T.aF]
  cases k with
  | zero=>show a.parts≤_; lia
  | succ k=>have:=ih k; have:=T.gC a; show (ats s k).parts≤_; lia
theorem uV (w:T):(aZ w).parts≤w.parts:=by
 have:=vX 1 w.kids
 unfold aZ
 rw [T.aN,T.cI w]
 lia
theorem aj5 {k:Nat} (h1:1≤k) (h6:k≤6) (s:List T):T.aH (jQ k s)≤T.aH s+(if k=2 then (ats s 0).parts+1 else 3):=by
 have hl:leaf.parts=1:=by unfold leaf; rw [T.aN,T.aY]
 have hk:leaf.kids=[]:=rfl
 have hn:(T.node []).parts=1:=by rw [T.aN,T.aY]
 have e0:∀ s:List T,ats s 0=match s with | []=>leaf | a::_=>a:=fun s=>by cases s <;> rfl
 rcases (by lia:k=1∨k=2∨k=3∨k=4∨k=5∨k=6) with rfl | rfl | rfl | rfl | rfl | rfl
 ·have:=vX 1 s; rw [if_neg (by decide)]; show T.aH (s.drop 1)≤_; lia
 ·rw [if_pos rfl]
  match s with
  | []=>simp only [jQ,e0,List.drop_nil,T.aF,T.aY,hl]; lia
  | a::s=>simp only [jQ,e0,List.drop_succ_cons,List.drop_zero,T.aF]; lia
 ·rw [if_neg (by decide)]
  match s with
  | []=>simp only [jQ,e0,List.drop_nil,T.aF,T.aY,hl]; lia
  | [a]=>simp only [jQ,e0,List.drop_succ_cons,List.drop_zero,List.drop_nil,T.aF,T.aY,hl]; lia
  | a::b::s=>simp only [jQ,e0,List.drop_succ_cons,List.drop_zero,T.aF]; lia
 ·rw [if_neg (by decide)]
  match s with
  | []=>simp only [jQ,e0,List.drop_nil,T.aF,T.aY,hl,hk,T.aN]; lia
  | [a]=>simp only [jQ,e0,List.drop_succ_cons,List.drop_zero,List.drop_nil,T.aF,T.aY,hk,T.aN]; lia
  | a::b::s=>simp only [jQ,e0,List.drop_succ_cons,List.drop_zero,T.aF,T.aN]; have:=T.cI b; lia
 ·rw [if_neg (by decide)]
  match s with
  | []=>simp only [jQ,e0,List.drop_nil,T.aF,T.aY,hl,hk,T.aN]; lia
  | .node []::s=>simp only [jQ,e0,T.kids,List.drop_succ_cons,List.drop_zero,List.drop_nil,T.aF,T.aY,hl,T.aN]; lia
  | .node (a::b)::s=>simp only [jQ,e0,T.kids,List.drop_succ_cons,List.drop_zero,T.aF,T.aN]; lia
 ·rw [if_neg (by decide)]
  match s with
  | []=>simp only [jQ,e0,List.drop_nil,T.aF,T.aY,hl]; lia
  | [a]=>simp only [jQ,e0,List.drop_succ_cons,List.drop_zero,List.drop_nil,T.aF,T.aY,hl]; lia
  | [a,b]=>simp only [jQ,e0,List.drop_succ_cons,List.drop_zero,List.drop_nil,T.aF,T.aY,hl]; lia
  | a::b::d::s=>simp only [jQ,e0,List.drop_succ_cons,List.drop_zero,T.aF]; lia
theorem aj4 (s:List T) (n:Nat):T.aH (pad s n)≤T.aH s+n:=by
 have:∀ k,T.aH (List.replicate k leaf)=k:=fun k=>by
  induction k with
  | zero=>rw [List.replicate_zero,T.aY]
  | succ k ih=>rw [List.replicate_succ,T.aF,ih,leaf,T.aN,T.aY]; lia
 unfold pad
 rw [T.b_,this]
 lia
theorem zW (w:T) (s:List T):T.aH (behind w s)≤T.aH s+(if aB w=2 then (ats s 0).parts+1 else 3)+(if aB w=0 then (aZ w).parts else 0):=by
 by_cases h0:aB w=0
 ·rw [Gy h0,T.aF,if_pos h0,if_neg (by lia)]; lia
 by_cases h6:aB w≤6
 ·rw [Eo (k:=aB w) (by lia) h6 rfl]
  have:=aj5 (k:=aB w) (by lia) h6 s
  lia
 ·have h9:=vR w
  have h3:∀ k,k≤9→many k≤3:=by decide
  have:=h3 _ h9
  rw [j6 (by lia),if_neg (by lia)]
  have:=aj4 s (many (aB w))
  lia
theorem BL (w:T) (ws ts s:List T) :
  T.aH (onward (.node (w::ws)::ts) s).1≤T.aH (.node (w::ws)::ts)+(if aB w=8 then (aZ w).parts else 0) ∧
  (aB w=0→T.aH (onward (.node (w::ws)::ts) s).1+w.parts≤T.aH (.node (w::ws)::ts))∧(onward (.node (w::ws)::ts) s).2.1=behind w s:=by
 have hw:=T.gC w
 have hl:=uV w
 rw [gG]
 by_cases h7:aB w=7
 ·rw [if_pos h7,if_neg (show ¬ aB w=8 by lia)]
  refine⟨?_,fun z=>absurd z (by lia),by split <;> rfl⟩
  split
  ·have:=Fy (w.kids.drop 1) 0
   have:=vX 1 w.kids
   have:=T.cI w
   show T.aH (_::_::_)≤_
   simp only [T.aF,T.aN]
   lia
  ·have:=vX 2 w.kids
   have:=T.cI w
   show T.aH (_::_::_)≤_
   simp only [T.aF,T.aN]
   lia
 rw [if_neg h7]
 by_cases h8:aB w=8
 ·rw [if_pos h8,if_pos h8]
  refine⟨?_,fun z=>absurd z (by lia),by split <;> rfl⟩
  split
  ·show T.aH (_::_::_)≤_
   simp only [T.aF,T.aN]
   lia
  ·show T.aH (_::_)≤_
   simp only [T.aF,T.aN]
   lia
 rw [if_neg h8,if_neg h8]
 have e:T.aH (.node ws::ts)+w.parts=T.aH (.node (w::ws)::ts):=by simp only [T.aF,T.aN]; lia
 split
 ·exact⟨by show T.aH (.node ws::ts)≤_; lia,fun _=>by show T.aH (.node ws::ts)+_≤_; lia,rfl⟩
 ·exact⟨by show T.aH (.node ws::ts)≤_; lia,fun _=>by show T.aH (.node ws::ts)+_≤_; lia,rfl⟩
theorem agp {tx s:List T} (h:(ats tx 0).kids=[]):onward tx s=(tx.drop 1,s,12):=by unfold onward; rw [h]
theorem aa2 {st:Std} (h:xT st):wt (nx st)≤wt st+3 * jf st:=by
 obtain⟨tx,s⟩:=st
 match tx with
 | [] =>
  show T.aH []+T.aH s≤T.aH []+T.aH s+_
  lia
 | .node []::ts =>
  show T.aH ts+T.aH s≤T.aH (.node []::ts)+T.aH s+_
  rw [T.aF]
  lia
 | .node (w::ws)::ts =>
  have h8:aB w≠8:=h
  obtain⟨b1,b2,b3⟩:=BL w ws ts s
  have b4:=zW w s
  have hl:=uV w
  rw [if_neg h8] at b1
  have hc:jf (.node (w::ws)::ts,s)=if aB w=2 then (ats s 0).parts else 1:=rfl
  have hp:=T.gC (ats s 0)
  show T.aH (onward (.node (w::ws)::ts) s).1+T.aH (onward (.node (w::ws)::ts) s).2.1≤T.aH (.node (w::ws)::ts)+T.aH s+3 * jf (.node (w::ws)::ts,s)
  rw [hc,b3]
  by_cases h2:aB w=2
  ·rw [if_pos h2,if_neg (by lia)] at b4
   rw [if_pos h2]
   lia
  ·rw [if_neg h2] at b4
   rw [if_neg h2]
   by_cases h0:aB w=0
   ·have:=b2 h0
    rw [if_pos h0] at b4
    lia
   ·rw [if_neg h0] at b4
    lia
def Wds (M:Nat) (tx:List T):Prop:=∀ t∈tx,∀ w∈t.kids,w.parts≤M
theorem Wds.next {M:Nat}{tx s:List T} (h:Wds M tx):Wds M (onward tx s).1∧T.aH (onward tx s).1≤T.aH tx+M∧T.aH (onward tx s).2.1≤2 * T.aH s+M+4:=by
 match tx with
 | []=>exact⟨h,by show T.aH []≤_; lia,by show T.aH s≤_; lia⟩
 | .node []::ts=>exact⟨fun t ht=>h t (List.mem_cons_of_mem _ ht),by show T.aH ts≤_; rw [T.aF]; lia,by show T.aH s≤_; lia⟩
 | .node (w::ws)::ts =>
  have hw:w.parts≤M:=h _ List.mem_cons_self w List.mem_cons_self
  obtain⟨b1,b2,b3⟩:=BL w ws ts s
  have b4:=zW w s
  have hl:=uV w
  have pa:=Fy s 0
  refine⟨?_,by split at b1 <;> lia,by rw [b3]; split at b4 <;> split at b4 <;> lia⟩
  have hin:∀ {us:List T}{k:Nat}{v:T},v∈w.kids.drop k→v.parts≤M:=fun {us k v} hv=>by
   have:=T.jd (List.mem_of_mem_drop hv)
   rw [T.cI w] at hw
   lia
  have hws:∀ v∈ws,v.parts≤M:=fun v hv=>h _ List.mem_cons_self v (List.mem_cons_of_mem _ hv)
  have hts:Wds M ts:=fun t ht=>h t (List.mem_cons_of_mem _ ht)
  have Vw:∀ {a:T}{us:List T},(∀ v∈a.kids,v.parts≤M)→Wds M us→Wds M (a::us):=fun {a us} ha hus t ht=>by
   rcases List.mem_cons.mp ht with rfl | z
   ·exact ha
   ·exact hus t z
  have hr:Wds M (.node ws::ts):=Vw hws hts
  rw [gG]
  split
  ·split
   ·refine Vw (fun v hv=>?_) hr
    have h1:=Fy (w.kids.drop 1) 0
    have h2:=vX 1 w.kids
    have h3:=T.jd hv
    rw [T.cI w] at hw
    rw [T.cI (ats (w.kids.drop 1) 0)] at h1
    lia
   ·exact Vw (fun v hv=>hin (us:=[]) hv) hr
  split
  ·split
   ·exact Vw (fun v hv=>hin (us:=[]) hv) h
   ·exact hr
  split
  ·exact hr
  ·exact hr
def stN:Nat→Std→Std
 | 0,s=>s
 | n+1,s=>nx (stN n s)
theorem jP (n:Nat) (s:Std):stN (n+1) s=stN n (nx s):=by
 induction n with
 | zero=>rfl
 | succ n ih=>show nx (stN (n+1) s)=nx (stN n (nx s)); rw [ih]
theorem Q0 (m n:Nat) (s:Std):stN (m+n) s=stN n (stN m s):=by
 induction n with
 | zero=>rfl
 | succ n ih=>show nx (stN (m+n) s)=nx (stN n (stN m s)); rw [ih]
def iy (a:Nat) (st:Std):Prop:=(T.node st.1).deep≤a∧(T.node st.2).deep≤a
theorem iy.le {a b:Nat}{st:Std} (h:iy a st) (hab:a≤b):iy b st:=⟨Nat.le_trans h.1 hab,Nat.le_trans h.2 hab⟩
theorem Vy {a:Nat}{st:Std} (ha:1≤a) (h:iy a st):iy (a+2) (nx st):=by
 obtain⟨h1,h2⟩:=h
 have hb1:(T.node st.1).parts≤(T.node st.1).parts+(T.node st.2).parts:=by lia
 have hb2:(T.node st.2).parts≤(T.node st.1).parts+(T.node st.2).parts:=by lia
 have:=afp (tx:=st.1) (s:=st.2) ha ⟨h1,hb1⟩ ⟨h2,hb2⟩
 exact⟨this.1.1,this.2.1⟩
theorem afL {a:Nat}{st:Std} (ha:1≤a) (h:iy a st):∀ n,iy (a+2 * n) (stN n st)
 | 0=>h
 | n+1=>Vy (a:=a+2 * n) (by lia) (afL ha h n)
def uJ (N:Nat) (st:Std):Prop:=∀ i,i≤N→iy 100 (stN i st)∧wt (stN i st)≤1400000
theorem XH (tx s:List T):ig tx s≤wt (tx,s)+1:=by
 have h1:=Fy s 0
 unfold ig
 show _≤T.aH tx+T.aH s+1
 split
 ·lia
 ·rename_i w ws e
  split
  ·lia
  split
  ·have h2:=uV w
   have h3:w.parts≤T.aH tx+1:=by
    have h4:=Fy tx 0
    rw [T.cI,e,T.aF] at h4
    lia
   lia
  ·lia
def headOf (st:Std):Std:=([.node bU],[.node st.1,.node st.2])
theorem NT:(T.node jG).parts+(T.node bU).parts≤4000:=by decide +kernel
theorem Sd:(T.node jG).deep≤90∧(T.node bU).deep≤90:=by decide +kernel
theorem abe:(T.node dh).parts≤4000∧(T.node dh).deep≤90:=by decide +kernel
def zY (st:Std):Prop:=(T.node st.1).deep≤390∧(T.node st.2).deep≤390∧wt st≤7900000
def Ready (room:Nat) (st e:Std):Prop:=st.1≠[]∧zY st∧∃ n c,Wlk (nx st) n c e∧n≤110∧jf st+c≤room∧iy 150 (nx st)∧wt (nx st)+3 * c≤7900000
theorem Kl (l:List T):T.aH [.node l]=1+T.aH l:=by rw [T.aF,T.aN,T.aY]; lia
theorem ab0 (l:List T):(T.node [.node l]).deep=T.bD l+1:=by rw [T.aR,T.aU,T.aR,T.cU]; lia
theorem akc (a b:List T):(T.node [.node a,.node b]).deep=max (T.bD a+1) (T.bD b+1):=by rw [T.aR,T.aU,T.aU,T.aR,T.aR,T.cU]; lia
theorem sY (k:Nat) (ts:List T):T.bD (ts.drop k)≤T.bD ts:=by
 have e:=T.iT (ts.take k) (ts.drop k)
 rw [List.take_append_drop] at e
 lia
theorem qm (ts:List T) (k:Nat) {a:Nat} (h:T.bD ts≤a):(ats ts k).deep≤a - 1:=by
 by_cases hk:k<ts.length
 ·have:=T.nP (Yy hk)
  lia
 ·unfold ats leaf
  rw [List.getElem?_eq_none (by lia),Option.getD_none,T.aR,T.cU]
  lia
theorem Vz (s:List T) (n:Nat) {a:Nat} (ha:1≤a) (h:T.bD s≤a):T.bD (pad s n)≤a:=by
 unfold pad
 rw [T.iT]
 have:∀ k,T.bD (List.replicate k leaf)≤1:=fun k=>by
  induction k with
  | zero=>rw [List.replicate_zero,T.cU]; lia
  | succ k ih=>have hl:leaf.deep=0:=by { unfold leaf; rw [T.aR,T.cU] };rw [List.replicate_succ,T.aU]; lia
 have:=this (n - s.length)
 lia
theorem ae_ {a:Nat}{w:T}{s:List T} (ha:2≤a) (hw:w.deep+1≤a) (hs:T.bD s≤a):T.bD (behind w s)≤a+1:=by
 have hk:∀ t:T,T.bD t.kids=t.deep:=fun t=>(T.Jj t).symm
 have hl:(aZ w).deep≤w.deep:=by unfold aZ; rw [T.aR,T.Jj w]; exact sY 1 _
 unfold behind
 have p1:=Vz s 1 (by lia) hs
 have p2:=Vz s 2 (by lia) hs
 have p3:=Vz s 3 (by lia) hs
 split
 ·rw [T.aU]; lia
 split
 ·have:=Vz s (many (aB w)) (by lia) hs; lia
 split
 ·have:=sY 1 (pad s 1); lia
 split
 ·have:=sY 1 (pad s 1); have:=qm _ 0 p1; rw [T.aU,T.aU]; lia
 split
 ·have:=sY 2 (pad s 2); have:=qm _ 0 p2; have:=qm _ 1 p2; rw [T.aU,T.aU]; lia
 split
 ·have:=sY 2 (pad s 2)
  have:=qm _ 0 p2
  have:=qm _ 1 p2
  have:=hk (ats (pad s 2) 1)
  rw [T.aU,T.aR,T.aU]
  lia
 split
 ·have:=sY 1 (pad s 1)
  have h0:=qm _ 0 p1
  have:=hk (ats (pad s 1) 0)
  have h1:=qm (ats (pad s 1) 0).kids 0 (a:=a - 1) (by lia)
  have:=sY 1 (ats (pad s 1) 0).kids
  rw [T.aU,T.aU,T.aR]
  lia
 ·have:=sY 3 (pad s 3)
  have:=qm _ 0 p3
  have:=qm _ 1 p3
  have:=qm _ 2 p3
  rw [T.aU,T.aU,T.aU]
  lia
theorem aiz {a:Nat}{st:Std} (ha:4≤a) (h:iy a st):iy (a+1) (nx st):=by
 obtain⟨tx,s⟩:=st
 obtain⟨h1,h2⟩:=h
 have h1:(T.node tx).deep≤a:=h1
 have h2:(T.node s).deep≤a:=h2
 rw [T.aR] at h1 h2
 have goal:T.bD (onward tx s).1≤a+1∧T.bD (onward tx s).2.1≤a+1:=by
  match tx with
  | []=>exact⟨by show T.bD []≤_; rw [T.cU]; lia,by show T.bD s≤_; lia⟩
  | .node []::ts=>exact⟨by show T.bD ts≤_; rw [T.aU] at h1; lia,by show T.bD s≤_; lia⟩
  | .node (w::ws)::ts =>
   rw [T.aU,T.aR,T.aU] at h1
   have hb:T.bD (behind w s)≤a+1:=ae_ (by lia) (by lia) h2
   have hk:=T.Jj w
   have k1:=sY 1 w.kids
   have k2:=sY 2 w.kids
   have k3:=qm (w.kids.drop 1) 0 (a:=a) (by lia)
   have hr:T.bD (.node ws::ts)≤a:=by rw [T.aU,T.aR]; lia
   rw [gG]
   split
   ·split
    ·exact⟨by show T.bD (_::.node ws::ts)≤_; rw [T.aU]; lia,hb⟩
    ·exact⟨by show T.bD (_::.node ws::ts)≤_; rw [T.aU,T.aR]; lia,hb⟩
   split
   ·split
    ·refine⟨?_,hb⟩
     show T.bD (aZ w::.node (w::ws)::ts)≤_
     unfold aZ
     rw [T.aU,T.aR,T.aU,T.aR,T.aU]; lia
    ·exact⟨Nat.le_succ_of_le hr,hb⟩
   split
   ·exact⟨Nat.le_succ_of_le hr,hb⟩
   ·exact⟨Nat.le_succ_of_le hr,hb⟩
 exact⟨by show (T.node (onward tx s).1).deep≤_; rw [T.aR]; exact goal.1,by show (T.node (onward tx s).2.1).deep≤_; rw [T.aR]; exact goal.2⟩
end Sw
namespace PySem
open Builtin Builtin.Str
section
variable {prog:Program}{w:World}{A:Around}{E:Value→Shared→Prop}{s:Shared}{x:Str}{t:Tok}{Q:Value→Shared→Prop}
theorem aeg (q:∀ (l:List (Str×Tok)) (k:Nat),l.map (·.1)=Txt.words x→Q (.ref s.heap.objs.size) { s with toks:=k,heap:=s.heap.push { cls:=.type "list",data:=.seq (strValues l).toArray } })
  (z1:x.length≤sizeLine) (z2:(spaceWords x (x.length+1)).length≤sizeLine):wpAny (model prog w) A (call (.builtin "str.split") [.str x t]) Q E s:=by
 refine call_meets F.slot_str_split (typeIs_str _ _ _) F.entry_str_split (F.args_str_split_1 _) (meets_str_split_space x t z1 z2) ?_
 cases hw:spaceWords x (x.length+1) == [(0,x.length)]
 ·simp only [Bool.false_eq_true,if_false]; rw [strsFrom_eq]
  exact q (numbered s.toks (wordsOf x)) _ ((numbered_texts _ _).trans (if_neg (ne_true_of_eq_false hw)).symm)
 ·simp only [if_true]; exact q [(x,t)] s.toks (if_pos hw).symm
end
section
variable {prog:Program}{w:World}{A:Around}{E:Value→Shared→Prop}{s:Shared}
theorem aa9:isSubtype (.type "range_iterator") (.type "reversed")=pure false:=by rw [isSubtype_type]; kernel_rfl
def wA:Obj:={ cls:=.type "range_iterator",data:=.fields #[rawInt 7,rawInt 8,rawInt (-1)] }
theorem abW (r:Addr) (t u v:Tok):Meets (Builtin.«range.__reversed__» ⟨[.ref r],[]⟩) (fun _ R s=>IsRange s.heap r 0 8 1 t u v∧R (.ok (.ret (.ref s.heap.objs.size))) { s with heap:=s.heap.push wA }) :=
 .of_wp fun prog w A R s h=>by obtain⟨hp,g,d,tk,os⟩:=s; obtain⟨hl,h⟩:=h; wp_walk; exact⟨_,rfl,h⟩
theorem Tp {r:Addr}{t u v:Tok}{Q₁:Value→Shared→Prop} (hr:IsRange s.heap r 0 8 1 t u v) (h:Q₁ (.ref s.heap.objs.size) { s with heap:=s.heap.push wA }) :
  codeAny (model prog w) A (.call (.builtin "reversed.__new__") ⟨[.type "reversed",.ref r],[]⟩) (wants Q₁ E) s:=by
 have hT:s.TypeIs (.ref r) "range":=⟨_,hr,rfl⟩
 refine codeAny_of_tree (show wpAny _ A.in1 (do checkBuiltinCall "reversed.__new__" ⟨[.type "reversed",.ref r],[]⟩; again (.builtin "reversed.__new__" ⟨[.type "reversed",.ref r],[]⟩)) _ _ s from ?_)
 refine wpAny_bind (wpAny_of_eq (F.newCall_reversed_1 _) (wpAny_pure ⟨plainId_quiet F.plain_reversed_new _,codeAny_builtin F.entry_reversed_new ?_⟩)); rw [Around.under_plainId F.plain_reversed_new _]; unfold Builtin.«reversed.__new__»
 refine wpAny_bind (wpAny_of_eq (newClass_reversed _) ?_); try dsimp only
 refine wpAny_bind (wpAny_of_eq (a:=()) (by first | rfl | kernel_rfl) ?_); refine wpAny_bind (wpAny_of_eq (a:=()) (by first | rfl | kernel_rfl) ?_); try dsimp only
 refine wpAny_bind (wpAny_specialOf hT F.slot_range_reversed.lookup ?_); try dsimp only
 refine wpAny_bind (wpAny_of_eq (F.slot_range_reversed.bind _) ?_); try dsimp only
 first
 | rw [if_neg (show ¬ ((Value.builtin "range.__reversed__" == Value.none)=true) from Bool.false_ne_true)]
 | (show wpAny _ _ (if (Value.builtin "range.__reversed__" == Value.none)=true then _ else _) _ _ _; rw [if_neg (show ¬ ((Value.builtin "range.__reversed__" == Value.none)=true) from Bool.false_ne_true)])
 refine wpAny_bind (wpAny_rule ?_); refine wpAny_bind (m:=runValue (.call (.builtin "range.__reversed__") ⟨[.ref r],[]⟩)) (show wpAny _ _ (call (.builtin "range.__reversed__") [.ref r]) _ _ _ from call_meets F.slot_range_reversed hT F.entry_range_reversed (F.args_range_reversed_1 _) (abW r t u v) ⟨hr,?_⟩)
 first
 | exact wpAny_pure h
 | exact wpAny_bind (wpAny_pure (wpAny_pure h))
theorem Tq {r:Addr}{t u v:Tok}{Q:Value→Shared→Prop} (hr:IsRange s.heap r 0 8 1 t u v) (h:Q (.ref s.heap.objs.size) { s with heap:=s.heap.push wA }) :
  wpAny (model prog w) A (call (.type "reversed") [.ref r]) Q E s:=by
 refine callType_other (U:="range_iterator") (Q₁:=fun obj s₁=>obj=.ref s.heap.objs.size∧s₁={ s with heap:=s.heap.push wA }) (by decide +kernel) F.create_reversed ⟨_,_,F.mro_reversed⟩ F.made_reversed aa9 (F.typeCall_reversed_1 _) (Tp hr ⟨rfl,rfl⟩) ?_
 rintro obj s₁ ⟨rfl,rfl⟩
 exact⟨⟨_,Heap.get?_push_size _ rfl,rfl⟩,h⟩
end
end PySem
namespace Sw
open PySem PySem.Spec PyProof.Rows L2 SwR
section
variable {X:Cx}
theorem Z_:∀ {l:List (Str×Tok)}{zs:List Str},l.map (·.1)=zs→Vals (zs.map V.str) (strValues l)
 | [],_,h=>by cases h; exact .nil
 | (z,t)::l,_,h=>by cases h; exact .cons ⟨t,rfl⟩ (Z_ rfl)
def af4:V→List V→Hp→VK→Prop:=fun x vs H Q=>∃ z:Str,x=.str z∧vs=[]∧z.length≤1000∧(Builtin.Str.spaceWords z (z.length+1)).length≤1000∧(Txt.words z).length≤1000 ∧
 ∀ D,H D=none→Q (.ref D) (upd H D (.lst ((Txt.words z).map V.str)))
theorem adp:MtM X "str.split" af4:=by
 intro pins s σ H x vs v us Q I rx rv h
 obtain⟨z,rfl,rfl,hl,hw,hw2,q⟩:=h
 obtain⟨t,rfl⟩:=rx
 cases rv
 refine aeg (fun ll k e=>?_) (Nat.le_trans hl (by decide)) (Nat.le_trans hw (by decide))
 have hn:H s.heap.objs.size=none:=I.hok.fresh (Nat.le_refl _)
 have I2:=I.lnew (ys:=(Txt.words z).map V.str) (its:=strValues ll) (t':=k) (Z_ e) (by rw [List.length_map]; exact Nat.le_trans hw2 (by decide))
 exact⟨.ref s.heap.objs.size,_,I2,rfl,q _ hn⟩
def Itd:It:=⟨fun i _=>i<8,fun i H x H'=>H'=H∧x=.int (7 - i),fun i _=>8≤i⟩
theorem acF {P:Program}{w:World}{K:PySem.W.Frag}{tg:Expr} (it:Addr):Turn P w K tg Itd [it] it (fun i h=>IsRangeIter h it (7+(i:Nat) * (-1)) ((8:Nat) - (i:Nat)) (-1)) where
 mem:=by simp
 obj:=fun i h st b hb=>by
  have e:b=it:=by simpa using hb
  subst e
  exact⟨_,st,fun v z=>by have z':Data.fields _=Data.cell v:=z; cases z'⟩
 keep:=fun i h h' st k=>k it (by simp) _ st
 item:=by
  intro X hP hw hK hc i pins s σ H E I hf st hg
  subst hP hw hK
  obtain⟨f0,f1,f2,f3,f4,f5⟩:=hf it (by simp)
  have W:=Walks.range (prog:=X.prog) (w:=X.w) (I.ok.hd hc) it 7 (-1) 8
  refine W.item i s _ _ hg st fun v h' tk hv st' kk=>?_
  obtain⟨t,rfl⟩:=hv
  have I1:Inv X pins σ H { s with heap:=h',toks:=tk }:=I.turned (fun b o hb e=>kk b o (by simpa using hb) e) f0 f1 f3 f4 f5
  refine⟨_,rfl,go_of (s:={ s with heap:=h',toks:=tk }) (n:="range_iterator") st' rfl rfl (by decide) ⟨.int (7 - i),H,I1,⟨t,by rw [show (7:Int)+(i:Int) * -1=7 - i by lia]⟩,⟨rfl,rfl⟩,st',fun b hb=>(hf b hb).1⟩⟩
 done:=by
  intro X hP hw hK hc i pins s σ H E I hf st hg
  subst hP hw hK
  obtain⟨f0,f1,f2,f3,f4,f5⟩:=hf it (by simp)
  exact wpAny_pyNext_range_end (I.ok.hd hc) st (by have:8≤i:=hg; lia) fun h' eb=>⟨rfl,I.turned (t':=s.toks) (fun b o hb e=>eb b o hb e) f0 f1 f3 f4 f5⟩
 self:=fun _ _ _ _ _ st h=>wpAny_pyIter_rangeiter st h
def afI (ta:TA):TI:=fun σ H R=>ta σ H fun vs H1=>vs=[.int 8]∧R Itd H1
theorem agi {tg a:Expr}{ta:TA}{p p2 pos pos2:Pos} (hg:Gl X "range") (hm:X.mg "range"=none) (hg2:Gl X "reversed") (hm2:X.mg "reversed"=none) (ha:PA X [a] ta) (hs:starEach [a] X.env=[(false,eval a X.env)]:=by rfl)
  (hs2:starEach [.Call (.Name "range" p) [a] [] pos] X.env=[(false,eval (.Call (.Name "range" p) [a] [] pos) X.env)]:=by rfl) :
  PI X tg (.Call (.Name "reversed" p2) [.Call (.Name "range" p) [a] [] pos] [] pos2) (afI ta):=by
 intro pins s σ H R I h
 refine wpAny_Call_Name_kw (ld_blt I hg2 hm2 wU ?_)
 refine PyProof.Rows.callWith_type1 ?_ (by rw [hs2]; rfl) (by rfl)
 rw [hs2]
 refine Calls.spliced_cons ?_
 refine Call_ (ld_blt I hg hm boot_range (PyProof.Rows.callWith_type1 (thn (ha pos pins s σ H _ I h) fun us s1 ⟨vs,H1,I1,r1,q1⟩=>?_) hs rfl))
 obtain⟨rfl,q⟩:=q1
 cases r1 with
 | cons r rr =>
  cases rr
  obtain⟨t,rfl⟩:=r
  refine call_range_1 (Calls.spliced_nil ?_)
  generalize NP:({ s1 with heap:=s1.heap.push { cls:=.type "range",data:=.fields #[.int 0 s1.toks,.int 8 t,.int 1 (s1.toks+1)] },toks:=s1.toks+1+1 }:Shared)=s2
  have I2:Inv X pins σ H1 s2:=by rw [← NP]; exact I1.kept fun b o e=>Heap.get?_push_of_some _ e
  have hr:IsRange s2.heap s1.heap.objs.size 0 8 1 s1.toks t (s1.toks+1):=by rw [← NP]; exact Heap.get?_push_size _ rfl
  refine Tq hr ?_
  have hit:IsRangeIter (s2.heap.push wA) s2.heap.objs.size 7 8 (-1):=Heap.get?_push_size _ rfl
  have I3:Inv X pins σ H1 { s2 with heap:=s2.heap.push wA }:=I2.kept (t':=s2.toks) fun b o e=>Heap.get?_push_of_some _ e
  refine wpAny_pyIter_rangeiter (s:={ s2 with heap:=s2.heap.push wA }) hit ?_
  refine⟨s2.heap.objs.size,[s2.heap.objs.size],_,Itd,H1,rfl,I3,acF _,hit,fun b hb=>?_,q⟩
  have e:b=s2.heap.objs.size:=by simpa using hb
  subst e
  exact I2.fpOk (Nat.le_refl _) (I2.hok.fresh (Nat.le_refl _))
theorem af8 {tg a:Expr}{ta:TA}{p p2 pos pos2:Pos} (hg:Gl X "range") (hm:X.mg "range"=none) (hg2:Gl X "reversed") (hm2:X.mg "reversed"=none) (ha:QA X [a] ta) (hs:starEach [a] X.env=[(false,eval a X.env)]:=by rfl)
  (hs2:starEach [.Call (.Name "range" p) [a] [] pos] X.env=[(false,eval (.Call (.Name "range" p) [a] [] pos) X.env)]:=by rfl) :
  QI X tg (.Call (.Name "reversed" p2) [.Call (.Name "range" p) [a] [] pos] [] pos2) (afI ta):=⟨agi hg hm hg2 hm2 ha.run hs hs2⟩
theorem ae3 {g:TG}{tb:TS}{D:Ends}{σ:Sg}{H:Hp} (Pv:Nat→Sg→Hp→Prop) (h0:Pv 0 σ H)
  (hs:∀ i σ H,i<8→Pv i σ H→g (.int (7 - i)) σ H fun σ2 H2=>tb { D with nx:=Pv (i+1),ct:=Pv (i+1),bk:=D.nx } σ2 H2) (hd:∀ σ H,Pv 8 σ H→D.nx σ H) :
  ∃ W:Nat→Nat→Sg→Hp→Prop,(∃ m,W 0 m σ H)∧∀ i m σ H,W i m σ H →
   (Itd.stop i H∧D.nx σ H)∨(Itd.go i H∧∃ N:Sg→Hp→Prop,(∀ σ' H',N σ' H'→∃ m',m'<m∧W (i+1) m' σ' H')∧∀ x H',Itd.yld i H x H'→g x σ H' fun σ2 H2=>tb { D with nx:=N,ct:=N,bk:=D.nx } σ2 H2):=by
 refine⟨fun i m σ H=>m=8 - i∧i≤8∧Pv i σ H,⟨8,rfl,Nat.zero_le _,h0⟩,?_⟩
 rintro i m σ H ⟨rfl,hi,p⟩
 by_cases hlt:i<8
 ·refine .inr ⟨hlt,Pv (i+1),fun σ' H' p'=>⟨8 - (i+1),by lia,rfl,hlt,p'⟩,fun x H' y=>?_⟩
  obtain⟨rfl,rfl⟩:=y
  exact hs i σ _ hlt p
 ·have e:i=8:=by lia
  subst e
  exact .inl ⟨Nat.le_refl _,hd σ H p⟩
def aav (K:PySem.W.Frag):V→List V→Hp→VK→Prop:=fun x vs H Q=>∃ (a:Addr) (cs:List Str) (p:Str) (j:Nat),x=.ref a∧vs=[.str p]∧SqT K H a (cs.map V.str)∧cs[j]?=some p∧(∀ m,m<j→cs[m]?≠some p)∧Q (.int (j:Nat)) H
theorem adq:MtM X "tuple.index" (aav X.K):=by
 intro pins s σ H x vs v us Q I rx rv h
 obtain⟨a,cs,p,j,rfl,rfl,hq,hj,hn,q⟩:=h
 cases rx
 obtain⟨u,rfl,ru⟩:=rv.one
 obtain⟨its,r,ht,hz⟩:=I.tuple hq
 obtain⟨⟨cls,dd,data,sl⟩,ho,hc,n,hd⟩:=id ht
 simp only at hc hd
 subst hc hd
 have flat:∀ l:List Str,(l.map V.str).all Ks=true:=fun l=>by
  rw [List.all_eq_true]; intro y hy
  obtain⟨c,_,rfl⟩:=List.mem_map.mp hy
  rfl
 have hlen:=r.length
 rw [List.length_map] at hlen
 have hjl:j<cs.length:=(List.getElem?_eq_some_iff.mp hj).1
 have at_:∀ m (hm:m<its.toArray.size),eqU (.str p) its.toArray[m]=decide (cs[m]?=some p):=fun m hm=>by
  have hm':m<cs.length:=by rw [List.size_toArray] at hm; lia
  obtain⟨u',e1,ru'⟩:=r.get (i:=m) (x:=.str cs[m]) (by rw [List.getElem?_map,List.getElem?_eq_getElem hm']; rfl)
  have e2:its.toArray[m]=u':=by
   have:=List.getElem?_eq_some_iff.mp e1
   simpa using this.2
  rw [e2,adE ru' rfl,List.getElem?_eq_getElem hm']
  show (cs[m] == p)=_
  by_cases z:cs[m]=p
  ·rw [decide_eq_true (congrArg some z),z]; exact beq_self_eq_true _
  ·rw [decide_eq_false (fun y=>z (Option.some.inj y))]; exact beq_eq_false_iff_ne.mpr z
 have hjs:j<its.toArray.size:=by rw [List.size_toArray]; lia
 refine call_meets F.slot_tuple_index ⟨_,ho,rfl⟩ F.entry_tuple_index (F.args_tuple_index_2 _ _)
  (Zc a its.toArray n dd sl u (eqU (.str p)) j hjs (by rw [at_ j hjs,hj]; exact decide_eq_true rfl) (fun m hm hlt=>by rw [at_ m hm]; exact decide_eq_false (hn m hlt))) ⟨ho,fun y hy=>?_,?_⟩
 ·exact Xh ru rfl r (flat cs) y (by simpa using hy)
 ·exact⟨.int (j:Nat),H,I.tok _,⟨_,rfl⟩,q⟩
theorem ahC {K:PySem.W.Frag}{e:Expr}{T:String}{r:V→List V→Hp→VK→Prop}{to:TE}{t:TA} (hK:X.K=K) (h:QE X e (tBM X.K T r to t)):QE X e (tBM K T r to t):=by subst hK; exact h
theorem abF {K:PySem.W.Frag} (hK:X.K=K):MtM X "tuple.index" (aav K):=by subst hK; exact adq
end
end Sw
namespace Sw
theorem Er {tx s:List T}:jf (tx,s)=bL tx s:=by
 unfold bL stepT
 match tx with
 | []=>rfl
 | .node []::ts=>rfl
 | .node (w::ws)::ts =>
  have hc:jf (.node (w::ws)::ts,s)=if aB w=2 then (ats s 0).parts else 1:=rfl
  have hst:(onward (.node (w::ws)::ts) s).2.2=2↔aB w=2:=by
   rw [gG]
   by_cases h7:aB w=7
   ·rw [if_pos h7]; split <;> (constructor <;> intro z <;> (first | cases z | lia))
   rw [if_neg h7]
   by_cases h8:aB w=8
   ·rw [if_pos h8]; split <;> (constructor <;> intro z <;> (first | cases z | lia))
   rw [if_neg h8]
   by_cases h9:aB w=9
   ·rw [if_pos h9]; constructor <;> intro z <;> (first | cases z | lia)
   rw [if_neg h9]
  rw [hc]
  by_cases h2:aB w=2
  ·rw [if_pos h2,if_pos (hst.mpr h2)]
  ·rw [if_neg h2,if_neg (fun z=>h2 (hst.mp z))]
theorem agw {st:Std}{a:Nat} (hd:iy a st) (ha:a≤390) (hw:wt st≤7900000):BX st.1∧B 390 8000000 (.node st.2):=by
 obtain⟨h1,h2⟩:=hd
 have h3:T.aH st.1+T.aH st.2≤7900000:=hw
 exact⟨BX.of (a:=390) (b:=8000000) ⟨by lia,by rw [T.aN]; lia⟩ (by lia) (by lia),⟨by lia,by rw [T.aN]; lia⟩⟩
theorem aaA {tx s:List T} (h:zY (tx,s)):BX tx∧B 390 8000000 (.node s):=by
 obtain⟨h1,h2,h3⟩:=h
 have h3:T.aH tx+T.aH s≤7900000:=h3
 exact⟨BX.of (a:=390) (b:=8000000) ⟨h1,by rw [T.aN]; lia⟩ (by lia) (by lia),⟨h2,by rw [T.aN]; lia⟩⟩
def evW (ω:Nat→Nat) (st:Std):Nat:=ω (stepT st.1 st.2)+(if stepT st.1 st.2=2 then (ats st.2 0).parts * ω 13 else 0)+(if stepT st.1 st.2=9 then (aZ (ats (ats st.1 0).kids 0)).parts * ω 14 else 0)
inductive Wo (ω:Nat→Nat):Std→Nat→Std→Prop where
 | nil {st:Std}:Wo ω st 0 st
 | cons {st e:Std}{τ:Nat}:st.1≠[]→Wo ω (nx st) τ e→Wo ω st (τ+evW ω st) e
theorem Wo.to {ω:Nat→Nat}{st e:Std}{τ τ':Nat} (h:Wo ω st τ e) (e1:τ=τ'):Wo ω st τ' e:=by subst e1; exact h
theorem Wo.trans {ω:Nat→Nat}{a b d:Std}{τ υ:Nat} (h:Wo ω a τ b) (g:Wo ω b υ d):Wo ω a (τ+υ) d:=by
 induction h with
 | nil=>exact g.to (by lia)
 | cons h1 _ ih=>exact (Wo.cons h1 (ih g)).to (by lia)
theorem Wo.one {ω:Nat→Nat}{st e u:Std}{τ k:Nat} (h1:st.1≠[]) (h3:nx st=u) (h4:evW ω st=k) (g:Wo ω u τ e):Wo ω st (τ+k) e:=by
 subst h3; subst h4; exact .cons h1 g
theorem cC {w:T}{ws ts s:List T}:stepT (.node (w::ws)::ts) s=if aB w=7 then (if (ats s 0).kids≠[] then 7 else 8) else if aB w=8 then (if (ats s 0).kids≠[] then 9 else 10) else if aB w=9 then 11 else aB w:=by
 unfold stepT
 rw [gG]
 by_cases h7:aB w=7
 ·rw [if_pos h7,if_pos h7]; split <;> rfl
 rw [if_neg h7,if_neg h7]
 by_cases h8:aB w=8
 ·rw [if_pos h8,if_pos h8]; split <;> rfl
 rw [if_neg h8,if_neg h8]
 split <;> rfl
theorem dN {ω:Nat→Nat}{w:T}{ws ts s:List T}{k:Nat} (h:stepT (.node (w::ws)::ts) s=k):evW ω (.node (w::ws)::ts,s)=ω k+(if k=2 then (ats s 0).parts * ω 13 else 0)+(if k=9 then (aZ w).parts * ω 14 else 0):=by
 subst h; rfl
section
variable {ω:Nat→Nat}{t cs s:List T}{e:Std}{τ:Nat}
theorem afC {us:List T} (g:Wo ω (.node t::cs,.node us::s) τ e):Wo ω (.node (je 0 us::t)::cs,s) (τ+ω 0) e :=
 .one (by simp) (by rw [gY (by show 0≤6; decide),Gy rfl]; rfl) ((dN (k:=0) (by rw [cC]; rfl)).trans rfl) g
theorem sO {a:T} (g:Wo ω (.node t::cs,s) τ e):Wo ω (.node (W 1::t)::cs,a::s) (τ+ω 1) e :=
 .one (by simp) (by rw [gY (by decide),Yt rfl,dj (by simp)]; rfl) ((dN (k:=1) (by rw [cC]; rfl)).trans rfl) g
theorem adk {a:T} (g:Wo ω (.node t::cs,a::a::s) τ e):Wo ω (.node (W 2::t)::cs,a::s) (τ+(ω 2+a.parts * ω 13)) e :=
 .one (by simp) (by rw [gY (by decide),Ys rfl,dj (by simp)]; rfl) ((dN (k:=2) (by rw [cC]; rfl)).trans rfl) g
theorem fB {a b:T} (g:Wo ω (.node t::cs,b::a::s) τ e):Wo ω (.node (W 3::t)::cs,a::b::s) (τ+ω 3) e :=
 .one (by simp) (by rw [gY (by decide),Yr rfl,dj (by simp)]; rfl) ((dN (k:=3) (by rw [cC]; rfl)).trans rfl) g
theorem cD {a:T}{b:List T} (g:Wo ω (.node t::cs,.node (a::b)::s) τ e):Wo ω (.node (W 4::t)::cs,a::.node b::s) (τ+ω 4) e :=
 .one (by simp) (by rw [gY (by decide),Yq rfl,dj (by simp)]; rfl) ((dN (k:=4) (by rw [cC]; rfl)).trans rfl) g
theorem pJ {a:List T} (g:Wo ω (.node t::cs,ats a 0::.node (a.drop 1)::s) τ e):Wo ω (.node (W 5::t)::cs,.node a::s) (τ+ω 5) e :=
 .one (by simp) (by rw [gY (by decide),Tr rfl,dj (by simp)]; rfl) ((dN (k:=5) (by rw [cC]; rfl)).trans rfl) g
theorem pZ {a:T}{b:List T} (g:Wo ω (.node t::cs,a::.node b::s) τ e):Wo ω (.node (W 5::t)::cs,.node (a::b)::s) (τ+ω 5) e:=pJ g
theorem fY {a b d:T} (g:Wo ω (.node t::cs,d::a::b::s) τ e):Wo ω (.node (W 6::t)::cs,a::b::d::s) (τ+ω 6) e :=
 .one (by simp) (by rw [gY (by decide),Yp rfl,dj (by simp)]; rfl) ((dN (k:=6) (by rw [cC]; rfl)).trans rfl) g
theorem fC (g:Wo ω (cs,s) τ e):Wo ω (.node []::cs,s) (τ+ω 12) e :=
 .one (by simp) rfl rfl g
theorem Km {yes no:List T}{a:T} (ha:a.kids≠[]) (g:Wo ω (.node yes::.node t::cs,a::s) τ e):Wo ω (.node (o8 yes no::t)::cs,a::s) (τ+ω 7) e :=
 .one (by simp) (by
  unfold nx onward
  simp only [ats,T.kids,List.getElem?_cons_zero,Option.getD_some,List.drop_succ_cons,List.drop_zero]
  rw [if_pos (by rfl),if_pos (by exact ha),j6 (by show 6<7; decide),dj (by show 1≤_; simp)]; rfl) ((dN (k:=7) (by rw [cC,if_pos (by rfl),if_pos (by exact ha)])).trans rfl) g
theorem FN {yes no:List T}{a:T} (ha:a.kids=[]) (g:Wo ω (.node no::.node t::cs,a::s) τ e):Wo ω (.node (o8 yes no::t)::cs,a::s) (τ+ω 8) e :=
 .one (by simp) (by
  unfold nx onward
  simp only [ats,T.kids,List.getElem?_cons_zero,Option.getD_some,List.drop_succ_cons,List.drop_zero]
  rw [if_pos (by rfl),if_neg (by exact fun z=>z ha),j6 (by show 6<7; decide),dj (by show 1≤_; simp)]; rfl) ((dN (k:=8) (by rw [cC,if_pos (by rfl),if_neg (by exact fun z=>z ha)])).trans rfl) g
theorem Ko {as:List T} (g:Wo ω (.node t::cs,s) τ e):∀ {k:Nat},as.length=k→Wo ω (.node (HX k t)::cs,as++s) (τ+k * ω 1) e:=by
 intro k hk
 induction as generalizing k with
 | nil=>cases hk; exact g.to (by simp)
 | cons a as ih=>cases hk; exact (sO (ih rfl)).to (by rw [List.length_cons,Nat.succ_mul]; lia)
theorem ahY {us:List T}{l:T}{w:T}{ts st:List T} (g:Wo ω (.node t::cs,.node (w::ts)::.node (l::st)::us) τ e):Wo ω (.node (aa6 t)::cs,l::w::.node ts::.node st::us) (τ+(4 * ω 6+2 * ω 4+ω 3)) e :=
 (fY (fY (cD (fY (fY (cD (fB g))))))).to (by lia)
theorem aeP {us:List T}{l w:T}{ts st:List T} (g:Wo ω (.node t::cs,ats st 0::.node (st.drop 1)::.node (w::ts)::us) τ e):Wo ω (.node (QX t)::cs,l::w::.node ts::.node st::us) (τ+(ω 1+ω 4+ω 3+ω 5)) e :=
 (sO (cD (fB (pJ g)))).to (by lia)
theorem Vr {us:List T}{l w:T}{ts st:List T} (g:Wo ω (.node t::cs,ats st 0::.node (st.drop 1)::.node (w::ts)::l::us) τ e):Wo ω (.node (QV t)::cs,l::w::.node ts::.node st::us) (τ+(3 * ω 6+ω 4+ω 5)) e :=
 (fY (fY (cD (fY (pJ g))))).to (by lia)
def wkW (ω:Nat→Nat) (p:Nat):Nat→Nat
 | 1=>ω 1
 | 2=>ω 2+p * ω 13+ω 6+2 * ω 3+2 * ω 4
 | 3=>3 * ω 3+ω 5+ω 6+2 * ω 4
 | 4=>ω 3+ω 5+ω 6+2 * ω 4
 | 5=>ω 5+2 * ω 6+2 * ω 4+ω 3
 | 6=>4 * ω 3+2 * ω 5+2 * ω 6+3 * ω 4
 | _=>0
theorem aeO {us:List T}{x:T}{st:List T}:∀ {k:Nat},1≤k→k≤6→Wo ω (.node t::cs,.node (jQ k st)::x::us) τ e →
  Wo ω (.node (QM k++t)::cs,ats st 0::.node (st.drop 1)::x::us) (τ+wkW ω (ats st 0).parts k) e:=by
 intro k h1 h6 g
 rcases (by lia:k=1∨k=2∨k=3∨k=4∨k=5∨k=6) with rfl | rfl | rfl | rfl | rfl | rfl
 ·exact sO g
 ·exact (adk (fY (fB (cD (fB (cD g)))))).to (by show _=τ+(ω 2+(ats st 0).parts * ω 13+ω 6+2 * ω 3+2 * ω 4); lia)
 ·exact (fB (pJ (fB (fY (cD (fB (cD (by rw [List.drop_drop]; exact g)))))))).to (by show _=τ+(3 * ω 3+ω 5+ω 6+2 * ω 4); lia)
 ·refine (fB (pJ (fY (τ:=τ+ω 4+ω 4) ?_))).to (by show _=τ+(ω 3+ω 5+ω 6+2 * ω 4); lia)
  rw [show ats (st.drop 1) 0=.node (ats (st.drop 1) 0).kids from (h_ _).symm]
  exact cD (cD (by rw [List.drop_drop]; exact g))
 ·rw [show ats st 0=.node (ats st 0).kids from (h_ _).symm]
  exact (pJ (fY (fY (cD (fB (cD g)))))).to (by show _=τ+(ω 5+2 * ω 6+2 * ω 4+ω 3); lia)
 ·exact (fB (pJ (fB (pJ (fB (fY (cD (fY (cD (fB (cD (by rw [List.drop_drop,List.drop_drop]; exact g)))))))))))).to (by show _=τ+(4 * ω 3+2 * ω 5+2 * ω 6+3 * ω 4); lia)
theorem zA (k:Nat) (g:Wo ω (cs,s) τ e):Wo ω (List.replicate k (.node [])++cs,s) (τ+k * ω 12) e:=by
 induction k with
 | zero=>exact g.to (by simp)
 | succ k ih=>exact (fC ih).to (by rw [Nat.succ_mul]; lia)
theorem Ec {fs:List T}{d:Nat}:∀ {as cs s:List T},Wo ω (.node (cB d)::(List.replicate as.length (.node [])++cs),.node fs::(as.reverse++s)) τ e →
  Wo ω (.node (cB (as.length+d))::cs,.node (as++fs)::s) (τ+as.length * (ω 7+ω 5+ω 3)) e:=by
 intro as
 induction as with
 | nil=>intro cs s g; rw [List.length_nil,Nat.zero_add,Nat.zero_mul]; exact g
 | cons a as ih =>
  intro cs s g
  have g':Wo ω (.node (cB d)::(List.replicate as.length (.node [])++.node []::cs),.node fs::(as.reverse++a::s)) τ e:=by
   rw [aat]
   rw [List.reverse_cons,List.append_assoc] at g
   exact g
  rw [List.length_cons,show as.length+1+d=as.length+d+1 by lia]
  exact (Km (yes:=W 5::W 3::cB (as.length+d)) (a:=.node (a::(as++fs))) (by simp [T.kids]) (pZ (fB (ih g')))).to (by rw [Nat.succ_mul]; lia)
theorem adn:∀ {as fs s:List T},Wo ω (.node t::cs,.node (as.reverse++fs)::s) τ e→Wo ω (.node (J_ as.length t)::cs,.node fs::(as++s)) (τ+as.length * (ω 3+ω 4)) e:=by
 intro as
 induction as with
 | nil=>intro fs s g; exact g.to (by simp)
 | cons a as ih =>
  intro fs s g
  rw [List.reverse_cons,List.append_assoc] at g
  exact (fB (cD (ih g))).to (by rw [List.length_cons,Nat.succ_mul]; lia)
def Pk (ω:Nat→Nat) (k p b:Nat) (full:Bool):Nat :=
 if k=0 then ω 8+ω 1+(4 * ω 6+2 * ω 4+ω 3)+2 * ω 12
 else if k≤6 then k * (ω 7+ω 5+ω 3)+ω 8+(k+1) * ω 1+(ω 1+ω 4+ω 3+ω 5)+wkW ω p k+ω 3+k * ω 12+2 * ω 12
 else if k=7 then 7 * (ω 7+ω 5+ω 3)+ω 8+8 * ω 1+(3 * ω 6+ω 4+ω 5)+(if full then ω 7+(2 * ω 4+2 * ω 3+ω 6+ω 5+ω 1) else ω 8+(2 * ω 4+ω 3+ω 6+ω 5+ω 1))+10 * ω 12
 else if k=8 then 8 * (ω 7+ω 5+ω 3)+ω 8+8 * (ω 3+ω 4)+ω 4+(3 * ω 6+ω 4+ω 5)+(if full then ω 7+(5 * ω 4+3 * ω 3+4 * ω 6+2 * ω 5+ω 2+b * ω 13) else ω 8+(ω 4+ω 6+ω 1+ω 3))+11 * ω 12
 else 8 * (ω 7+ω 5+ω 3)+ω 7+10 * ω 1+ω 4+10 * ω 12
theorem adl {us as l xs ts st:List T} (g:Wo ω (cs,.node (resT as l xs ts st).1::.node (resT as l xs ts st).2::us) τ e) :
  Wo ω (.node (cB 8)::cs,.node as::.node l::.node xs::.node ts::.node st::us) (τ+Pk ω as.length (ats st 0).parts (T.node l).parts (decide ((ats st 0).kids≠[]))) e:=by
 unfold Pk
 by_cases h0:as.length=0
 ·have:as=[]:=List.length_eq_zero_iff.mp h0
  subst this
  rw [if_pos h0]
  have g:Wo ω (cs,.node (.node xs::ts)::.node (.node l::st)::us) τ e:=g
  exact (FN rfl (sO (ahY (fC (fC g))))).to (by lia)
 rw [resT,if_neg h0] at g
 rw [if_neg h0]
 by_cases h6:as.length≤6
 ·rw [if_pos h6] at g ⊢
  have g1:=fC (fC (zA as.length g))
  have g2:=aeO (k:=as.length) (by lia) h6 (fB g1)
  have g3:=Ko (as:=.node []::as.reverse) (aeP (l:=.node l) g2) (k:=as.length+1) (by rw [List.length_cons,List.length_reverse])
  have e8:cB 8=cB (as.length+(8 - as.length)):=by rw [show as.length+(8 - as.length)=8 by lia]
  rw [e8,show T.node as=T.node (as++[]) by rw [List.append_nil]]
  refine (Ec (τ:=(τ+as.length * ω 12+ω 12+ω 12+ω 3+wkW ω (ats st 0).parts as.length+(ω 1+ω 4+ω 3+ω 5)+(as.length+1) * ω 1)+ω 8) ?_).to (by lia)
  have e9:cB (8 - as.length)=[o8 (W 5::W 3::cB (7 - as.length)) (qj as.length)]:=by
   rw [show 8 - as.length=(7 - as.length)+1 by lia,cB,show 7 - (7 - as.length)=as.length by lia]
  rw [e9]
  refine FN rfl ?_
  rw [qj,if_neg h0,if_neg (by lia)]
  exact g3
 rw [if_neg h6] at g ⊢
 by_cases h7:as.length=7
 ·rw [if_pos h7] at g ⊢
  have e8:cB 8=cB (as.length+1):=by rw [h7]
  have e9:cB 1=[o8 (W 5::W 3::cB 0) (qj 7)]:=rfl
  by_cases ht:(ats st 0).kids≠[]
  ·rw [if_pos ht] at g
   rw [if_pos (decide_eq_true ht)]
   have g1:=fC (fC (fC (zA as.length g)))
   rw [e8,show T.node as=T.node (as++[]) by rw [List.append_nil]]
   refine (Ec (τ:=(τ+as.length * ω 12+ω 12+ω 12+ω 12+(2 * ω 4+2 * ω 3+ω 6+ω 5+ω 1)+ω 7+(3 * ω 6+ω 4+ω 5)+(7+1) * ω 1)+ω 8) ?_).to (by rw [h7]; lia)
   rw [e9]
   refine FN rfl ?_
   rw [qj,if_neg (by decide),if_pos rfl]
   exact (Ko (as:=.node []::as.reverse) (Vr (Km ht (cD (fB (fY (pJ (fB (sO (cD g1))))))))) (k:=7+1) (by rw [List.length_cons,List.length_reverse,h7])).to (by lia)
  ·rw [if_neg ht] at g
   rw [if_neg (by rw [decide_eq_true_eq]; exact ht)]
   have g1:=fC (fC (fC (zA as.length g)))
   rw [e8,show T.node as=T.node (as++[]) by rw [List.append_nil]]
   refine (Ec (τ:=(τ+as.length * ω 12+ω 12+ω 12+ω 12+(2 * ω 4+ω 3+ω 6+ω 5+ω 1)+ω 8+(3 * ω 6+ω 4+ω 5)+(7+1) * ω 1)+ω 8) ?_).to (by rw [h7]; lia)
   rw [e9]
   refine FN rfl ?_
   rw [qj,if_neg (by decide),if_pos rfl]
   exact (Ko (as:=.node []::as.reverse) (Vr (FN (Classical.not_not.mp ht) (cD (fB (fY (pJ (sO (cD g1)))))))) (k:=7+1) (by rw [List.length_cons,List.length_reverse,h7])).to (by lia)
 rw [if_neg h7] at g ⊢
 by_cases h8:as.length=8
 ·rw [if_pos h8] at g ⊢
  have e8:cB 8=cB (as.length+0):=by rw [h8]
  have eb:xu=J_ as.reverse.length (W 4::QV [o8 aa7 aa5]):=by rw [List.length_reverse,h8]; rfl
  by_cases ht:(ats st 0).kids≠[]
  ·rw [if_pos ht] at g
   rw [if_pos (decide_eq_true ht)]
   have g1:=fC (fC (fC (zA as.length g)))
   rw [e8,show T.node as=T.node (as++[]) by rw [List.append_nil]]
   refine (Ec (τ:=(τ+as.length * ω 12+ω 12+ω 12+ω 12+(5 * ω 4+3 * ω 3+4 * ω 6+2 * ω 5+ω 2+(T.node l).parts * ω 13)+ω 7+(3 * ω 6+ω 4+ω 5)+ω 4+as.length * (ω 3+ω 4))+ω 8) ?_).to (by rw [h8]; lia)
   refine FN rfl ?_
   rw [eb]
   refine (adn (τ:=τ+as.length * ω 12+ω 12+ω 12+ω 12+(5 * ω 4+3 * ω 3+4 * ω 6+2 * ω 5+ω 2+(T.node l).parts * ω 13)+ω 7+(3 * ω 6+ω 4+ω 5)+ω 4) ?_).to (by rw [List.length_reverse])
   rw [List.reverse_reverse,List.append_nil]
   exact (cD (Vr (Km ht (cD (fB (fY (pZ (fB (adk (fY (cD (fY (pZ (fY (cD (cD (fB (cD g1)))))))))))))))))).to (by lia)
  ·rw [if_neg ht] at g
   rw [if_neg (by rw [decide_eq_true_eq]; exact ht)]
   have g1:=fC (fC (fC (zA as.length g)))
   rw [e8,show T.node as=T.node (as++[]) by rw [List.append_nil]]
   refine (Ec (τ:=(τ+as.length * ω 12+ω 12+ω 12+ω 12+(ω 4+ω 6+ω 1+ω 3)+ω 8+(3 * ω 6+ω 4+ω 5)+ω 4+as.length * (ω 3+ω 4))+ω 8) ?_).to (by rw [h8]; lia)
   refine FN rfl ?_
   rw [eb]
   refine (adn (τ:=τ+as.length * ω 12+ω 12+ω 12+ω 12+(ω 4+ω 6+ω 1+ω 3)+ω 8+(3 * ω 6+ω 4+ω 5)+ω 4) ?_).to (by rw [List.length_reverse])
   rw [List.reverse_reverse,List.append_nil]
   exact (cD (Vr (FN (Classical.not_not.mp ht) (cD (fY (sO (fB g1))))))).to (by lia)
 ·rw [if_neg h8] at g ⊢
  have hl:(as.take 8).length=8:=by rw [List.length_take]; lia
  have g1:=fC (fC (zA 8 g))
  have e8:cB 8=cB ((as.take 8).length+0):=by rw [hl]
  rw [e8,show T.node as=T.node (as.take 8++as.drop 8) by rw [List.take_append_drop]]
  refine (Ec (τ:=(τ+8 * ω 12+ω 12+ω 12+ω 4+10 * ω 1)+ω 7) ?_).to (by rw [hl]; lia)
  rw [hl]
  refine Km ?_ ?_
  ·show as.drop 8≠[]
   intro z
   have:=congrArg List.length z
   rw [List.length_drop,List.length_nil] at this
   lia
  ·have:=Ko (as:=.node (as.drop 8)::((as.take 8).reverse++[.node l])) (cD g1) (k:=10) (by rw [List.length_cons,List.length_append,List.length_reverse,hl]; rfl)
   rw [List.cons_append,List.append_assoc] at this
   exact this
def bJ (ω:Nat→Nat):Nat→Nat
 | 0=>ω 1+ω 3+2 * ω 4+3 * ω 5+4 * ω 6+ω 7+ω 8+ω 9+3 * ω 12+1169 * ω 14
 | 1=>4 * ω 1+3 * ω 3+ω 4+5 * ω 5+2 * ω 7+ω 8+ω 9+4 * ω 12+1169 * ω 14
 | 2=>4 * ω 1+ω 2+6 * ω 3+3 * ω 4+6 * ω 5+ω 6+3 * ω 7+ω 8+ω 9+5 * ω 12+1169 * ω 14
 | 3=>5 * ω 1+8 * ω 3+3 * ω 4+8 * ω 5+ω 6+4 * ω 7+ω 8+ω 9+6 * ω 12+1169 * ω 14
 | 4=>6 * ω 1+7 * ω 3+3 * ω 4+9 * ω 5+ω 6+5 * ω 7+ω 8+ω 9+7 * ω 12+1169 * ω 14
 | 5=>7 * ω 1+8 * ω 3+3 * ω 4+10 * ω 5+2 * ω 6+6 * ω 7+ω 8+ω 9+8 * ω 12+1169 * ω 14
 | 6=>8 * ω 1+12 * ω 3+4 * ω 4+12 * ω 5+2 * ω 6+7 * ω 7+ω 8+ω 9+9 * ω 12+1169 * ω 14
 | 7=>9 * ω 1+9 * ω 3+3 * ω 4+12 * ω 5+4 * ω 6+9 * ω 7+ω 8+ω 9+11 * ω 12+1169 * ω 14
 | 8=>9 * ω 1+8 * ω 3+3 * ω 4+12 * ω 5+4 * ω 6+8 * ω 7+2 * ω 8+ω 9+11 * ω 12+1169 * ω 14
 | 9=>ω 2+19 * ω 3+15 * ω 4+14 * ω 5+7 * ω 6+10 * ω 7+ω 8+ω 9+12 * ω 12+1169 * ω 14
 | 10=>ω 1+17 * ω 3+11 * ω 4+12 * ω 5+4 * ω 6+9 * ω 7+2 * ω 8+ω 9+12 * ω 12+1169 * ω 14
 | 11=>10 * ω 1+8 * ω 3+ω 4+11 * ω 5+10 * ω 7+ω 9+11 * ω 12+1169 * ω 14
 | 12=>ω 1+ω 5+ω 8+ω 9+2 * ω 12+1169 * ω 14
 | 13=>ω 13
 | 14=>ω 13
 | _=>0
theorem aa_:(T.node jG).parts=1169:=by decide +kernel
theorem abR {tx s:List T} (h:tx≠[]):evW ω (.node bU::cs,.node tx::s)=ω 9+1169 * ω 14:=by
 rw [show bU=je 8 jG::[W 1,W 5,W 3,W 1] from rfl,dN (k:=9) (by rw [cC,if_neg (by show 8≠7; decide),if_pos (by rfl),if_pos (by exact h)]),if_neg (by decide),if_pos rfl,show aZ (je 8 jG)=.node jG from rfl,aa_]
 lia
theorem agP {s:List T}:evW ω (.node bU::cs,.node []::s)=ω 10:=by
 rw [show bU=je 8 jG::[W 1,W 5,W 3,W 1] from rfl,dN (k:=10) (by rw [cC,if_neg (by show 8≠7; decide),if_pos (by rfl),if_neg (by exact fun z=>z rfl)])]
 rfl
theorem agO {as l xs ts st:List T}:evW (bJ ω) (.node (.node (.node as::l)::xs)::ts,st)=3 * ω 5+ω 7+Pk ω as.length (ats st 0).parts (T.node l).parts (decide ((ats st 0).kids≠[]))+ω 12+ω 9+1169 * ω 14:=by
 have hs:aB (.node (.node as::l))=min 9 as.length:=rfl
 have hld:aZ (.node (.node as::l))=.node l:=rfl
 unfold Pk
 by_cases h0:as.length=0
 ·rw [if_pos h0,dN (k:=0) (by rw [cC,hs,if_neg (by lia),if_neg (by lia),if_neg (by lia)]; lia)]
  show bJ ω 0+0+0=_
  simp only [bJ]; lia
 rw [if_neg h0]
 by_cases h6:as.length≤6
 ·rw [if_pos h6]
  rcases (by lia:as.length=1∨as.length=2∨as.length=3∨as.length=4∨as.length=5∨as.length=6) with hk | hk | hk | hk | hk | hk
  ·rw [hk,dN (k:=1) (by rw [cC,hs,if_neg (by lia),if_neg (by lia),if_neg (by lia)]; lia)]
   show bJ ω 1+0+0=_
   simp only [bJ,wkW]; lia
  ·rw [hk,dN (k:=2) (by rw [cC,hs,if_neg (by lia),if_neg (by lia),if_neg (by lia)]; lia)]
   show bJ ω 2+(ats st 0).parts * bJ ω 13+0=_
   rw [show bJ ω 13=ω 13 from rfl]
   simp only [bJ,wkW]; lia
  ·rw [hk,dN (k:=3) (by rw [cC,hs,if_neg (by lia),if_neg (by lia),if_neg (by lia)]; lia)]
   show bJ ω 3+0+0=_
   simp only [bJ,wkW]; lia
  ·rw [hk,dN (k:=4) (by rw [cC,hs,if_neg (by lia),if_neg (by lia),if_neg (by lia)]; lia)]
   show bJ ω 4+0+0=_
   simp only [bJ,wkW]; lia
  ·rw [hk,dN (k:=5) (by rw [cC,hs,if_neg (by lia),if_neg (by lia),if_neg (by lia)]; lia)]
   show bJ ω 5+0+0=_
   simp only [bJ,wkW]; lia
  ·rw [hk,dN (k:=6) (by rw [cC,hs,if_neg (by lia),if_neg (by lia),if_neg (by lia)]; lia)]
   show bJ ω 6+0+0=_
   simp only [bJ,wkW]; lia
 rw [if_neg h6]
 by_cases h7:as.length=7
 ·rw [if_pos h7]
  by_cases ht:(ats st 0).kids≠[]
  ·rw [if_pos (decide_eq_true ht),dN (k:=7) (by rw [cC,hs,if_pos (by lia),if_pos ht])]
   show bJ ω 7+0+0=_
   simp only [bJ]; lia
  ·rw [if_neg (by rw [decide_eq_true_eq]; exact ht),dN (k:=8) (by rw [cC,hs,if_pos (by lia),if_neg ht])]
   show bJ ω 8+0+0=_
   simp only [bJ]; lia
 rw [if_neg h7]
 by_cases h8:as.length=8
 ·rw [if_pos h8]
  by_cases ht:(ats st 0).kids≠[]
  ·rw [if_pos (decide_eq_true ht),dN (k:=9) (by rw [cC,hs,if_neg (by lia),if_pos (by lia),if_pos ht]),hld]
   show bJ ω 9+0+(T.node l).parts * bJ ω 14=_
   rw [show bJ ω 14=ω 13 from rfl]
   simp only [bJ]; lia
  ·rw [if_neg (by rw [decide_eq_true_eq]; exact ht),dN (k:=10) (by rw [cC,hs,if_neg (by lia),if_pos (by lia),if_neg ht])]
   show bJ ω 10+0+0=_
   simp only [bJ]; lia
 ·rw [if_neg h8,dN (k:=11) (by rw [cC,hs,if_neg (by lia),if_neg (by lia),if_pos (by lia)])]
  show bJ ω 11+0+0=_
  simp only [bJ]; lia
theorem o_head {us tx st:List T} (h:tx≠[]) (g:Wo ω (.node bU::cs,.node (onward tx st).1::.node (onward tx st).2.1::us) τ e) :
  Wo ω (.node bU::cs,.node tx::.node st::us) (τ+evW (bJ ω) (tx,st)) e:=by
 match tx,h with
 | .node []::ts,h =>
  refine (Wo.one (by simp) (Gg h) (abR h) (pZ (FN rfl (sO (fC (fC g)))))).to ?_
  rw [show evW (bJ ω) (.node []::ts,st)=bJ ω 12 from rfl]
  simp only [bJ]; lia
 | .node (.node []::xs)::ts,h =>
  have hr:=res_none (s:=st) (xs:=xs) (ts:=ts)
  have g2:Wo ω (.node bU::cs,.node (resT [] [] xs ts st).1::.node (resT [] [] xs ts st).2::us) τ e:=by rw [← hr]; exact g
  have g3:=adl (as:=[]) (l:=[]) (xs:=xs) (ts:=ts) (st:=st) (us:=us) (fC g2)
  refine (Wo.one (by simp) (Gg h) (abR h) (pZ (Km (by simp [T.kids]) (pZ (pJ g3))))).to ?_
  rw [dN (k:=0) (by rw [cC]; rfl)]
  show _=τ+(bJ ω 0+0+0)
  unfold Pk
  rw [if_pos (by rfl)]
  simp only [bJ]
  lia
 | .node (.node (.node as::l)::xs)::ts,h =>
  have hr:=ac3 (s:=st) (as:=as) (l:=l) (xs:=xs) (ts:=ts)
  have g2:Wo ω (.node bU::cs,.node (resT as l xs ts st).1::.node (resT as l xs ts st).2::us) τ e:=by rw [← hr]; exact g
  have g3:=adl (as:=as) (l:=l) (xs:=xs) (ts:=ts) (st:=st) (us:=us) (fC g2)
  refine (Wo.one (by simp) (Gg h) (abR h) (pZ (Km (by simp [T.kids]) (pZ (pZ g3))))).to ?_
  rw [agO]
  lia
theorem agx {st e:Std} (h:Wo (bJ ω) st τ e):∀ {us cs:List T},e.1=[]→Wo ω (.node bU::cs,.node st.1::.node st.2::us) (τ+(ω 10+2 * ω 1+ω 5+ω 3+ω 12)) (cs,ats e.2 0::us):=by
 induction h with
 | @nil st =>
  intro us cs he
  rw [he]
  exact (Wo.one (by simp) R_ agP (sO (pJ (fB (sO (fC .nil)))))).to (by lia)
 | @cons st e τ h1 _ ih =>
  intro us cs he
  exact (o_head h1 (ih he)).to (by show _=τ+evW (bJ ω) (st.1,st.2)+_; lia)
def Eu (ω:Nat→Nat):Nat:=2 * ω 0+2 * ω 1+ω 3+2 * ω 4+2 * ω 5+2 * ω 6+ω 10+ω 12
theorem ahX {x:T}{its us cs s:List T} (h:Wo (bJ ω) ([x],[.node its]) τ ([],s)):Wo ω (.node dh::cs,.node (x::its)::us) (τ+Eu ω) (cs,ats s 0::us):=by
 have g:=agx (us:=us) (cs:=cs) h rfl
 exact (pZ (afC (fY (cD (afC (fY (cD g))))))).to (by unfold Eu; lia)
end
def bh (ω:Nat→Nat):Nat→List Nat→Nat
 | _,[]=>0
 | i,n::ns=>n * ω i+bh ω (i+1) ns
theorem En (ω:Nat→Nat):∀ (ns ms:List Nat) (i:Nat),ns.length=ms.length→bh ω i (fK ns ms)=bh ω i ns+bh ω i ms
 | [],[],_,_=>rfl
 | n::ns,m::ms,i,h=>by
  have ih:=En ω ns ms (i+1) (by simpa using h)
  show (n+m) * ω i+bh ω (i+1) (fK ns ms)=n * ω i+bh ω (i+1) ns+(m * ω i+bh ω (i+1) ms)
  rw [ih,Nat.add_mul]
  lia
 | [],_::_,_,h=>by simp at h
 | _::_,[],_,h=>by simp at h
theorem Oc (ω:Nat→Nat):bh ω 0 gZ=0:=by
 unfold gZ
 simp [bh,List.replicate]
theorem Em {ω:Nat→Nat}{tx s:List T}:bh ω 0 (nj tx s)=evW ω (tx,s):=by
 have h12:=zq (tx:=tx) (s:=s)
 unfold nj evW
 show _=ω (stepT tx s)+(if stepT tx s=2 then (ats s 0).parts * ω 13 else 0)+(if stepT tx s=9 then (aZ (ats (ats tx 0).kids 0)).parts * ω 14 else 0)
 generalize stepT tx s=k at *
 generalize (ats s 0).parts=p
 generalize (aZ (ats (ats tx 0).kids 0)).parts=b
 by_cases h2:k=2
 ·subst h2
  rw [if_pos rfl,if_pos rfl,if_neg (by decide)]
  simp [ev0,bh,List.replicate,List.set]
 rw [if_neg h2,if_neg h2]
 by_cases h9:k=9
 ·subst h9
  rw [if_pos rfl,if_pos rfl]
  simp [ev0,bh,List.replicate,List.set]
 rw [if_neg h9,if_neg h9]
 rcases (by lia:k=0∨k=1∨k=3∨k=4∨k=5∨k=6∨k=7∨k=8∨k=10∨k=11∨k=12) with rfl | rfl | rfl | rfl | rfl | rfl | rfl | rfl | rfl | rfl | rfl <;> simp [ev0,bh,List.replicate,List.set]
theorem X_ (ω:Nat→Nat):∀ (ns:List Nat) (i:Nat),(∀ j,i≤j→ω j=0)→bh ω i ns=0
 | [],_,_=>rfl
 | n::ns,i,h=>by
  show n * ω i+bh ω (i+1) ns=0
  rw [h i (Nat.le_refl _),X_ ω ns (i+1) (fun j hj=>h j (by lia)),Nat.mul_zero]
theorem Al:∀ (ns:List Nat) (i k:Nat),bh (fun j=>if j=i+k then 1 else 0) i ns=ns.getD k 0
 | [],_,_=>rfl
 | n::ns,i,0=>by
  show n * (if i=i+0 then 1 else 0)+bh _ (i+1) ns=n
  rw [if_pos (by lia),X_ _ ns (i+1) (fun j hj=>if_neg (by lia))]
  lia
 | n::ns,i,k+1=>by
  show n * (if i=i+(k+1) then 1 else 0)+bh _ (i+1) ns=(n::ns).getD (k+1) 0
  rw [if_neg (by lia),show i+(k+1)=i+1+k by lia,Al ns (i+1) k,List.getD_cons_succ]
  lia
theorem agT {ns ms:List Nat} (hl:ns.length=ms.length) (h:∀ ω,bh ω 0 ns=bh ω 0 ms):ns=ms:=by
 refine List.ext_getElem hl fun i h1 h2=>?_
 have e:=h (fun j=>if j=0+i then 1 else 0)
 rw [Al,Al,List.getD_eq_getElem?_getD,List.getD_eq_getElem?_getD,List.getElem?_eq_getElem h1,List.getElem?_eq_getElem h2] at e
 exact e
theorem nD {ω:Nat→Nat}{st e:Std}{τ:Nat} (g:Wo ω st τ e) (he:e.1=[]):∀ b,(goT b st.1 st.2).1=[]→bh ω 0 (goT b st.1 st.2).2.2=τ∧(goT b st.1 st.2).2.1=e.2:=by
 induction g with
 | nil =>
  intro b _
  rw [rP (.inl he)]
  exact⟨Oc ω,rfl⟩
 | @cons st e τ h1 g ih =>
  intro b hb
  by_cases hc:bL st.1 st.2≤b
  ·rw [uG h1 hc] at hb ⊢
   obtain⟨i1,i2⟩:=ih he (b - bL st.1 st.2) hb
   refine⟨?_,i2⟩
   show bh ω 0 (fK _ _)=_
   rw [En _ _ _ _ (by rw [El,vp]),Em]
   have i1:bh ω 0 (goT (b - bL st.1 st.2) (onward st.1 st.2).1 (onward st.1 st.2).2.1).2.2=τ:=i1
   rw [i1]
   show evW ω st+τ=τ+evW ω st
   lia
  ·rw [rP (.inr (by lia))] at hb
   exact absurd hb h1
def cP:Nat→Nat:=fun i=>if i=2∨i=14 then 0 else 1
theorem ud {st:Std}:evW cP st=bL st.1 st.2:=by
 have h12:=zq (tx:=st.1) (s:=st.2)
 unfold evW bL
 generalize stepT st.1 st.2=k at *
 by_cases h2:k=2
 ·subst h2
  rw [if_pos rfl,if_neg (by decide),if_pos rfl]
  show 0+_ * 1+0=_
  lia
 ·rw [if_neg h2,if_neg h2,show cP k=1 from if_neg (by lia)]
  split
  ·show 1+0+_ * 0=1; lia
  ·rfl
theorem DX {st e:Std}{c:Nat} (g:Wo cP st c e) (he:e.1=[]):∀ b,c≤b→(goT b st.1 st.2).1=[]∧spT b st.1 st.2=c:=by
 induction g with
 | nil =>
  intro b _
  rw [rP (.inl he),Q5 (.inl he)]
  exact⟨he,rfl⟩
 | @cons st e τ h1 g ih =>
  intro b hb
  rw [ud] at hb ⊢
  rw [uG h1 (by lia),Q6 h1 (by lia)]
  obtain⟨i1,i2⟩:=ih he (b - bL st.1 st.2) (by lia)
  exact⟨i1,by rw [show (onward st.1 st.2).1=(nx st).1 from rfl,show (onward st.1 st.2).2.1=(nx st).2 from rfl,i2]; lia⟩
theorem ajD {ω:Nat→Nat}:∀ b tx s,(goT b tx s).1=[]→Wo ω (tx,s) (bh ω 0 (goT b tx s).2.2) ([],(goT b tx s).2.1):=by
 refine Kg (fun b tx s h=>?_) (fun b tx s h1 h2 ih=>?_)
 ·rw [rP h]
  intro he
  have he:tx=[]:=he
  subst he
  exact Wo.nil.to (Oc ω).symm
 ·rw [uG h1 h2]
  intro he
  have g:=Wo.cons (ω:=ω) (st:=(tx,s)) h1 (ih he)
  refine g.to ?_
  show _=bh ω 0 (fK _ _)
  rw [En _ _ _ _ (by rw [El,vp]),Em]
  lia
theorem wN:leaf.parts=1:=by unfold leaf; rw [T.aN,T.aY]
theorem uH {s:List T}{m:Nat} (h:∀ t∈s,t.parts≤m) (h1:1≤m) (k:Nat):(ats s k).parts≤m:=by
 by_cases hk:k<s.length
 ·exact h _ (Yy hk)
 ·unfold ats
  rw [List.getElem?_eq_none (by lia)]
  show leaf.parts≤m
  rw [wN]; exact h1
theorem Qg (t:T):(ats t.kids 0).parts≤t.parts:=by
 have h:=T.cI t
 cases hk:t.kids with
 | nil=>show leaf.parts≤_; rw [wN]; rw [hk] at h; lia
 | cons a b=>rw [hk,T.aF] at h; show a.parts≤_; lia
theorem abL (t:T):(T.node (t.kids.drop 1)).parts≤t.parts:=by
 have h:=T.cI t
 have:=vX 1 t.kids
 rw [T.aN]; lia
theorem Um {s:List T}{m k:Nat} (h:∀ t∈s,t.parts≤m) (h1:1≤m) (hk:1≤k) (h6:k≤6) (h4:k≠4):∀ t∈jQ k s,t.parts≤m:=by
 have hd:∀ j,∀ t∈s.drop j,t.parts≤m:=fun j t ht=>h t (List.mem_of_mem_drop ht)
 have a0:=uH h h1 0
 have a1:=uH (hd 1) h1 0
 have a2:=uH (hd 2) h1 0
 intro t ht
 rcases (by lia:k=1∨k=2∨k=3∨k=5∨k=6) with rfl | rfl | rfl | rfl | rfl
 ·exact hd 1 t ht
 ·simp only [jQ,List.mem_cons] at ht
  rcases ht with rfl | rfl | z
  ·exact a0
  ·exact a0
  ·exact hd 1 t z
 ·simp only [jQ,List.mem_cons] at ht
  rcases ht with rfl | rfl | z
  ·exact a1
  ·exact a0
  ·exact hd 2 t z
 ·simp only [jQ,List.mem_cons] at ht
  rcases ht with rfl | rfl | z
  ·exact Nat.le_trans (Qg _) a0
  ·exact Nat.le_trans (abL _) a0
  ·exact hd 1 t z
 ·simp only [jQ,List.mem_cons] at ht
  rcases ht with rfl | rfl | rfl | z
  ·exact a2
  ·exact a0
  ·exact a1
  ·exact hd 3 t z
theorem Xx {w:T}{s:List T}{m:Nat} (h:∀ t∈s,t.parts≤m) (h1:1≤m) (hw:w.parts≤m) (h4:aB w≠4):∀ t∈behind w s,t.parts≤m:=by
 by_cases h0:aB w=0
 ·rw [Gy h0]
  intro t ht
  rcases List.mem_cons.mp ht with rfl | z
  ·exact Nat.le_trans (uV w) hw
  ·exact h t z
 by_cases h6:aB w≤6
 ·rw [Eo (k:=aB w) (by lia) h6 rfl]
  exact Um h h1 (by lia) h6 h4
 ·rw [j6 (by lia)]
  intro t ht
  unfold pad at ht
  rcases List.mem_append.mp ht with z | z
  ·exact h t z
  ·rw [List.eq_of_mem_replicate z,wN]; exact h1
def Pot (A i:Nat) (s:List T):Prop:=∃ m M,(∀ t∈s,t.parts≤m)∧T.aH s+8≤M∧A≤m∧m+8≤M∧m * M≤2 ^ i * (A * (A+8))
theorem Pot.up {A i:Nat}{s:List T} (h:Pot A i s):Pot A (i+1) s:=by
 obtain⟨m,M,h1,h2,h3,h4,h5⟩:=h
 have e2:2 ^ (i+1) * (A * (A+8))=2 * (2 ^ i * (A * (A+8))):=by rw [Nat.pow_succ,Nat.mul_comm (2 ^ i) 2,Nat.mul_assoc]
 exact⟨m,M,h1,h2,h3,h4,by lia⟩
theorem Pot.word {A i:Nat}{s:List T}{w:T} (hA:8≤A) (h:Pot A i s) (hw:w.parts≤A):Pot A (i+1) (behind w s):=by
 obtain⟨m,M,h1,h2,h3,h4,h5⟩:=h
 have e2:2 ^ (i+1) * (A * (A+8))=2 * (2 ^ i * (A * (A+8))):=by rw [Nat.pow_succ,Nat.mul_comm (2 ^ i) 2,Nat.mul_assoc]
 by_cases h4':aB w=4
 ·rw [Eo (k:=4) (by decide) (by decide) h4']
  match s,h1,h2 with
  | [],h1,h2 =>
   refine⟨m,M,fun t ht=>?_,?_,h3,h4,by lia⟩
   ·have ht:t∈[T.node (leaf::leaf.kids)]:=ht
    rw [List.mem_singleton.mp ht,T.aN,T.aF,wN,show leaf.kids=[] from rfl,T.aY]; lia
   ·show T.aH [T.node (leaf::leaf.kids)]+8≤M
    rw [T.aF,T.aN,T.aF,wN,show leaf.kids=[] from rfl,T.aY]; lia
  | [a],h1,h2 =>
   have ha:=h1 a List.mem_cons_self
   have hp:(T.node (a::leaf.kids)).parts=a.parts+1:=by rw [T.aN,T.aF,show leaf.kids=[] from rfl,T.aY]; lia
   rw [T.aF,T.aY] at h2
   refine⟨m+1,M+1,fun t ht=>?_,?_,by lia,by lia,?_⟩
   ·have ht:t∈[T.node (a::leaf.kids)]:=ht
    rw [List.mem_singleton.mp ht,hp]; lia
   ·show T.aH [T.node (a::leaf.kids)]+8≤M+1
    rw [T.aF,hp,T.aY]; lia
   ·have h8:8 * M≤m * M:=Nat.mul_le_mul_right M (by lia)
    have:(m+1) * (M+1)=m * M+m+M+1:=by rw [Nat.add_mul,Nat.mul_add,Nat.one_mul]; lia
    lia
  | a::b::r,h1,h2 =>
   have ha:=h1 a List.mem_cons_self
   have hb:=h1 b (List.mem_cons_of_mem _ List.mem_cons_self)
   have hp:(T.node (a::b.kids)).parts=a.parts+b.parts:=by rw [T.aN,T.aF]; have:=T.cI b; lia
   rw [T.aF,T.aF] at h2
   refine⟨max m (a.parts+b.parts),M,fun t ht=>?_,?_,by lia,by lia,?_⟩
   ·have ht:t∈T.node (a::b.kids)::r:=ht
    rcases List.mem_cons.mp ht with rfl | z
    ·rw [hp]; lia
    ·have:=h1 t (List.mem_cons_of_mem _ (List.mem_cons_of_mem _ z)); lia
   ·show T.aH (T.node (a::b.kids)::r)+8≤M
    rw [T.aF,hp]; lia
   ·have:max m (a.parts+b.parts) * M≤2 * m * M:=Nat.mul_le_mul_right M (by lia)
    have:2 * m * M=2 * (m * M):=Nat.mul_assoc _ _ _
    lia
 ·have hb:=zW w s
  have hl:=uV w
  have ha:=uH h1 (by lia) 0
  refine⟨m,2 * M,Xx h1 (by lia) (by lia) h4',?_,h3,by lia,?_⟩
  ·split at hb <;> split at hb <;> lia
  ·have:m * (2 * M)=2 * (m * M):=by rw [← Nat.mul_assoc,Nat.mul_comm m 2,Nat.mul_assoc]
   lia
theorem Pot.next {A i:Nat}{tx s:List T} (hA:8≤A) (h:Pot A i s) (hw:Wds A tx):Pot A (i+1) (onward tx s).2.1:=by
 match tx with
 | []=>exact h.up
 | .node []::ts=>exact h.up
 | .node (w::ws)::ts =>
  rw [(BL w ws ts s).2.2]
  exact h.word hA (hw _ List.mem_cons_self w List.mem_cons_self)
theorem Pot.all {i:Nat}{s:List T} (h:Pot 2700 i s):∀ t∈s,t.parts≤2704 * 2 ^ ((i+1) / 2):=by
 obtain⟨m,M,h1,_,_,h4,h5⟩:=h
 intro t ht
 have:=h1 t ht
 refine Nat.le_trans this ?_
 apply Classical.byContradiction
 intro hc
 have hc:2704 * 2 ^ ((i+1) / 2)<m:=by lia
 have h6:m * m≤m * M:=Nat.mul_le_mul_left m (by lia)
 have h7:(2704 * 2 ^ ((i+1) / 2)) * (2704 * 2 ^ ((i+1) / 2))<m * m:=Nat.mul_lt_mul'' hc hc
 have h8:2 ^ i≤2 ^ ((i+1) / 2) * 2 ^ ((i+1) / 2):=by
  rw [← Nat.pow_add]
  exact Nat.pow_le_pow_right (by decide) (by lia)
 have h9:(2704 * 2 ^ ((i+1) / 2)) * (2704 * 2 ^ ((i+1) / 2))=7311616 * (2 ^ ((i+1) / 2) * 2 ^ ((i+1) / 2)):=by
  rw [Nat.mul_mul_mul_comm]
 lia
def abm:Nat→Nat
 | 0=>2700
 | i+1=>abm i+2704 * 2 ^ ((i+1) / 2)+3
theorem af2 {tx s:List T} (hd:iy 40 (tx,s)) (hw:Wds 2700 tx) (hc:T.aH tx≤20000) (hs:T.aH s≤2700):uJ 14 (tx,s):=by
 have key:∀ i,i≤14→Wds 2700 (stN i (tx,s)).1∧T.aH (stN i (tx,s)).1≤20000+i * 2700∧Pot 2700 i (stN i (tx,s)).2∧T.aH (stN i (tx,s)).2≤abm i:=by
  intro i
  induction i with
  | zero =>
   intro _
   refine⟨hw,by show T.aH tx≤_; lia,⟨2700,2708,fun t ht=>?_,by show T.aH s+8≤_; lia,by lia,by lia,by decide⟩,hs⟩
   have ht:t∈s:=ht
   have:=T.jd ht
   lia
  | succ i ih =>
   intro hi
   obtain⟨h1,h2,h3,h4⟩:=ih (by lia)
   obtain⟨g1,g2,_⟩:=h1.next (s:=(stN i (tx,s)).2)
   refine⟨g1,by show T.aH (onward _ _).1≤_; lia,h3.next (by decide) h1,?_⟩
   have ha:=uH h3.all (Nat.le_trans (show 1≤2704 * 1 by decide) (Nat.mul_le_mul_left _ (Nat.pow_pos (n:=(i+1) / 2) (show 0<2 by decide)))) 0
   have hR:2700≤2704 * 2 ^ ((i+1) / 2):=Nat.le_trans (show 2700≤2704 * 1 by decide) (Nat.mul_le_mul_left _ (Nat.pow_pos (n:=(i+1) / 2) (show 0<2 by decide)))
   show T.aH (onward (stN i (tx,s)).1 (stN i (tx,s)).2).2.1≤abm i+2704 * 2 ^ ((i+1) / 2)+3
   generalize 2704 * 2 ^ ((i+1) / 2)=R at *
   generalize stN i (tx,s)=st at *
   match hst:st.1 with
   | []=>show T.aH st.2≤_; lia
   | .node []::ts=>show T.aH st.2≤_; lia
   | .node (w::ws)::ts =>
    rw [(BL w ws ts st.2).2.2]
    have hb:=zW w st.2
    have hl:=uV w
    rw [hst] at h1
    have hwp:=h1 _ List.mem_cons_self w List.mem_cons_self
    split at hb <;> split at hb <;> lia
 intro i hi
 refine⟨(afL (by lia) hd i).le (by lia),?_⟩
 obtain⟨_,h2,_,h3⟩:=key i hi
 have h4:∀ i,i≤14→abm i≤1100000:=by decide
 have:=h4 i hi
 show T.aH _+T.aH _≤_
 lia
def Ku:List Nat:=[2,2,0,1,2,2,2,0,0,0,1,0,1,0,0]
def Vx:List (List Nat):=[[0,1,0,1,2,3,4,1,1,1,0,0,3,0,1169],
 [0,4,0,3,1,5,0,2,1,1,0,0,4,0,1169],
 [0,4,1,6,3,6,1,3,1,1,0,0,5,0,1169],
 [0,5,0,8,3,8,1,4,1,1,0,0,6,0,1169],
 [0,6,0,7,3,9,1,5,1,1,0,0,7,0,1169],
 [0,7,0,8,3,10,2,6,1,1,0,0,8,0,1169],
 [0,8,0,12,4,12,2,7,1,1,0,0,9,0,1169],
 [0,9,0,9,3,12,4,9,1,1,0,0,11,0,1169],
 [0,9,0,8,3,12,4,8,2,1,0,0,11,0,1169],
 [0,0,1,19,15,14,7,10,1,1,0,0,12,0,1169],
 [0,1,0,17,11,12,4,9,2,1,0,0,12,0,1169],
 [0,10,0,8,1,11,0,10,0,1,0,0,11,0,1169],
 [0,1,0,0,0,1,0,0,1,1,0,0,2,0,1169],
 [0,0,0,0,0,0,0,0,0,0,0,0,0,1,0],
 [0,0,0,0,0,0,0,0,0,0,0,0,0,1,0]]
def VL:List Nat→List (List Nat)→List Nat→List Nat
 | n::ns,r::rs,acc=>VL ns rs (acc.zipWith (· + ·) (r.map (n * ·)))
 | _,_,acc=>acc
def turnT (ns:List Nat):List Nat:=VL ns Vx Ku
theorem VJ:∀ {ns:List Nat}{rs:List (List Nat)}{acc:List Nat},(∀ r∈rs,r.length=15)→acc.length=15→(VL ns rs acc).length=15
 | [],_,_,_,h=>by cases ‹List (List Nat)› <;> exact h
 | _::_,[],_,_,h=>h
 | n::ns,r::rs,acc,h,ha=>by
  have hr:=h r List.mem_cons_self
  exact VJ (ns:=ns) (rs:=rs) (acc:=acc.zipWith (· + ·) (r.map (n * ·))) (fun r' hr'=>h r' (List.mem_cons_of_mem _ hr')) (by rw [List.length_zipWith,ha,List.length_map,hr]; rfl)
theorem XM:∀ r∈Vx,r.length=15:=by decide
theorem VF (ns:List Nat):(turnT ns).length=15:=VJ XM rfl
theorem Uq (ω:Nat→Nat) (n:Nat):∀ (r:List Nat) (i:Nat),bh ω i (r.map (n * ·))=n * bh ω i r
 | [],_=>rfl
 | m::r,i=>by
  show n * m * ω i+bh ω (i+1) (r.map (n * ·))=n * (m * ω i+bh ω (i+1) r)
  rw [Uq ω n r (i+1),Nat.mul_add,Nat.mul_assoc]
def abX (ω:Nat→Nat):List Nat→List (List Nat)→Nat
 | n::ns,r::rs=>n * bh ω 0 r+abX ω ns rs
 | _,_=>0
theorem X8 (ω:Nat→Nat):∀ (ns:List Nat) (rs:List (List Nat)) (acc:List Nat),(∀ r∈rs,r.length=15)→acc.length=15→bh ω 0 (VL ns rs acc)=bh ω 0 acc+abX ω ns rs
 | [],[],_,_,_=>rfl
 | [],_::_,_,_,_=>rfl
 | _::_,[],_,_,_=>rfl
 | n::ns,r::rs,acc,h,ha=>by
  have hr:=h r List.mem_cons_self
  show bh ω 0 (VL ns rs (fK acc (r.map (n * ·))))=bh ω 0 acc+(n * bh ω 0 r+abX ω ns rs)
  rw [X8 ω ns rs _ (fun r' hr'=>h r' (List.mem_cons_of_mem _ hr')) (by unfold fK; rw [List.length_zipWith,ha,List.length_map,hr]; rfl),En _ _ _ _ (by rw [ha,List.length_map,hr]),Uq]
  lia
theorem ajQ (ω:Nat→Nat):bh ω 0 [0,1,0,1,2,3,4,1,1,1,0,0,3,0,1169]=bJ ω 0:=by simp only [bh,bJ,Nat.reduceAdd]; lia
theorem ajP (ω:Nat→Nat):bh ω 0 [0,4,0,3,1,5,0,2,1,1,0,0,4,0,1169]=bJ ω 1:=by simp only [bh,bJ,Nat.reduceAdd]; lia
theorem ajO (ω:Nat→Nat):bh ω 0 [0,4,1,6,3,6,1,3,1,1,0,0,5,0,1169]=bJ ω 2:=by simp only [bh,bJ,Nat.reduceAdd]; lia
theorem ajN (ω:Nat→Nat):bh ω 0 [0,5,0,8,3,8,1,4,1,1,0,0,6,0,1169]=bJ ω 3:=by simp only [bh,bJ,Nat.reduceAdd]; lia
theorem ajM (ω:Nat→Nat):bh ω 0 [0,6,0,7,3,9,1,5,1,1,0,0,7,0,1169]=bJ ω 4:=by simp only [bh,bJ,Nat.reduceAdd]; lia
theorem ajL (ω:Nat→Nat):bh ω 0 [0,7,0,8,3,10,2,6,1,1,0,0,8,0,1169]=bJ ω 5:=by simp only [bh,bJ,Nat.reduceAdd]; lia
theorem ajK (ω:Nat→Nat):bh ω 0 [0,8,0,12,4,12,2,7,1,1,0,0,9,0,1169]=bJ ω 6:=by simp only [bh,bJ,Nat.reduceAdd]; lia
theorem ajJ (ω:Nat→Nat):bh ω 0 [0,9,0,9,3,12,4,9,1,1,0,0,11,0,1169]=bJ ω 7:=by simp only [bh,bJ,Nat.reduceAdd]; lia
theorem ajI (ω:Nat→Nat):bh ω 0 [0,9,0,8,3,12,4,8,2,1,0,0,11,0,1169]=bJ ω 8:=by simp only [bh,bJ,Nat.reduceAdd]; lia
theorem ajH (ω:Nat→Nat):bh ω 0 [0,0,1,19,15,14,7,10,1,1,0,0,12,0,1169]=bJ ω 9:=by simp only [bh,bJ,Nat.reduceAdd]; lia
theorem ahz (ω:Nat→Nat):bh ω 0 [0,1,0,17,11,12,4,9,2,1,0,0,12,0,1169]=bJ ω 10:=by simp only [bh,bJ,Nat.reduceAdd]; lia
theorem ahy (ω:Nat→Nat):bh ω 0 [0,10,0,8,1,11,0,10,0,1,0,0,11,0,1169]=bJ ω 11:=by simp only [bh,bJ,Nat.reduceAdd]; lia
theorem ahx (ω:Nat→Nat):bh ω 0 [0,1,0,0,0,1,0,0,1,1,0,0,2,0,1169]=bJ ω 12:=by simp only [bh,bJ,Nat.reduceAdd]; lia
theorem ahw (ω:Nat→Nat):bh ω 0 [0,0,0,0,0,0,0,0,0,0,0,0,0,1,0]=bJ ω 13:=by simp only [bh,bJ,Nat.reduceAdd]; lia
theorem ajG (ω:Nat→Nat):bh ω 0 Ku=Eu ω:=by simp only [bh,Ku,Eu,Nat.reduceAdd]; lia
theorem ae8 (ω:Nat→Nat) {ns:List Nat} (h:ns.length=15):bh ω 0 (turnT ns)=bh (bJ ω) 0 ns+Eu ω:=by
 unfold turnT
 rw [X8 ω ns Vx Ku XM rfl,ajG]
 match ns,h with
 | [a0,a1,a2,a3,a4,a5,a6,a7,a8,a9,a10,a11,a12,a13,a14],_ =>
  unfold Vx
  simp only [abX,ajQ,ajP,ajO,ajN,ajM,ajL,ajK,ajJ,ajI,ajH,ahz,ahy,ahx,ahw]
  simp only [bh,Nat.reduceAdd]
  rw [show bJ ω 14=bJ ω 13 from rfl]
  lia
theorem Fe {x:T}{its s cs us:List T}{ns:List Nat} (hn:ns.length=15) (h:∀ ω,Wo ω ([x],[.node its]) (bh ω 0 ns) ([],s)):∀ ω,Wo ω (.node dh::cs,.node (x::its)::us) (bh ω 0 (turnT ns)) (cs,ats s 0::us):=fun ω=>by
 rw [ae8 ω hn]
 exact ahX (h (bJ ω))
theorem afQ {st e:Std}{ns:List Nat} (hn:ns.length=15) (h:∀ ω,Wo ω st (bh ω 0 ns) e) (he:e.1=[]) {b:Nat} (hb:bh cP 0 ns≤b):goT b st.1 st.2=([],e.2,ns)∧spT b st.1 st.2=bh cP 0 ns:=by
 obtain⟨h1,h2⟩:=DX (h cP) he b hb
 have h3:=fun ω=>(nD (h ω) he b h1).1
 have h4:=(nD (h cP) he b h1).2
 have h5:(goT b st.1 st.2).2.2=ns:=agT (by rw [vp,hn]) h3
 refine⟨?_,h2⟩
 rw [← h1,← h4,← h5]
theorem aaQ {us:List T}{n:Nat} (h:∀ v∈us,v.parts≤n):∀ v∈(ats us 0).kids,v.parts≤n:=fun v hv=>by
 cases us with
 | nil=>cases hv
 | cons a b =>
  have hv:v∈a.kids:=hv
  have h1:=h a List.mem_cons_self
  have h2:=T.jd hv
  have h3:=T.cI a
  lia
theorem Vf {w:T}{s:List T}{m:Nat} (h:∀ t∈s,t.parts≤m) (h1:1≤m) (hw:aB w=0→(aZ w).parts≤m) (h4:aB w≠4):∀ t∈behind w s,t.parts≤m:=by
 by_cases h0:aB w=0
 ·rw [Gy h0]
  intro t ht
  rcases List.mem_cons.mp ht with rfl | z
  ·exact hw h0
  ·exact h t z
 by_cases h6:aB w≤6
 ·rw [Eo (k:=aB w) (by lia) h6 rfl]
  exact Um h h1 (by lia) h6 h4
 ·rw [j6 (by lia)]
  intro t ht
  unfold pad at ht
  rcases List.mem_append.mp ht with z | z
  ·exact h t z
  ·rw [List.eq_of_mem_replicate z,wN]; exact h1
theorem Pot.ajC {A i:Nat}{s:List T}{w:T} (hA:8≤A) (h:Pot A i s) (hw:aB w=0→(aZ w).parts≤A):Pot A (i+1) (behind w s):=by
 obtain⟨m,M,h1,h2,h3,h4,h5⟩:=h
 have e2:2 ^ (i+1) * (A * (A+8))=2 * (2 ^ i * (A * (A+8))):=by rw [Nat.pow_succ,Nat.mul_comm (2 ^ i) 2,Nat.mul_assoc]
 by_cases h4':aB w=4
 ·rw [Eo (k:=4) (by decide) (by decide) h4']
  match s,h1,h2 with
  | [],h1,h2 =>
   refine⟨m,M,fun t ht=>?_,?_,h3,h4,by lia⟩
   ·have ht:t∈[T.node (leaf::leaf.kids)]:=ht
    rw [List.mem_singleton.mp ht,T.aN,T.aF,wN,show leaf.kids=[] from rfl,T.aY]; lia
   ·show T.aH [T.node (leaf::leaf.kids)]+8≤M
    rw [T.aF,T.aN,T.aF,wN,show leaf.kids=[] from rfl,T.aY]; lia
  | [a],h1,h2 =>
   have ha:=h1 a List.mem_cons_self
   have hp:(T.node (a::leaf.kids)).parts=a.parts+1:=by rw [T.aN,T.aF,show leaf.kids=[] from rfl,T.aY]; lia
   rw [T.aF,T.aY] at h2
   refine⟨m+1,M+1,fun t ht=>?_,?_,by lia,by lia,?_⟩
   ·have ht:t∈[T.node (a::leaf.kids)]:=ht
    rw [List.mem_singleton.mp ht,hp]; lia
   ·show T.aH [T.node (a::leaf.kids)]+8≤M+1
    rw [T.aF,hp,T.aY]; lia
   ·have h8:8 * M≤m * M:=Nat.mul_le_mul_right M (by lia)
    have:(m+1) * (M+1)=m * M+m+M+1:=by rw [Nat.add_mul,Nat.mul_add,Nat.one_mul]; lia
    lia
  | a::b::r,h1,h2 =>
   have ha:=h1 a List.mem_cons_self
   have hb:=h1 b (List.mem_cons_of_mem _ List.mem_cons_self)
   have hp:(T.node (a::b.kids)).parts=a.parts+b.parts:=by rw [T.aN,T.aF]; have:=T.cI b; lia
   rw [T.aF,T.aF] at h2
   refine⟨max m (a.parts+b.parts),M,fun t ht=>?_,?_,by lia,by lia,?_⟩
   ·have ht:t∈T.node (a::b.kids)::r:=ht
    rcases List.mem_cons.mp ht with rfl | z
    ·rw [hp]; lia
    ·have:=h1 t (List.mem_cons_of_mem _ (List.mem_cons_of_mem _ z)); lia
   ·show T.aH (T.node (a::b.kids)::r)+8≤M
    rw [T.aF,hp]; lia
   ·have:max m (a.parts+b.parts) * M≤2 * m * M:=Nat.mul_le_mul_right M (by lia)
    have:2 * m * M=2 * (m * M):=Nat.mul_assoc _ _ _
    lia
 ·have hb:=zW w s
  have ha:=uH h1 (by lia) 0
  refine⟨m,2 * M,Vf h1 (by lia) (fun z=>Nat.le_trans (hw z) h3) h4',?_,h3,by lia,?_⟩
  ·by_cases c0:aB w=0
   ·have:=hw c0
    rw [if_pos c0,if_neg (by lia)] at hb
    lia
   ·rw [if_neg c0] at hb
    split at hb <;> lia
  ·have:m * (2 * M)=2 * (m * M):=by rw [← Nat.mul_assoc,Nat.mul_comm m 2,Nat.mul_assoc]
   lia
def Fp:Nat→Nat
 | 0=>44 | 1=>63 | 2=>89 | 3=>126 | 4=>179 | 5=>253 | 6=>358 | 7=>507 | 8=>717 | 9=>1014 | 10=>1434 | 11=>2028 | _=>3000
theorem Pot.top {i:Nat}{s:List T} (hi:i≤11) (h:Pot 41 i s):(ats s 0).parts≤Fp i:=by
 obtain⟨m,M,h1,_,h3,h4,h5⟩:=h
 refine Nat.le_trans (uH h1 (by lia) 0) ?_
 apply Classical.byContradiction
 intro hc
 have hc:Fp i+1≤m:=by lia
 have h7:(Fp i+1) * (Fp i+1)≤m * M:=Nat.mul_le_mul hc (by lia)
 have h8:∀ i,i≤11→2 ^ i * (41 * (41+8))<(Fp i+1) * (Fp i+1):=by decide
 have:=h8 i hi
 lia
section
variable {ω:Nat→Nat}{r cs us:List T}{e:Std}{τ:Nat}
end
def In (a w:Nat) (st:Std):Prop:=iy a st∧wt st≤w
def abP (r cs us:List T) (d:Std):Std:=(.node (bU++r)::cs,.node d.1::.node d.2::us)
theorem okIn {st:Std}{a w:Nat} (h:In a w st) (ha:a≤390) (hw:w≤7900000):BX st.1∧B 390 8000000 (.node st.2):=agw h.1 ha (Nat.le_trans h.2 hw)
section
variable {ω:Nat→Nat}{t cs us:List T}{e:Std}{τ:Nat}
end
theorem Ka:∀ (k:Nat) {st:Std},st.1=[]→stN k st=st
 | 0,_,_=>rfl
 | k+1,st,h=>by
  rw [jP,show nx st=st from ?_]
  ·exact Ka k h
  ·obtain⟨tx,s⟩:=st
   have h:tx=[]:=h
   subst h
   rfl
theorem afR {r cs us:List T}{x:T}{its:List T}:Wlk (.node (dh++r)::cs,.node (x::its)::us) 7 7 (abP r cs us ([x],[.node its])) :=
 pR (Vo (eF (bZ (Vo (eF (bZ .nil))))))
theorem In.mk1 {a w:Nat}{c s:List T} (h1:T.bD c≤a) (h2:T.bD s≤a) (h3:T.aH c+T.aH s≤w):In a w (c,s):=⟨⟨by show (T.node c).deep≤a; rw [T.aR]; exact h1,by show (T.node s).deep≤a; rw [T.aR]; exact h2⟩,h3⟩
theorem air {b:Nat}{tx s:List T} (he:(goT b tx s).1=[]):∀ ω,Wo ω (tx,s) (bh ω 0 (goT b tx s).2.2) ([],(goT b tx s).2.1):=fun ω=>ajD b tx s he
open PySem PySem.Spec PyProof.Rows L2
section
variable {ω:Nat→Nat}
end
end Sw
namespace Sw
theorem DY {st e:Std}{n c:Nat} (g:Wlk st n c e):Wo cP st c e:=by
 induction g with
 | nil=>exact .nil
 | @cons st e n c h1 _ _ ih=>exact (Wo.cons h1 ih).to (by rw [ud,← Er])
section
variable {t cs us:List T}{n c:Nat}{e:Std}
end
section
variable {g f h:List T}{x:T}
end
def aho:Nat→Nat→Nat
 | _,0=>0
 | k,j+1=>Fp k+aho (k+1) j
theorem aj0 {s:List T} (h:T.aH s≤41):Pot 41 0 s:=⟨41,49,fun t ht=>by have:=T.jd ht; lia,by lia,by lia,by lia,by decide⟩
section
variable {a:T}{l s:List T}
end
inductive vO:T→Prop
 | mk {t:T} (h:t.kids.length≤3) (g:∀ w∈t.kids,vO w):vO t
theorem BR:vO (.node []):=.mk (by decide) fun w hw=>by cases hw
theorem vO.len {t:T} (h:vO t):t.kids.length≤3:=by cases h; assumption
theorem vO.kid {t w:T} (h:vO t) (hw:w∈t.kids):vO w:=by cases h with | mk _ g=>exact g w hw
theorem aaJ {us:List T} (h:∀ w∈us,vO w):vO (ats us 0):=by
 cases us with
 | nil=>exact BR
 | cons a b=>exact h a List.mem_cons_self
inductive GV:T→Prop
 | mk {w:T} (h0:aB w=0→(aZ w).parts≤41) (h7:aB w=7→∀ v∈(ats (w.kids.drop 1) 0).kids,GV v) (h7':aB w=7→∀ v∈w.kids.drop 2,GV v) (h8:aB w=8→∀ v∈w.kids.drop 1,GV v)
  (l7:aB w=7→(ats (w.kids.drop 1) 0).kids.length≤3∧(w.kids.drop 2).length≤3) (l8:aB w=8→(w.kids.drop 1).length≤3∧(aZ w).parts≤185):GV w
theorem Qk:∀ (n:Nat) (w:T),w.parts≤n→n≤41→vO w→GV w:=by
 intro n
 induction n with
 | zero=>intro w h; have:=T.gC w; lia
 | succ n ih =>
  intro w h hn hf
  have hl:=uV w
  have hk:=T.cI w
  have hkd:∀ v∈w.kids,v.parts≤n:=fun v hv=>by
   have:=T.jd hv
   lia
  have hfl:=hf.len
  have fat:=aaJ (us:=w.kids.drop 1) fun v hv=>hf.kid (List.mem_of_mem_drop hv)
  exact .mk (fun _=>by lia) (fun _ v hv=>ih v (aaQ (fun v hv=>hkd v (List.mem_of_mem_drop hv)) v hv) (by lia) (fat.kid hv)) (fun _ v hv=>ih v (hkd v (List.mem_of_mem_drop hv)) (by lia) (hf.kid (List.mem_of_mem_drop hv))) (fun _ v hv=>ih v (hkd v (List.mem_of_mem_drop hv)) (by lia) (hf.kid (List.mem_of_mem_drop hv)))
   (fun _=>⟨fat.len,by rw [List.length_drop]; lia⟩) (fun _=>⟨by rw [List.length_drop]; lia,by lia⟩)
theorem aio {us:List T} (h:(T.node us).parts≤41):GV (.node (.node []::us)):=.mk (fun _=>h) (fun z=>absurd z (by show min 9 0≠7; decide)) (fun z=>absurd z (by show min 9 0≠7; decide)) (fun z=>absurd z (by show min 9 0≠8; decide)) (fun z=>absurd z (by show min 9 0≠7; decide)) (fun z=>absurd z (by show min 9 0≠8; decide))
theorem agL {as us:List T}{u:T} (hl:as.length=7) (h1:∀ v∈u.kids,GV v) (h2:∀ v∈us,GV v) (l1:u.kids.length≤3) (l2:us.length≤3):GV (.node (.node as::u::us)):=by
 have e:aB (.node (.node as::u::us))=7:=by show min 9 as.length=7; lia
 exact .mk (fun z=>by lia) (fun _=>h1) (fun _=>h2) (fun z=>by lia) (fun _=>⟨l1,l2⟩) (fun z=>by lia)
theorem ae1 {as us:List T} (hl:as.length=8) (h2:∀ v∈us,GV v) (l2:us.length≤3) (hp:(T.node us).parts≤185):GV (.node (.node as::us)):=by
 have e:aB (.node (.node as::us))=8:=by show min 9 as.length=8; lia
 exact .mk (fun z=>by lia) (fun z=>by lia) (fun z=>by lia) (fun _=>h2) (fun z=>by lia) (fun _=>⟨l2,hp⟩)
theorem agK {as us:List T} (hl:1≤as.length) (h:(T.node us).parts≤41) (hf:vO (.node us)):GV (.node (.node as::us)):=by
 have e:aB (.node (.node as::us))=min 9 as.length:=rfl
 have hk:∀ v∈us,v.parts≤40:=fun v hv=>by have:=T.jd hv; rw [T.aN] at h; lia
 have hfk:∀ v∈us,vO v:=fun v hv=>hf.kid hv
 have hfl:us.length≤3:=hf.len
 have fat:=aaJ hfk
 exact .mk (fun z=>by lia) (fun _ v hv=>Qk 40 v (aaQ hk v hv) (by lia) (fat.kid hv)) (fun _ v hv=>Qk 40 v (hk v (List.mem_of_mem_drop (show v∈us.drop 1 from hv))) (by lia) (hfk v (List.mem_of_mem_drop (show v∈us.drop 1 from hv)))) (fun _ v hv=>Qk 40 v (hk v hv) (by lia) (hfk v hv))
  (fun _=>⟨fat.len,by show (us.drop 1).length≤3; rw [List.length_drop]; lia⟩) (fun _=>⟨hfl,by show (T.node us).parts≤185; lia⟩)
def GX (tx:List T):Prop:=∀ t∈tx,∀ w∈t.kids,GV w
def left:List T→Nat
 | []=>0
 | t::ts=>t.kids.length+left ts
def Few (n k:Nat) (tx:List T):Prop:=5 * k+2 * left tx+3 * n≤37+3 * tx.length
theorem Ro {k j:Nat}{s:List T} (h:Pot 41 k s) (hj:j≤1):Pot 41 k (pad s j):=by
 by_cases c:j≤s.length
 ·rw [dj c]; exact h
 ·have e:s=[]∧j=1:=by
   cases s with
   | nil=>exact⟨rfl,by have:([]:List T).length=0:=rfl; lia⟩
   | cons a b=>exfalso; rw [List.length_cons] at c; lia
  obtain⟨rfl,rfl⟩:=e
  obtain⟨m,M,h1,h2,h3,h4,h5⟩:=h
  refine⟨m,M,fun t ht=>?_,?_,h3,h4,h5⟩
  ·have ht:t∈[leaf]:=ht
   rw [List.mem_singleton.mp ht,wN]; lia
  ·show T.aH [leaf]+8≤M
   rw [T.aF,wN,T.aY]; lia
theorem Xq (st:Std):st.1.length≤(nx st).1.length+1∧((ats st.1 0).kids≠[]→st.1.length≤(nx st).1.length):=by
 obtain⟨tx,s⟩:=st
 match tx with
 | []=>exact⟨Nat.zero_le _,fun _=>Nat.zero_le _⟩
 | .node []::ts=>exact⟨Nat.le_refl _,fun z=>absurd rfl z⟩
 | .node (w::ws)::ts =>
  have key:(T.node (w::ws)::ts).length≤(onward (.node (w::ws)::ts) s).1.length:=by
   rw [gG]
   split
   ·split <;> exact Nat.le_succ _
   ·split
    ·split
     ·exact Nat.le_succ _
     ·exact Nat.le_refl _
    ·split <;> exact Nat.le_refl _
  exact⟨Nat.le_succ_of_le key,fun _=>key⟩
theorem aaE:∀ (n:Nat) {st:Std},(stN n st).1=[]→st.1.length≤n
 | 0,st,h=>by have h:st.1=[]:=h; rw [h]; exact Nat.le_refl _
 | n+1,st,h=>by
  rw [jP] at h
  have h1:=aaE n h
  have h2:=(Xq st).1
  lia
theorem ae5 {n k:Nat}{tx s:List T} (hne:tx≠[]) (hg:GX tx) (hp:Pot 41 k s) (hf:Few (n+1) k tx) (hn:(ats tx 0).kids≠[]→tx.length≤n) (hk:k≤7) :
  GX (onward tx s).1∧(∃ k',Pot 41 k' (onward tx s).2.1∧Few n k' (onward tx s).1∧k'≤7∧(k'=k∧ig tx s≤185∨k'=k+1∧ig tx s≤Fp k)):=by
 match tx,hne,hg,hf,hn with
 | .node []::ts,_,hg,hf,hn =>
  refine⟨fun t ht=>hg t (List.mem_cons_of_mem _ ht),k,hp,?_,hk,.inl ⟨rfl,Nat.zero_le _⟩⟩
  have hf:5 * k+2 * (0+left ts)+3 * (n+1)≤37+3 * (ts.length+1):=hf
  show 5 * k+2 * left ts+3 * n≤37+3 * ts.length
  lia
 | .node (w::ws)::ts,_,hg,hf,hn =>
  have hw:=hg _ List.mem_cons_self w List.mem_cons_self
  have hr:GX (.node ws::ts):=fun t ht=>by
   rcases List.mem_cons.mp ht with rfl | ht
   ·exact fun v hv=>hg _ List.mem_cons_self v (List.mem_cons_of_mem _ hv)
   ·exact hg t (List.mem_cons_of_mem _ ht)
  have hf:5 * k+2 * (ws.length+1+left ts)+3 * (n+1)≤37+3 * (ts.length+1):=hf
  have hn:ts.length+1≤n:=hn (by show w::ws≠[]; simp)
  have hex:ig (.node (w::ws)::ts) s=if aB w=2 then (ats s 0).parts else if aB w=8∧(ats s 0).kids≠[] then (aZ w).parts else 0:=rfl
  rw [gG]
  cases hw with
  | mk h0 h7 h7' h8 l7 l8 =>
  have rest:Few n k (.node ws::ts):=by
   show 5 * k+2 * (ws.length+left ts)+3 * n≤37+3 * (ts.length+1)
   lia
  by_cases c7:aB w=7
  ·rw [if_pos c7]
   have ex:ig (.node (w::ws)::ts) s≤185:=by rw [hex,if_neg (by lia),if_neg (fun z=>by lia)]; lia
   obtain⟨la,lb⟩:=l7 c7
   have hpp:Pot 41 k (behind w s):=by rw [j6 (by lia)]; exact Ro hp (by rw [c7]; decide)
   by_cases ck:(ats s 0).kids≠[]
   ·rw [if_pos ck]
    refine⟨fun t ht=>?_,k,hpp,?_,hk,.inl ⟨rfl,ex⟩⟩
    ·rcases List.mem_cons.mp ht with rfl | ht
     ·exact h7 c7
     ·exact hr t ht
    ·show 5 * k+2 * ((ats (w.kids.drop 1) 0).kids.length+(ws.length+left ts))+3 * n≤37+3 * (ts.length+1+1)
     lia
   ·rw [if_neg ck]
    refine⟨fun t ht=>?_,k,hpp,?_,hk,.inl ⟨rfl,ex⟩⟩
    ·rcases List.mem_cons.mp ht with rfl | ht
     ·exact h7' c7
     ·exact hr t ht
    ·show 5 * k+2 * ((w.kids.drop 2).length+(ws.length+left ts))+3 * n≤37+3 * (ts.length+1+1)
     lia
  rw [if_neg c7]
  by_cases c8:aB w=8
  ·rw [if_pos c8]
   obtain⟨la,lb⟩:=l8 c8
   have ex:ig (.node (w::ws)::ts) s≤185:=by
    rw [hex,if_neg (by lia)]
    split <;> lia
   have hpp:Pot 41 k (behind w s):=by rw [j6 (by lia)]; exact Ro hp (by rw [c8]; decide)
   by_cases ck:(ats s 0).kids≠[]
   ·rw [if_pos ck]
    refine⟨fun t ht=>?_,k,hpp,?_,hk,.inl ⟨rfl,ex⟩⟩
    ·rcases List.mem_cons.mp ht with rfl | ht
     ·exact fun v hv=>h8 c8 v (by cases w; exact hv)
     ·exact hg t ht
    ·have e:(aZ w).kids.length=(w.kids.drop 1).length:=by cases w; rfl
     show 5 * k+2 * ((aZ w).kids.length+(ws.length+1+left ts))+3 * n≤37+3 * (ts.length+1+1)
     lia
   ·rw [if_neg ck]
    exact⟨hr,k,hpp,rest,hk,.inl ⟨rfl,ex⟩⟩
  rw [if_neg c8]
  by_cases c9:aB w=9
  ·rw [if_pos c9]
   have ex:ig (.node (w::ws)::ts) s≤185:=by rw [hex,if_neg (by lia),if_neg (fun z=>c8 z.1)]; lia
   exact⟨hr,k,by rw [show (((.node ws::ts:List T),behind w s,11):List T×List T×Nat).2.1=behind w s from rfl,j6 (by lia)]; exact Ro hp (by rw [c9]; decide),rest,hk,.inl ⟨rfl,ex⟩⟩
  ·rw [if_neg c9]
   refine⟨hr,k+1,hp.ajC (by decide) h0,?_,by lia,.inr ⟨rfl,?_⟩⟩
   ·show 5 * (k+1)+2 * (ws.length+left ts)+3 * n≤37+3 * (ts.length+1)
    lia
   ·have ht:=hp.top (by lia)
    rw [hex,if_neg (show ¬ (aB w=8∧(ats s 0).kids≠[]) from fun z=>c8 z.1)]
    split <;> lia
def VN (k:Nat):Nat:=aho k (8 - k)
theorem acN {k:Nat} (h:k<8):VN k=Fp k+VN (k+1):=by
 unfold VN
 rw [show 8 - k=8 - (k+1)+1 by lia]
 rfl
def Nm (K:Nat) (ω:Nat→Nat):Nat→Nat:=fun k=>K * cP k+ω k
theorem S_ (K:Nat) (ω:Nat→Nat):∀ (ns:List Nat) (i:Nat),bh (Nm K ω) i ns=K * bh cP i ns+bh ω i ns
 | [],i=>by simp [bh]
 | n::ns,i=>by
  show n * Nm K ω i+bh (Nm K ω) (i+1) ns=K * (n * cP i+bh cP (i+1) ns)+(n * ω i+bh ω (i+1) ns)
  rw [S_ K ω ns (i+1)]
  unfold Nm
  rw [Nat.mul_add,Nat.mul_add,← Nat.mul_assoc,← Nat.mul_assoc,Nat.mul_comm n K]
  lia
theorem aiw {K:Nat}{ω:Nat→Nat}{st:Std}:evW (Nm K ω) st=K * evW cP st+evW ω st:=by
 obtain⟨tx,s⟩:=st
 rw [← Em,← Em,← Em,S_]
theorem aiv {ω:Nat→Nat} (h:∀ k,ω k≤1) {st:Std} (hs:B 390 8000000 (.node st.2)) (hx:BX st.1):evW ω st≤8000003 * bL st.1 st.2:=by
 have h1:=h (stepT st.1 st.2)
 have h13:=h 13
 have h14:=h 14
 have hc:=uf st.1 st.2
 have hl:(aZ (ats (ats st.1 0).kids 0)).parts≤8000001:=by
  have a1:=uV (ats (ats st.1 0).kids 0)
  have a2:=Qg (ats st.1 0)
  have a3:(ats st.1 0).parts≤8000000:=uH (fun t ht=>(hx.2 t ht).2) (by decide) 0
  lia
 have m14:(aZ (ats (ats st.1 0).kids 0)).parts * ω 14≤8000001 * 1:=Nat.mul_le_mul hl h14
 have m13:(ats st.2 0).parts * ω 13≤(ats st.2 0).parts * 1:=Nat.mul_le_mul_left _ h13
 have hct:bL st.1 st.2=if stepT st.1 st.2=2 then (ats st.2 0).parts else 1:=rfl
 unfold evW
 by_cases c2:stepT st.1 st.2=2
 ·rw [if_pos c2] at hct
  rw [if_pos c2,if_neg (by lia),hct]
  have:=T.gC (ats st.2 0)
  lia
 ·rw [if_neg c2] at hct
  rw [if_neg c2,hct]
  split <;> lia
theorem acz {st:List T}:∀ {k:Nat},1≤k→k≤6 →
  ∃ m d,m≤11∧d≤11+(if k=2 then (ats st 0).parts else 0)∧∀ (x:T) (t cs us:List T) (n c:Nat) (e:Std),Wlk (.node t::cs,.node (jQ k st)::x::us) n c e→Wlk (.node (QM k++t)::cs,ats st 0::.node (st.drop 1)::x::us) (n+m) (c+d) e:=by
 intro k h1 h6
 rcases (by lia:k=1∨k=2∨k=3∨k=4∨k=5∨k=6) with rfl | rfl | rfl | rfl | rfl | rfl
 ·exact⟨1,1,by decide,by rw [if_neg (by decide)]; decide,fun x t cs us n c e g=>su g⟩
 ·exact⟨6,5+(ats st 0).parts,by decide,by rw [if_pos rfl]; lia,fun x t cs us n c e g=>(acA (eF (fj (bZ (fj (bZ g)))))).to rfl (by lia)⟩
 ·exact⟨7,7,by decide,by rw [if_neg (by decide)]; decide,fun x t cs us n c e g=>fj (pH (fj (eF (bZ (fj (bZ (by rw [List.drop_drop]; exact g)))))))⟩
 ·refine⟨5,5,by decide,by rw [if_neg (by decide)]; decide,fun x t cs us n c e g=>fj (pH (eF ?_))⟩
  rw [show ats (st.drop 1) 0=.node (ats (st.drop 1) 0).kids from (h_ _).symm]
  exact bZ (bZ (by rw [List.drop_drop]; exact g))
 ·refine⟨6,6,by decide,by rw [if_neg (by decide)]; decide,fun x t cs us n c e g=>?_⟩
  rw [show ats st 0=.node (ats st 0).kids from (h_ _).symm]
  exact pH (eF (eF (bZ (fj (bZ g)))))
 ·exact⟨11,11,by decide,by rw [if_neg (by decide)]; decide,fun x t cs us n c e g=>fj (pH (fj (pH (fj (eF (bZ (eF (bZ (fj (bZ (by rw [List.drop_drop,List.drop_drop]; exact g)))))))))))⟩
theorem Z9 {as l xs ts st:List T} :
  ∃ m d,m≤100∧(1≤as.length→as.length≤8→5 * as.length+9≤m)∧d≤100+(if as.length=2 then (ats st 0).parts else 0)+(if as.length=8∧(ats st 0).kids≠[] then (T.node l).parts else 0) ∧
   ∀ (cs us:List T) (n c:Nat) (e:Std),Wlk (cs,.node (resT as l xs ts st).1::.node (resT as l xs ts st).2::us) n c e→Wlk (.node (cB 8)::cs,.node as::.node l::.node xs::.node ts::.node st::us) (n+m) (c+d) e:=by
 by_cases h0:as.length=0
 ·have:as=[]:=List.length_eq_zero_iff.mp h0
  subst this
  refine⟨11,11,by decide,fun z=>absurd z (by decide),by rw [if_neg (by decide),if_neg (by simp)]; decide,fun cs us n c e g=>?_⟩
  have g:Wlk (cs,.node (.node xs::ts)::.node (.node l::st)::us) n c e:=g
  exact Ez rfl (su (ag9 (fu (fu g))))
 by_cases h6:as.length≤6
 ·obtain⟨m,d,hm,hd,gw⟩:=acz (st:=st) (k:=as.length) (by lia) h6
  refine⟨3 * as.length+1+(as.length+1)+4+m+1+1+1+as.length,3 * as.length+1+(as.length+1)+4+d+1+1+1+as.length,by lia,fun _ _=>by lia,by lia,fun cs us n c e g=>?_⟩
  rw [resT,if_neg h0,if_pos h6] at g
  have g1:=fu (fu (zp as.length g))
  have g2:=gw _ _ _ _ _ _ _ (fj g1)
  have g3:=J8 (as:=.node []::as.reverse) (aec (l:=.node l) g2) (k:=as.length+1) (by rw [List.length_cons,List.length_reverse])
  have e8:cB 8=cB (as.length+(8 - as.length)):=by rw [show as.length+(8 - as.length)=8 by lia]
  rw [e8,show T.node as=T.node (as++[]) by rw [List.append_nil]]
  refine (D_ (n:=(n+as.length+1+1+1+m+4+(as.length+1))+1) (c:=(c+as.length+1+1+1+d+4+(as.length+1))+1) ?_).to (by lia) (by lia)
  have e9:cB (8 - as.length)=[o8 (W 5::W 3::cB (7 - as.length)) (qj as.length)]:=by
   rw [show 8 - as.length=(7 - as.length)+1 by lia,cB,show 7 - (7 - as.length)=as.length by lia]
  rw [e9]
  refine Ez rfl ?_
  rw [qj,if_neg h0,if_neg (by lia)]
  exact g3
 by_cases h7:as.length=7
 ·have e8:cB 8=cB (as.length+1):=by rw [h7]
  have e9:cB 1=[o8 (W 5::W 3::cB 0) (qj 7)]:=rfl
  by_cases ht:(ats st 0).kids≠[]
  ·refine⟨3 * as.length+1+(as.length+1)+5+1+7+3+as.length,3 * as.length+1+(as.length+1)+5+1+7+3+as.length,by lia,fun _ _=>by lia,by rw [if_neg (by lia),if_neg (by lia)]; lia,fun cs us n c e g=>?_⟩
   rw [resT,if_neg h0,if_neg h6,if_pos h7,if_pos ht] at g
   have g1:=fu (fu (fu (zp as.length g)))
   rw [e8,show T.node as=T.node (as++[]) by rw [List.append_nil]]
   refine (D_ (n:=(n+as.length+3+7+1+5+(as.length+1))+1) (c:=(c+as.length+3+7+1+5+(as.length+1))+1) ?_).to (by lia) (by lia)
   rw [e9]
   refine Ez rfl ?_
   rw [qj,if_neg (by decide),if_pos rfl]
   exact (J8 (as:=.node []::as.reverse) (w_top (J7 ht (bZ (fj (eF (pH (fj (su (bZ g1))))))))) (k:=7+1) (by rw [List.length_cons,List.length_reverse,h7])).to (by lia) (by lia)
  ·refine⟨3 * as.length+1+(as.length+1)+5+1+6+3+as.length,3 * as.length+1+(as.length+1)+5+1+6+3+as.length,by lia,fun _ _=>by lia,by rw [if_neg (by lia),if_neg (by lia)]; lia,fun cs us n c e g=>?_⟩
   rw [resT,if_neg h0,if_neg h6,if_pos h7,if_neg ht] at g
   have g1:=fu (fu (fu (zp as.length g)))
   rw [e8,show T.node as=T.node (as++[]) by rw [List.append_nil]]
   refine (D_ (n:=(n+as.length+3+6+1+5+(as.length+1))+1) (c:=(c+as.length+3+6+1+5+(as.length+1))+1) ?_).to (by lia) (by lia)
   rw [e9]
   refine Ez rfl ?_
   rw [qj,if_neg (by decide),if_pos rfl]
   exact (J8 (as:=.node []::as.reverse) (w_top (Ez (Classical.not_not.mp ht) (bZ (fj (eF (pH (su (bZ g1)))))))) (k:=7+1) (by rw [List.length_cons,List.length_reverse,h7])).to (by lia) (by lia)
 by_cases h8:as.length=8
 ·have e8:cB 8=cB (as.length+0):=by rw [h8]
  have eb:xu=J_ as.reverse.length (W 4::QV [o8 aa7 aa5]):=by rw [List.length_reverse,h8]; rfl
  by_cases ht:(ats st 0).kids≠[]
  ·refine⟨3 * as.length+1+2 * as.length+1+5+1+15+3+as.length,3 * as.length+1+2 * as.length+1+5+1+14+3+as.length+(T.node l).parts,by lia,fun _ _=>by lia,by rw [if_neg (by lia),if_pos ⟨h8,ht⟩]; lia,fun cs us n c e g=>?_⟩
   rw [resT,if_neg h0,if_neg h6,if_neg h7,if_pos h8,if_pos ht] at g
   have g1:=fu (fu (fu (zp as.length g)))
   rw [e8,show T.node as=T.node (as++[]) by rw [List.append_nil]]
   refine (D_ (n:=(n+as.length+3+15+1+5+1+2 * as.length)+1) (c:=(c+as.length+3+14+(T.node l).parts+1+5+1+2 * as.length)+1) ?_).to (by lia) (by lia)
   refine Ez rfl ?_
   rw [eb]
   refine (acB (n:=n+as.length+3+15+1+5+1) (c:=c+as.length+3+14+(T.node l).parts+1+5+1) ?_).to (by rw [List.length_reverse]) (by rw [List.length_reverse])
   rw [List.reverse_reverse,List.append_nil]
   exact (bZ (w_top (J7 ht (bZ (fj (eF (pR (fj (acA (eF (bZ (eF (pR (eF (bZ (bZ (fj (bZ g1)))))))))))))))))).to (by lia) (by lia)
  ·refine⟨3 * as.length+1+2 * as.length+1+5+1+4+3+as.length,3 * as.length+1+2 * as.length+1+5+1+4+3+as.length,by lia,fun _ _=>by lia,by rw [if_neg (by lia),if_neg (fun z=>ht z.2)]; lia,fun cs us n c e g=>?_⟩
   rw [resT,if_neg h0,if_neg h6,if_neg h7,if_pos h8,if_neg ht] at g
   have g1:=fu (fu (fu (zp as.length g)))
   rw [e8,show T.node as=T.node (as++[]) by rw [List.append_nil]]
   refine (D_ (n:=(n+as.length+3+4+1+5+1+2 * as.length)+1) (c:=(c+as.length+3+4+1+5+1+2 * as.length)+1) ?_).to (by lia) (by lia)
   refine Ez rfl ?_
   rw [eb]
   refine (acB (n:=n+as.length+3+4+1+5+1) (c:=c+as.length+3+4+1+5+1) ?_).to (by rw [List.length_reverse]) (by rw [List.length_reverse])
   rw [List.reverse_reverse,List.append_nil]
   exact bZ (w_top (Ez (Classical.not_not.mp ht) (bZ (eF (su (fj g1))))))
 ·have hl:(as.take 8).length=8:=by rw [List.length_take]; lia
  refine⟨3 * 8+1+10+1+2+8,3 * 8+1+10+1+2+8,by lia,fun _ _=>by lia,by lia,fun cs us n c e g=>?_⟩
  rw [resT,if_neg h0,if_neg h6,if_neg h7,if_neg h8] at g
  have g1:=fu (fu (zp 8 g))
  have e8:cB 8=cB ((as.take 8).length+0):=by rw [hl]
  rw [e8,show T.node as=T.node (as.take 8++as.drop 8) by rw [List.take_append_drop]]
  refine (D_ (n:=(n+8+2+1+10)+1) (c:=(c+8+2+1+10)+1) ?_).to (by lia) (by lia)
  rw [hl]
  refine J7 ?_ ?_
  ·show as.drop 8≠[]
   intro z
   have:=congrArg List.length z
   rw [List.length_drop,List.length_nil] at this
   lia
  ·have:=J8 (as:=.node (as.drop 8)::((as.take 8).reverse++[.node l])) (bZ g1) (k:=10) (by rw [List.length_cons,List.length_append,List.length_reverse,hl]; rfl)
   rw [List.cons_append,List.append_assoc] at this
   exact this
theorem HY {tx st:List T} (h:tx≠[]):∃ n c,n≤110∧c≤110+ig tx st∧∀ (top:T) (cs us:List T),
  Wlk (.node jG::top::cs,.node tx::.node st::us) n c (top::cs,.node (onward tx st).1::.node (onward tx st).2.1::us):=by
 match tx,h with
 | .node []::ts,_=>exact⟨5,5,by decide,by show 5≤110+0; decide,fun top cs us=>pR (Ez rfl (su (fu (fu .nil))))⟩
 | .node (.node []::xs)::ts,_ =>
  have hr:=res_none (s:=st) (xs:=xs) (ts:=ts)
  obtain⟨m,d,hm,_,hd,g⟩:=Z9 (as:=[]) (l:=[]) (xs:=xs) (ts:=ts) (st:=st)
  refine⟨0+1+m+4,0+1+d+4,by lia,by rw [if_neg (by decide),if_neg (by simp)] at hd; lia,fun top cs us=>?_⟩
  have g:=g _ us _ _ _ (fu (Wlk.nil (st:=(top::cs,.node (resT [] [] xs ts st).1::.node (resT [] [] xs ts st).2::us))))
  rw [← hr] at g
  exact pR (J7 (by simp [T.kids]) (pR (pH g)))
 | .node (.node (.node as::l)::xs)::ts,_ =>
  have hr:=ac3 (s:=st) (as:=as) (l:=l) (xs:=xs) (ts:=ts)
  obtain⟨m,d,hm,hlow,hd,g⟩:=Z9 (as:=as) (l:=l) (xs:=xs) (ts:=ts) (st:=st)
  refine⟨0+1+m+4,0+1+d+4,by lia,?_,fun top cs us=>by
   have g:=g _ us _ _ _ (fu (Wlk.nil (st:=(top::cs,.node (resT as l xs ts st).1::.node (resT as l xs ts st).2::us))))
   rw [← hr] at g
   exact pR (J7 (by simp [T.kids]) (pR (pR g)))⟩
  have hx:ig (.node (.node (.node as::l)::xs)::ts) st=if as.length=2 then (ats st 0).parts else if as.length=8∧(ats st 0).kids≠[] then (T.node l).parts else 0:=by
   have hs:aB (.node (.node as::l))=min 9 as.length:=rfl
   rw [show ig (.node (.node (.node as::l)::xs)::ts) st=if aB (.node (.node as::l))=2 then (ats st 0).parts else if aB (.node (.node as::l))=8∧(ats st 0).kids≠[] then (aZ (.node (.node as::l))).parts else 0 from rfl,hs]
   by_cases h2:as.length=2
   ·rw [if_pos h2,if_pos (by lia)]
   ·rw [if_neg h2,if_neg (by lia)]
    by_cases h8:as.length=8
    ·by_cases ht:(ats st 0).kids≠[]
     ·rw [if_pos ⟨by lia,ht⟩,if_pos ⟨by lia,ht⟩]; rfl
     ·rw [if_neg (fun z=>ht z.2),if_neg (fun z=>ht z.2)]
    ·rw [if_neg (fun z=>h8 (by have:=z.1; lia)),if_neg (fun z=>h8 (by have:=z.1; lia))]
  rw [hx]
  by_cases h2:as.length=2
  ·rw [if_pos h2,if_neg (by lia)] at hd
   rw [if_pos h2]
   lia
  ·rw [if_neg h2] at hd
   rw [if_neg h2]
   lia
theorem adD {K:Nat}{ω:Nat→Nat}{X:Nat}{st e:Std}{τ:Nat} (h:Wo (Nm K ω) st τ e) (hX:∀ st:Std,B 390 8000000 (.node st.2)→BX st.1→evW ω st≤X * bL st.1 st.2) :
  ∃ c s,τ=K * c+s∧∀ Cb,Sane Cb st.1 st.2→c≤Cb→s≤X * c∧(goT c st.1 st.2).1=e.1∧(goT c st.1 st.2).2.1=e.2∧bh ω 0 (goT c st.1 st.2).2.2=s:=by
 induction h with
 | @nil st =>
  refine⟨0,0,by lia,fun Cb _ _=>⟨by lia,?_⟩⟩
  rw [agM]
  exact⟨rfl,rfl,Oc ω⟩
 | @cons st e τ h1 h2 ih =>
  obtain⟨c,s,e1,e2⟩:=ih
  refine⟨c+bL st.1 st.2,s+evW ω st,by rw [aiw,ud,Nat.mul_add]; lia,fun Cb hs hc=>?_⟩
  obtain⟨e2,e3,e4,e5⟩:=e2 (Cb - bL st.1 st.2) (hs.next h1 (by lia)) (by lia)
  have hb:=hX st hs.bs hs.bx
  refine⟨by rw [Nat.mul_add]; lia,?_⟩
  have hg:=uG (b:=c+bL st.1 st.2) h1 (Nat.le_add_left _ _)
  rw [Nat.add_sub_cancel] at hg
  rw [hg]
  refine⟨e3,e4,?_⟩
  show bh ω 0 (fK (nj st.1 st.2) (goT c (onward st.1 st.2).1 (onward st.1 st.2).2.1).2.2)=_
  rw [En _ _ _ _ (by rw [El,vp]),Em]
  have e5:bh ω 0 (goT c (onward st.1 st.2).1 (onward st.1 st.2).2.1).2.2=s:=e5
  have e6:evW ω (st.1,st.2)=evW ω st:=rfl
  rw [e5,e6]
  lia
theorem acw {st e:Std}{ns:List Nat} (hn:ns.length=15) (h:∀ ω,Wo ω st (bh ω 0 ns) e) (hs:Sane (bh cP 0 ns) st.1 st.2):goT (bh cP 0 ns) st.1 st.2=(e.1,e.2,ns):=by
 have key:∀ ω:Nat→Nat,(∀ k,ω k≤1)→(goT (bh cP 0 ns) st.1 st.2).1=e.1∧(goT (bh cP 0 ns) st.1 st.2).2.1=e.2∧bh ω 0 (goT (bh cP 0 ns) st.1 st.2).2.2=bh ω 0 ns:=fun ω hω=>by
  generalize hK:8000003 * bh cP 0 ns+bh ω 0 ns+1=K
  obtain⟨c,s,e1,e2⟩:=adD (K:=K) (X:=8000003) (h (Nm K ω)) (fun st a b=>aiv hω a b)
  rw [S_] at e1
  have e2:=e2 _ hs
  generalize bh cP 0 ns=C at *
  generalize bh ω 0 ns=D at *
  have hle:c≤C:=by
   apply Classical.byContradiction
   intro z
   have m1:K * (C+1)≤K * c:=Nat.mul_le_mul_left K (by lia)
   rw [Nat.mul_add] at m1
   lia
  obtain⟨e2,e3,e4,e5⟩:=e2 hle
  have hc:c=C:=by
   apply Classical.byContradiction
   intro z
   have m1:K * (c+1)≤K * C:=Nat.mul_le_mul_left K (by lia)
   have m2:8000003 * c≤8000003 * C:=Nat.mul_le_mul_left _ hle
   rw [Nat.mul_add] at m1
   lia
  subst hc
  exact⟨e3,e4,by lia⟩
 obtain⟨k1,k2,_⟩:=key (fun _=>0) (fun _=>by decide)
 have k3:(goT (bh cP 0 ns) st.1 st.2).2.2=ns:=by
  have hl:=vp (bh cP 0 ns) st.1 st.2
  refine List.ext_getElem (by rw [hl,hn]) fun k h1 h2=>?_
  have:=(key (fun j=>if j=0+k then 1 else 0) (fun j=>by show (if j=0+k then 1 else 0)≤1; split <;> decide)).2.2
  rw [Al,Al] at this
  rw [List.getD_eq_getElem?_getD,List.getElem?_eq_getElem h1,List.getD_eq_getElem?_getD,List.getElem?_eq_getElem h2] at this
  exact this
 rw [← k1,← k2]
 exact Prod.ext rfl (Prod.ext rfl k3)
theorem HJ {b:Nat}{st e:Std}{n c:Nat} (g:Wlk st n c e) (k:Sane b e.1 e.2):∀ a w,In a w st→4≤a→a+n≤390→w+3 * c≤7900000→Sane (b+c) st.1 st.2:=by
 induction g with
 | nil=>intro a w _ _ _ _; exact k
 | @cons st e n c h1 h2 g ih =>
  intro a w hi h4 ha hw
  have w2:=aa2 h2
  have d:=aiz h4 hi.1
  have hw2:=hi.2
  have q:=ih k (a+1) (w+3 * jf st) ⟨d,by lia⟩ (by lia) (by lia) (by lia)
  obtain⟨b1,b2⟩:=okIn hi (by lia) (by lia)
  have e1:jf st=bL st.1 st.2:=Er
  refine .mk b1 b2 fun _ _=>?_
  rw [← e1,← Nat.add_assoc,Nat.add_sub_cancel]
  exact q
def fH (cs us:List T) (d:Std):Std:=(.node bU::cs,.node d.1::.node d.2::us)
def Und (cs us:List T):Prop:=T.bD cs≤60∧T.bD us≤60∧T.aH cs+T.aH us≤100000
theorem NQ {cs us:List T}{d:Std} (hu:Und cs us) (hd:iy 100 d) (hw:wt d≤1400000):In 110 1600000 (fH cs us d):=by
 obtain⟨u1,u2,u3⟩:=hu
 obtain⟨tx,s⟩:=d
 obtain⟨h1,h2⟩:=hd
 have h1:(T.node tx).deep≤100:=h1
 have h2:(T.node s).deep≤100:=h2
 have hw:T.aH tx+T.aH s≤1400000:=hw
 have a1:=Sd.2
 have a3:=NT
 exact In.mk1 (by rw [T.aU]; lia) (by rw [T.aU,T.aU]; lia) (by rw [T.aF,T.aF,T.aF,T.aN tx,T.aN s]; lia)
theorem zc {cs us:List T}{d:Std}:bL (fH cs us d).1 (fH cs us d).2=1:=by rw [← Er]; rfl
theorem aaH:∀ (N:Nat) {d:Std},uJ N d→(stN N d).1=[]→(∀ i,i<N→(stN i d).1≠[])→∃ C,(∀ cs us,Wo cP (fH cs us d) C (cs,ats (stN N d).2 0::us))∧∀ cs us b,Und cs us→Sane b cs (ats (stN N d).2 0::us)→Sane (b+C) (fH cs us d).1 (fH cs us d).2
 | 0,d,hg,he,_=>by
  obtain⟨hd,hw⟩:=hg 0 (Nat.le_refl _)
  have hd:iy 100 d:=hd
  have hw:wt d≤1400000:=hw
  obtain⟨tx,s⟩:=d
  have he:tx=[]:=he
  subst he
  refine⟨5+1,fun cs us=>?_,fun cs us b hu k=>?_⟩
  ·have g:=DY (XD (cs:=cs) (st:=s) (us:=us))
   exact (Wo.cons (st:=fH cs us ([],s)) (by show T.node bU::cs≠[]; simp) g).to (by rw [ud,zc])
  ·have hi:=NQ hu hd hw
   obtain⟨b1,b2⟩:=okIn hi (by decide) (by decide)
   refine .mk b1 b2 fun _ _=>?_
   rw [zc,← Nat.add_assoc,Nat.add_sub_cancel]
   have hn:In 112 1700000 (nx (fH cs us ([],s))):=⟨(Vy (by decide) hi.1).le (by decide),by
    have e3:(T.node [W 1,W 5,W 3,W 1]).parts≤40:=by decide
    have h4:=hi.2
    have h4:T.aH (.node bU::cs)+T.aH (.node []::.node s::us)≤1600000:=h4
    rw [show nx (fH cs us ([],s))=(.node [W 1,W 5,W 3,W 1]::cs,.node []::.node s::us) from R_]
    show T.aH (.node [W 1,W 5,W 3,W 1]::cs)+T.aH (.node []::.node s::us)≤1700000
    rw [T.aF] at h4 ⊢
    lia⟩
   exact HJ (XD (cs:=cs) (st:=s) (us:=us)) k 112 1700000 hn (by decide) (by decide) (by decide)
 | N+1,d,hg,he,hne=>by
  obtain⟨hd,hw⟩:=hg 0 (Nat.zero_le _)
  have hd:iy 100 d:=hd
  have hw:wt d≤1400000:=hw
  have hne0:d.1≠[]:=hne 0 (by lia)
  obtain⟨C,w1,s1⟩:=aaH N (d:=nx d) (fun i hi=>by have:=hg (i+1) (by lia); rw [jP] at this; exact this) (by rw [← jP]; exact he) (fun i hi=>by rw [← jP]; exact hne (i+1) (by lia))
  obtain⟨n,c,hn,hc,g⟩:=HY (tx:=d.1) (st:=d.2) hne0
  have hx:=XH d.1 d.2
  have hx:ig d.1 d.2≤wt d+1:=hx
  refine⟨C+c+1,fun cs us=>?_,fun cs us b hu k=>?_⟩
  ·have g1:=(DY (g (.node bU) cs us)).trans (w1 cs us)
   have en:nx (fH cs us d)=(.node jG::.node bU::cs,.node d.1::.node d.2::us):=Gg hne0
   rw [← en] at g1
   rw [jP]
   exact (Wo.cons (st:=fH cs us d) (by show T.node bU::cs≠[]; simp) g1).to (by rw [ud,zc]; lia)
  ·have hi:=NQ hu hd hw
   obtain⟨b1,b2⟩:=okIn hi (by decide) (by decide)
   refine .mk b1 b2 fun _ _=>?_
   have en:nx (fH cs us d)=(.node jG::.node bU::cs,.node d.1::.node d.2::us):=Gg hne0
   have a1:=Sd.1
   have a3:=NT
   have hin:In 112 1700000 (.node jG::.node bU::cs,.node d.1::.node d.2::us):=by
    obtain⟨⟨i1,i2⟩,i3⟩:=hi
    have i1:(T.node (.node bU::cs)).deep≤110:=i1
    have i2:(T.node (.node d.1::.node d.2::us)).deep≤110:=i2
    have i3:T.aH (.node bU::cs)+T.aH (.node d.1::.node d.2::us)≤1600000:=i3
    rw [T.aR] at i1 i2
    have:=T.gC (.node bU)
    exact In.mk1 (by rw [T.aU]; lia) (by lia) (by rw [T.aF]; lia)
   rw [jP] at k
   have q:=HJ (g (.node bU) cs us) (s1 cs us b hu k) 112 1700000 hin (by decide) (by lia) (by lia)
   rw [zc,← Nat.add_assoc,Nat.add_sub_cancel,← Nat.add_assoc]
   have en1:=congrArg Prod.fst en
   have en2:=congrArg Prod.snd en
   have en1:(onward (fH cs us d).1 (fH cs us d).2).1=_:=en1
   have en2:(onward (fH cs us d).1 (fH cs us d).2).2.1=_:=en2
   rw [en1,en2]
   exact q
theorem VP {x:T}{its cs us:List T} (hu:Und cs us) (hd:iy 40 ([x],[.node its])) (hw:wt ([x],[.node its])≤20000):In 100 200000 (.node dh::cs,.node (x::its)::us):=by
 obtain⟨u1,u2,u3⟩:=hu
 obtain⟨h1,h2⟩:=hd
 have h1:(T.node [x]).deep≤40:=h1
 have h2:(T.node [.node its]).deep≤40:=h2
 have hw:T.aH [x]+T.aH [.node its]≤20000:=hw
 rw [ab0] at h2
 rw [T.aR,T.aU,T.cU] at h1
 rw [T.aF,T.aY,Kl] at hw
 obtain⟨s1,s2⟩:=abe
 exact In.mk1 (by rw [T.aU]; lia) (by rw [T.aU,T.aR,T.aU]; lia) (by rw [T.aF,T.aF,T.aN (x::its),T.aF]; lia)
theorem QH {x:T}{its cs us:List T}:Wlk (.node dh::cs,.node (x::its)::us) 7 7 (fH cs us ([x],[.node its])):=by
 have g:=afR (r:=[]) (cs:=cs) (us:=us) (x:=x) (its:=its)
 have e:abP [] cs us ([x],[.node its])=fH cs us ([x],[.node its]):=by
  unfold abP fH
  rw [List.append_nil]
 rw [e,List.append_nil] at g
 exact g
theorem acW {x:T}{its:List T}{N:Nat} (hd:iy 40 ([x],[.node its])) (hw:wt ([x],[.node its])≤20000) (hg:uJ N ([x],[.node its])) (he:(stN N ([x],[.node its])).1=[]) (hne:∀ i,i<N→(stN i ([x],[.node its])).1≠[]) :
  ∃ C,(∀ cs us,Wo cP (.node dh::cs,.node (x::its)::us) C (cs,ats (stN N ([x],[.node its])).2 0::us))∧∀ cs us b,Und cs us→Sane b cs (ats (stN N ([x],[.node its])).2 0::us)→Sane (b+C) (.node dh::cs) (.node (x::its)::us):=by
 obtain⟨C,w1,s1⟩:=aaH N hg he hne
 refine⟨C+7,fun cs us=>((DY QH).trans (w1 cs us)).to (by lia),fun cs us b hu k=>?_⟩
 have q:=HJ QH (s1 cs us b hu k) 100 200000 (VP hu hd hw) (by decide) (by decide) (by decide)
 rw [← Nat.add_assoc]
 exact q
theorem aip {x:T}{its cs us:List T}{N:Nat}{ns:List Nat} (hu:Und cs us) (hd:iy 40 ([x],[.node its])) (hw:wt ([x],[.node its])≤20000) (hg:uJ N ([x],[.node its])) (he:(stN N ([x],[.node its])).1=[]) (hne:∀ i,i<N→(stN i ([x],[.node its])).1≠[])
  (hn:ns.length=15) (h:∀ ω,Wo ω ([x],[.node its]) (bh ω 0 ns) ([],(stN N ([x],[.node its])).2)) :
  Sane (bh cP 0 (turnT ns)) (.node dh::cs) (.node (x::its)::us)∧goT (bh cP 0 (turnT ns)) (.node dh::cs) (.node (x::its)::us)=(cs,ats (stN N ([x],[.node its])).2 0::us,turnT ns):=by
 obtain⟨C,w1,s1⟩:=acW hd hw hg he hne
 have r0:=Fe (cs:=[]) (us:=[]) hn h
 have hC:C=bh cP 0 (turnT ns):=by
  obtain⟨h1,_⟩:=DX (w1 [] []) rfl C (Nat.le_refl _)
  have e1:=(nD (w1 [] []) rfl C h1).1
  have e2:=(nD (r0 cP) rfl C h1).1
  exact e1.symm.trans e2
 obtain⟨u1,u2,u3⟩:=hu
 have hs:Sane (bh cP 0 (turnT ns)) (.node dh::cs) (.node (x::its)::us):=by
  rw [← hC,← Nat.zero_add C]
  refine s1 cs us 0 ⟨u1,u2,u3⟩ ?_
  obtain⟨gd,gw⟩:=hg N (Nat.le_refl _)
  have g2:=gd.2
  rw [T.aR] at g2
  have d1:=qm _ 0 g2
  have p1:=Fy (stN N ([x],[.node its])).2 0
  have gw:T.aH (stN N ([x],[.node its])).1+T.aH (stN N ([x],[.node its])).2≤1400000:=gw
  obtain⟨b1,b2⟩:=okIn (st:=(cs,ats (stN N ([x],[.node its])).2 0::us)) (a:=120) (w:=1600000) (In.mk1 (by lia) (by rw [T.aU]; lia) (by rw [T.aF]; lia)) (by decide) (by decide)
  exact .mk b1 b2 fun _ z=>by have:=uf cs (ats (stN N ([x],[.node its])).2 0::us); lia
 exact⟨hs,acw (st:=(.node dh::cs,.node (x::its)::us)) (VF ns) (Fe (cs:=cs) (us:=us) hn h) hs⟩
theorem abd {x:T}{its:List T}{N:Nat}{ns:List Nat} (hd:iy 40 ([x],[.node its])) (hw:wt ([x],[.node its])≤20000) (hg:uJ N ([x],[.node its])) (he:(stN N ([x],[.node its])).1=[]) (hne:∀ i,i<N→(stN i ([x],[.node its])).1≠[])
  (hn:ns.length=15) (h:∀ ω,Wo ω ([x],[.node its]) (bh ω 0 ns) ([],(stN N ([x],[.node its])).2)):∀ b,bh cP 0 (turnT ns)≤b→Sane b [.node dh] [.node (x::its)]:=fun b hb=>by
 obtain⟨C,w1,s1⟩:=acW hd hw hg he hne
 have r0:=Fe (cs:=[]) (us:=[]) hn h
 have hC:C=bh cP 0 (turnT ns):=by
  obtain⟨h1,_⟩:=DX (w1 [] []) rfl C (Nat.le_refl _)
  have e1:=(nD (w1 [] []) rfl C h1).1
  have e2:=(nD (r0 cP) rfl C h1).1
  exact e1.symm.trans e2
 rw [show b=b - C+C by lia]
 refine s1 [] [] (b - C) ⟨by rw [T.cU]; decide,by rw [T.cU]; decide,by rw [T.aY]; decide⟩ ?_
 obtain⟨gd,gw⟩:=hg N (Nat.le_refl _)
 have g2:=gd.2
 rw [T.aR] at g2
 have d1:=qm _ 0 g2
 have p1:=Fy (stN N ([x],[.node its])).2 0
 have gw:T.aH (stN N ([x],[.node its])).1+T.aH (stN N ([x],[.node its])).2≤1400000:=gw
 obtain⟨b1,b2⟩:=okIn (st:=([],[ats (stN N ([x],[.node its])).2 0])) (a:=120) (w:=1600000) (In.mk1 (by rw [T.cU]; decide) (by rw [T.aU,T.cU]; lia) (by rw [T.aY,T.aF,T.aY]; lia)) (by decide) (by decide)
 exact .mk b1 b2 fun z=>absurd rfl z
theorem Wz {ws its cs us:List T} (hu:Und cs us) (hd:iy 40 ([.node ws],[.node its])) (hw:wt ([.node ws],[.node its])≤20000):Ready 300 (.node dh::cs,.node (.node ws::its)::us) (fH cs us ([.node ws],[.node its])):=by
 have hi:=VP hu hd hw
 have nh:xT (.node dh::cs,.node (.node ws::its)::us):=by show 5≠8; decide
 have hc:jf (.node dh::cs,.node (.node ws::its)::us)=1:=rfl
 have wn:=aa2 nh
 have i2:=hi.2
 refine⟨by simp,⟨Nat.le_trans hi.1.1 (by decide),Nat.le_trans hi.1.2 (by decide),by lia⟩,6,6,aeZ,by lia,by lia,(Vy (by decide) hi.1).le (by decide),by lia⟩
theorem Zj {cs us:List T}{due:Std} (hu:Und cs us) (hd:iy 100 due) (hw:wt due≤1400000) (hne:due.1≠[]):Ready (300+ig due.1 due.2) (fH cs us due) (fH cs us (nx due)):=by
 have hi:=NQ hu hd hw
 obtain⟨n,c,hn,hc,g⟩:=HY (tx:=due.1) (st:=due.2) hne
 have g:=g (.node bU) cs us
 have hx:ig due.1 due.2≤wt due+1:=XH due.1 due.2
 have en:nx (fH cs us due)=(.node jG::.node bU::cs,.node due.1::.node due.2::us):=Gg hne
 have r3:jf (fH cs us due)=1:=rfl
 rw [← en] at g
 have a1:=Sd.1
 have a3:=NT
 have hin:In 112 1700000 (.node jG::.node bU::cs,.node due.1::.node due.2::us):=by
  obtain⟨⟨i1,i2⟩,i3⟩:=hi
  have i1:(T.node (.node bU::cs)).deep≤110:=i1
  have i2:(T.node (.node due.1::.node due.2::us)).deep≤110:=i2
  have i3:T.aH (.node bU::cs)+T.aH (.node due.1::.node due.2::us)≤1600000:=i3
  rw [T.aR] at i1 i2
  have:=T.gC (.node bU)
  exact In.mk1 (by rw [T.aU]; lia) (by lia) (by rw [T.aF]; lia)
 refine⟨by show T.node bU::cs≠[]; simp,⟨Nat.le_trans hi.1.1 (by decide),Nat.le_trans hi.1.2 (by decide),Nat.le_trans hi.2 (by decide)⟩,n,c,g,hn,by rw [r3]; lia,?_,?_⟩
 ·rw [en]; exact hin.1.le (by decide)
 ·rw [en]
  have:=hin.2
  lia
theorem Lg:∀ (n k:Nat) {st:Std},(stN n st).1=[]→(∀ i,i<n→(stN i st).1≠[])→GX st.1→Pot 41 k st.2→Few n k st.1→k≤7→∃ C,C≤6+296 * n+VN k∧Wo cP (headOf st) C ([],[ats (stN n st).2 0])
 | 0,k,st,he,_,_,_,_,_=>by
  obtain⟨tx,s⟩:=st
  have he:tx=[]:=he
  subst he
  have g:=DY (XD (cs:=[]) (st:=s) (us:=[]))
  refine⟨5+evW cP (headOf ([],s)),?_,.cons (by show [T.node bU]≠[]; simp) g⟩
  rw [ud]
  show 5+bL [.node bU] [.node [],.node s]≤_
  rw [← Er]
  show 5+1≤_
  lia
 | n+1,k,st,he,hne,hg,hp,hf,hk=>by
  have hne0:st.1≠[]:=hne 0 (by lia)
  rw [jP] at he
  have hlen:=aaE n he
  obtain⟨g1,k',p1,f1,hk1,hx⟩:=ae5 hne0 hg hp hf (fun z=>Nat.le_trans ((Xq st).2 z) hlen) hk
  obtain⟨C,hC,w⟩:=Lg n k' (st:=nx st) he (fun i hi=>by rw [← jP]; exact hne (i+1) (by lia)) g1 p1 f1 hk1
  obtain⟨m,c,_,hc,g⟩:=HY (tx:=st.1) (st:=st.2) hne0
  have g:=g (.node bU) [] []
  have en:nx (headOf st)=(.node jG::.node bU::[],.node st.1::.node st.2::[]):=Gg hne0
  rw [← en] at g
  have w2:=(DY g).trans w
  refine⟨c+C+evW cP (headOf st),?_,?_⟩
  ·have e1:evW cP (headOf st)=1:=by
    rw [ud,← Er]
    rfl
   have h8:k≤7:=hk
   rcases hx with⟨rfl,hx⟩ | ⟨rfl,hx⟩
   ·lia
   ·have:=acN (k:=k) (by lia)
    lia
  ·rw [jP]
   exact .cons (by show [T.node bU]≠[]; simp) w2
theorem Ze {x:T}{its:List T}{n:Nat} (hn:n≤10) (he:(stN n ([x],[.node its])).1=[]) (hne:∀ i,i<n→(stN i ([x],[.node its])).1≠[]) (hx:x.kids.length≤4) (hg:GX [x]) (hp:T.aH [.node its]≤41):∃ C,C≤6000∧Wo cP ([.node dh],[.node (x::its)]) C ([],[ats (stN n ([x],[.node its])).2 0]):=by
 obtain⟨C,hC,w⟩:=Lg n 0 (st:=([x],[.node its])) he hne hg (aj0 hp) (by show 5 * 0+2 * (x.kids.length+0)+3 * n≤37+3 * 1; lia) (by decide)
 have e:VN 0=1619:=by decide
 have w2:=DY (QH (x:=x) (its:=its) (cs:=[]) (us:=[]))
 exact⟨_,by lia,w2.trans w⟩
open PySem PySem.Spec PyProof.Rows L2
section
variable {X:Cx}{o e value:Expr}{f:Str}{pos pos':Pos}{ta tv:TE}
theorem bN (he:QE X e ta) (hb:attributeBase e f X.env (eval e X.env)=eval e X.env):QE X (.Attribute e f pos) (tFld X.K ta f):=⟨pe_fld he.run hb⟩
theorem gA (ha:QE X o ta) (hv:QE X value tv) (hs:swapsWith value (some (.Attribute o f pos')) pos.line X.env=pure false):QS X (.Assign [.Attribute o f pos'] value pos) (sFld X.K ta tv f):=⟨ps_fld ha.run hv.run hs⟩
end
section
variable {X:Cx}{CX:CXT}{k:Nat}{f C:Addr}{fd:FuncData}{ps:List Str}{sp:Sp}{dvs:List V}{ds:List Value}{E:XK}{m x:Str}{p apos pos:Pos}{o e:Expr}{es:List Expr}{ta:TE}{t:TA}
theorem aaz {pl:Sem Bool} (he:QE X o ta) (c:Cls X.K C) (hm:Meth X.K C m f) (F:FnOk X.prog X.w X.K X.mg X.base CX k f fd ps sp) (hr:Room k X.A) (hb:Binds X.K fd ps ds) (hd:Vals dvs ds) (hx:Passes CX X E) (ha:QA X (e::es) t)
  (hst:starEach (e::es) X.env=(false,eval e X.env)::starEach es X.env:=by rfl) (hpl:(backTo pos (starEach es X.env)).any (·.1)=false:=by rfl)
  (ht:eval (.Call (.Attribute o m apos) (e::es) [] pos) X.env=(do
   let ov ← eval o X.env
   standAt apos.atName
   let (f,first) ← holding [ov] (getMethod ov m pl)
   callWith pos f first (backTo pos (starEach (e::es) X.env)) (backToKw pos (keywordEach [] X.env))):=by rfl):QE X (.Call (.Attribute o m apos) (e::es) [] pos) (tMeth C m sp dvs E ta t):=⟨pe_meth (pl:=pl) he.run c hm F hr hb hd hx ha.run hst hpl ht⟩
theorem lD {pl:Sem Bool} (he:QE X o ta) (c:Cls X.K C) (hm:Meth X.K C m f) (F:FnOk X.prog X.w X.K X.mg X.base CX k f fd ps sp) (hr:Room k X.A) (hb:Binds X.K fd ps ds) (hd:Vals dvs ds) (hx:Passes CX X E)
  (ht:eval (.Call (.Attribute o m apos) [] [] pos) X.env=(do
   let ov ← eval o X.env
   standAt apos.atName
   let (f,first) ← holding [ov] (getMethod ov m pl)
   callWith pos f first (backTo pos (starEach [] X.env)) (backToKw pos (keywordEach [] X.env))):=by rfl):QE X (.Call (.Attribute o m apos) [] [] pos) (tMeth C m sp dvs E ta tNil):=⟨aeC (pl:=pl) he.run c hm F hr hb hd hx ht⟩
end
section
variable {R P:Addr}{nm:List Nat}
end
section
variable {K:PySem.W.Frag}{C:Addr}{H₀ H:Hp}{o dx R P:Addr}{ys:List V}{st:List (List T)}{pl:List (List Nat)}{nm:List Nat}
theorem ac0 {H':Hp}{p:Addr} (h:GJ K H₀ H p st ys) (S:Same H H'):GJ K H₀ H' p st ys :=
 ⟨h.new,h.same.trans S,S _ _ h.at_,h.rows.imp fun _ _ ⟨a,xs,e,h1,h2,h3⟩=>⟨a,xs,e,h1,S _ _ h2,h3.mono (.of S)⟩,h.nd⟩
theorem ac2 {p q:Addr}{x:HO} (h:GJ K H₀ H p st ys) (k:Kt H (upd H q x)) (h0:H₀ q=none) (hn:(.ref q:V) ∉ (.ref p:V)::ys):GJ K H₀ (upd H q x) p st ys :=
 ⟨h.new,gB h.same h0,by rw [upd_ne (fun z=>hn (by rw [z]; exact List.mem_cons_self))]; exact h.at_,zT k h.rows fun z=>hn (List.mem_cons_of_mem _ z),h.nd⟩
theorem Kt.ins {C' dx':Addr}{fs:List (Str×V)}{x:HO} (h:H o=some (.ins C' dx' fs)):Kt H (upd H o x) :=
 ⟨fun b xs e=>by rw [upd_ne (fun z=>by rw [z,h] at e; cases e)]; exact e,fun b _ _ e=>by rw [upd_ne (fun z=>by rw [z,h] at e; cases e)]; exact e⟩
end
end Sw
namespace SwR
open PySem PySem.Spec PyProof.Rows L2 Sw
def acp (K:PySem.W.Frag) (a:Addr) (n:Nat):It :=
 ⟨fun i H=>∃ xs x,SqT K H a xs∧xs.length=n∧xs.reverse[i]?=some x,fun i H v H'=>H'=H∧∀ xs,SqT K H a xs→xs.reverse[i]?=some v,fun i H=>∃ xs,SqT K H a xs∧xs.length=n∧n=i⟩
theorem Wx {α:Type}{xs:List α}{i:Nat}{x:α} (h:xs.reverse[i]?=some x):i<xs.length∧xs[xs.length - 1 - i]?=some x:=by
 have hi:i<xs.length:=by have:=(List.getElem?_eq_some_iff.mp h).1; simpa using this
 exact⟨hi,by rw [List.getElem?_reverse hi] at h; exact h⟩
theorem acD {P:Program}{w:World}{K:PySem.W.Frag}{tg:Expr} (a it:Addr) (n:Nat) (hne:a≠it):Turn P w K tg (acp K a n) [it] it (fun i h=>RvO h it a ((n:Int) - 1 - (i:Int))) where
 mem:=by simp
 obj:=fun i h st b hb=>by
  have e:b=it:=by simpa using hb
  subst e
  obtain⟨o,ho,hc,hd⟩:=st
  exact⟨o,ho,fun v z=>by rw [hd] at z; cases z⟩
 keep:=fun i h h' st k=>st.keep fun o e=>k it (by simp) o e
 item:=by
  intro X hP hw hK hc i pins s σ H E I hf st hg
  subst hP hw hK
  obtain⟨xs,x,hq,hn,hx⟩:=hg
  obtain⟨hi,hx'⟩:=Wx hx
  obtain⟨its,rv,p,hz⟩:=I.tuple hq
  obtain⟨u,hu,ru⟩:=rv.get hx'
  obtain⟨f0,f1,f2,f3,f4,f5⟩:=hf it (by simp)
  have hl:=rv.length
  have e1:(n:Int) - 1 - (i:Int)=((xs.length - 1 - i:Nat):Int):=by lia
  rw [e1] at st
  refine next_item (items:=its.toArray) st p (x:=u) (by simpa using hu) (by rw [List.size_toArray]; lia) hne fun h' tk st' sb=>?_
  have e2:((xs.length - 1 - i:Nat):Int) - 1=(n:Int) - 1 - ((i+1:Nat):Int):=by lia
  rw [e2] at st'
  have I1:Inv X pins σ H { s with heap:=h',toks:=tk }:=I.turned (fun b o hb e=>(sb.2 b hb).trans e) f0 f1 f3 f4 f5
  obtain⟨o,e,c,d⟩:=id st'
  exact⟨u,rfl,go_of (s:={ s with heap:=h',toks:=tk }) e c d (by decide) ⟨x,H,I1,ru,⟨rfl,fun ys hy=>by rw [I.HS hy hq]; exact hx⟩,st',fun b hb=>(hf b hb).1⟩⟩
 done:=by
  intro X hP hw hK hc i pins s σ H E I hf st hg
  subst hP hw hK
  obtain⟨xs,hq,hn,hx⟩:=hg
  obtain⟨f0,f1,f2,f3,f4,f5⟩:=hf it (by simp)
  have e1:(n:Int) - 1 - (i:Int)=-1:=by lia
  rw [e1] at st
  exact next_end (I.ok.hd hc) st fun h' eb=>⟨rfl,I.turned (t':=s.toks) (fun b o hb e=>eb b o hb e) f0 f1 f3 f4 f5⟩
 self:=fun _ _ _ _ _ st h=>BP st h
def afG (K:PySem.W.Frag) (tl:TE):TI:=fun σ H R=>tl σ H fun x H1=>∃ a xs,x=.ref a∧SqT K H1 a xs∧R (acp K a xs.length) H1
theorem agg {X:Cx}{tg l:Expr}{tl:TE}{p pos:Pos} (hg:Gl X "reversed") (hm:X.mg "reversed"=none) (hl:PE X l tl) (hs:starEach [l] X.env=[(false,eval l X.env)]:=by rfl):PI X tg (.Call (.Name "reversed" p) [l] [] pos) (afG X.K tl):=by
 intro pins s σ H R I h
 refine wpAny_Call_Name_kw (ld_blt I hg hm wU ?_)
 refine PyProof.Rows.callWith_type1 ?_ (by rw [hs]; rfl) (by rfl)
 rw [hs]
 refine Calls.spliced_cons (thn (hl pins s σ H _ I h) fun v s1 ⟨x,H1,I1,r1,q1⟩=>Calls.spliced_nil ?_)
 obtain⟨a,xs,rfl,hq,q⟩:=q1
 cases r1
 obtain⟨its,rv,ht,hz⟩:=I1.tuple hq
 have hlen:=rv.length
 have la:a<s1.heap.objs.size:=let ⟨_,ho,_⟩:=ht; Heap.lt_size ho
 refine Yn ht (by rw [List.size_toArray]; lia) fun tk=>?_
 have hit:RvO (s1.heap.push { cls:=.type "reversed",data:=.fields #[.ref a,rawInt ((its.toArray.size:Int) - 1)] }) s1.heap.objs.size a ((its.toArray.size:Int) - 1):=⟨_,Heap.get?_push_size _ rfl,rfl,rfl⟩
 refine BP (s:={ s1 with heap:=s1.heap.push { cls:=.type "reversed",data:=.fields #[.ref a,rawInt ((its.toArray.size:Int) - 1)] },toks:=tk }) hit ?_
 refine⟨s1.heap.objs.size,[s1.heap.objs.size],_,acp X.K a xs.length,H1,rfl,I1.kept fun b o e=>Heap.get?_push_of_some _ e,acD a _ xs.length (Nat.ne_of_lt la),?_,fun b hb=>?_,q⟩
 ·have e1:(xs.length:Int) - 1 - ((0:Nat):Int)=(its.toArray.size:Int) - 1:=by rw [List.size_toArray]; lia
  show RvO _ _ _ ((xs.length:Int) - 1 - ((0:Nat):Int))
  rw [e1]
  exact hit
 ·have e:b=s1.heap.objs.size:=by simpa using hb
  subst e
  exact I1.fpOk (Nat.le_refl _) (I1.hok.fresh (Nat.le_refl _))
theorem zM:Slot "list_reverseiterator" "__next__" "list_reverseiterator.__next__":=.of (owner:="list_reverseiterator") (n:="__next__") (by rw [typeLookup_type,builtinLookup_eq_fast]; kernel_rfl) (by decide +kernel) (by decide +kernel) (by decide +kernel) (by first | exact .inl (by decide +kernel) | exact .inr (by decide +kernel)) (by rw [isSubtype_type]; kernel_rfl)
theorem XJ:entryFor table "list_reverseiterator.__next__"=some Builtin.«list_reverseiterator.__next__»:=entryFor_of_tree (by kernel_rfl)
theorem Yz (a:Value):argsOk "list_reverseiterator.__next__" ⟨[a],[]⟩:=by unfold argsOk; kernel_rfl
theorem Wg:Slot "list_reverseiterator" "__iter__" "list_reverseiterator.__iter__":=.of (owner:="list_reverseiterator") (n:="__iter__") (by rw [typeLookup_type,builtinLookup_eq_fast]; kernel_rfl) (by decide +kernel) (by decide +kernel) (by decide +kernel) (by first | exact .inl (by decide +kernel) | exact .inr (by decide +kernel)) (by rw [isSubtype_type]; kernel_rfl)
theorem afg (a:Value):argsOk "list_reverseiterator.__iter__" ⟨[a],[]⟩:=by unfold argsOk; kernel_rfl
theorem ae7:entryFor table "list_reverseiterator.__iter__"=some Builtin.«dict_keyiterator.__iter__»:=entryFor_alias (id':="dict_keyiterator.__iter__") (by kernel_rfl) (by first | rfl | decide +kernel) (by decide +kernel) (by kernel_rfl)
def RlO (h:Heap) (p a:Addr) (i:Int):Prop:=∃ o,h.get? p=some o∧o.cls=.type "list_reverseiterator"∧o.data=.fields #[.ref a,rawInt i]
theorem RlO.typeIs {s:Shared}{p a:Addr}{i:Int} (x:RlO s.heap p a i):s.TypeIs (.ref p) "list_reverseiterator":=let ⟨o,ho,hc,_⟩:=x; ⟨o,ho,hc⟩
theorem RlO.keep {h h':Heap}{p a:Addr}{i:Int} (x:RlO h p a i) (e:∀ o,h.get? p=some o→h'.get? p=some o):RlO h' p a i:=let ⟨o,ho,r⟩:=x; ⟨o,e _ ho,r⟩
section
variable {prog:Program}{w:World}{A:Around}{E:Value→Shared→Prop}{s:Shared}
theorem ado {it a:Addr}{Q:Option Value→Shared→Prop} (hh:A.handled=none) (hit:RlO s.heap it a (-1))
  (hQ:∀ h',Heap.ExtBut it s.heap h'→Q none { s with heap:=h' }):wpAny (model prog w) A (pyNext (.ref it)) Q E s:=by
 obtain⟨o,ho,hc,hd⟩:=id hit
 unfold pyNext
 refine wpAny_bind (wpAny_attempt (wpAny_callSpecial?_slot (name:=Str.ofString "__next__") hit.typeIs zM (wpAny_call_entry zM hit.typeIs XJ ?_ (Yz _))))
 unfold Builtin.«list_reverseiterator.__next__»
 refine wpAny_bind (wpAny_of_eq (a:=(Value.ref it,[])) rfl ?_)
 dsimp only
 refine wpAny_bind (wpAny_field ho hd (x:=rawInt (-1)) rfl ?_)
 show wpAny _ _ (if (-1:Int)<0 then _ else _) _ _ s
 rw [if_pos (by decide)]
 refine wpAny_bind (wpAny_rule ?_)
 refine wpAny_bind ?_
 unfold Builtin.SmallTypes.stopIteration
 refine wpAny_bind ?_
 simp only [newExc,newTuple]
 refine wpAny_bind (wpAny_newObj_type ?_ (by size_fits)); refine wpAny_bind (m:=firstArgMember _ _) (wpAny_of_eq (a:=Value.none) (by first | rfl | (simp only [firstArgMember]; rfl)) ?_); refine wpAny_newObj_type ?_ (by size_fits)
 simp only [raiseNew]; refine wpAny_bind (wpAny_handled ?_)
 first | rw [show A.in1.handled=none from hh] | rw [hh]
 refine wpAny_bind (wpAny_pure (wpAny_throw ?_)); refine wpAny_bind (wpAny_isInstance (T:="StopIteration") (b:=true) ⟨_,Heap.get?_push_size _ rfl,rfl⟩ isSubtype_stop (wpAny_pure (hQ _ ?_)))
 intro b ob hb e
 exact Heap.get?_push_of_some _ (Heap.get?_push_of_some _ e)
theorem Qi {it a:Addr}{i:Int}{Q:Value→Shared→Prop} (hit:RlO s.heap it a i) (h:Q (.ref it) s):wpAny (model prog w) A (pyIter (.ref it)) Q E s:=by
 refine wpAny_pyIter_slot hit.typeIs Wg (wpAny_call_entry Wg hit.typeIs ae7 ?_ (afg _))
 show wpAny _ _ (ret (.ref it)) _ _ s
 exact wpAny_pure ⟨_,rfl,"list_reverseiterator",_,hit.typeIs,zM.lookup,h⟩
end
end SwR
namespace Sw
open PySem PySem.Spec PyProof.Rows L2
section
variable {prog:Program}{w:World}{A:Around}{E:Value→Shared→Prop}{s:Shared}{K:PySem.W.Frag}{x y C:Addr}{ox:Obj}{od:Option Obj}{items:Array Value}
theorem ab8 {Q:Value→Shared→Prop} (kin:K.In s.heap) (J:PySem.W.InstAt s.heap x ox C od) (hm:PySem.W.mroIn K C (.type "object")=some true) (hxy:x≠y) {oy:Obj} (hy:s.heap.get? y=some oy) (h:Q .notImplemented s) :
  wpAny (model prog w) A (call (.builtin "object.__eq__") [.ref x,.ref y]) Q E s:=by
 refine wpAny_call (codeAny_call_builtin (by decide +kernel) F.cmpEntry_eq ?_)
 unfold checkBuiltinCall
 rw [F.cmpKind_eq,F.cmpSplit_eq]
 dsimp only
 refine wpAny_bind ?_
 unfold isInstance
 refine wpAny_bind (J.type _ _ _ s (fun _ _ e=>e) ?_)
 refine PySem.W.looks_mroIn kin hm _ _ _ s (fun _ _ e=>e) ?_
 rw [if_neg (by decide)]
 refine wpAny_of_eq (F.cmpArgs_eq (.ref x) (.ref y)) ?_
 unfold Builtin.«object.__eq__»
 refine wpAny_bind (wpAny_of_eq (a:=(Value.ref x,[Value.ref y])) rfl ?_)
 dsimp only
 refine wpAny_bind (wpAny_isSame_ref_other hxy J.at_ hy (by rw [J.cls]; exact fun z=>nomatch z) ?_)
 rw [if_neg (by decide)]
 exact wpAny_pure h
theorem ab7 {Q:Value→Shared→Prop} (kin:K.In s.heap) (J:PySem.W.InstAt s.heap x ox C od) (hm:PySem.W.mroIn K C (.type "tuple")=some false) (ht:s.TypeIs (.ref y) "tuple") (h:Q .notImplemented s) :
  wpAny (model prog w) A (call (.builtin "tuple.__eq__") [.ref y,.ref x]) Q E s:=by
 refine wpAny_call_entry F.slot_tuple_eq ht F.entry_tuple_eq ?_ (F.args_tuple_eq_2 _ _)
 unfold Builtin.«tuple.__eq__»
 wp_delta
 refine wpAny_bind (wpAny_of_eq (a:=(Value.ref y,[Value.ref x])) rfl ?_)
 dsimp only
 refine wpAny_bind ?_
 unfold isInstance
 refine wpAny_bind (J.type _ _ _ s (fun _ _ e=>e) ?_)
 refine PySem.W.looks_mroIn kin hm _ _ _ s (fun _ _ e=>e) ?_
 rw [if_pos (by decide)]
 exact wpAny_pure ⟨_,rfl,h⟩
theorem abT {Q:Value→Shared→Prop} (hu:A.units<cLine) (kin:K.In s.heap) (J:PySem.W.InstAt s.heap x ox C od) (he:PySem.W.findIn K (.ref C) "__eq__"=some (some (.builtin "object.__eq__"))) (hm:PySem.W.mroIn K C (.type "object")=some true)
  (hmt:PySem.W.mroIn K C (.type "tuple")=some false) (hsub:PySem.W.subIn K (.type "tuple") (.ref C)=some false) (hxy:x≠y) {oy:Obj} (hy:s.heap.get? y=some oy) (hc:oy.cls=.type "tuple") (h:Q (.bool false) s) :
  wpAny (model prog w) A (compareOp .Eq (.ref x) (.ref y)) Q E s:=by
 have ht:s.TypeIs (.ref y) "tuple":=⟨oy,hy,hc⟩
 show wpAny _ _ (richCompare .Eq (.ref x) (.ref y)) _ _ _
 unfold richCompare
 refine wpAny_holding (wpAny_bind (wpAny_cRoomFor hu ?_))
 rw [show oneThing? CmpOp.Eq (Value.ref x) (Value.ref y)=none from rfl]
 show wpAny _ _ (typeOf (.ref x) >>= _) _ _ _
 refine wpAny_bind (J.type _ _ _ s (fun _ _ e=>e) ?_)
 refine wpAny_bind (wpAny_typeOf ht ?_)
 rw [if_pos (by rfl)]
 refine wpAny_bind (PySem.W.looks_subIn kin hsub _ _ _ s (fun _ _ e=>e) ?_)
 show wpAny _ _ (tryCompare (.ref x) (Str.ofString "__eq__") (.ref y) >>= _) _ _ _
 have akp:∀ {Q':Option Value→Shared→Prop},Q' none s→wpAny (model prog w) A (tryCompare (.ref x) (Str.ofString "__eq__") (.ref y)) Q' E s:=fun {Q'} q=>by
  unfold tryCompare
  refine wpAny_bind ?_
  unfold callSpecialIfBound?
  refine wpAny_holding (wpAny_bind ?_)
  unfold bindSpecialIfBound?
  refine wpAny_bind ?_
  unfold specialOf
  refine wpAny_bind (J.type _ _ _ s (fun _ _ e=>e) ?_)
  refine PySem.W.looks_findIn kin he _ _ _ s (fun _ _ e=>e) ?_
  dsimp only
  have hb:bindSpecial (.builtin "object.__eq__") (.ref x)=pure (.builtin "object.__eq__",[.ref x]):=F.slot_object_eq.bind _
  rw [hb]
  have fin:wpAny (model prog w) A (call (.builtin "object.__eq__") ([.ref x]++[.ref y])) (fun v s1=>wpAny (model prog w) A (pure (some v)) (fun a s'=>wpAny (model prog w) A (match a with | some .notImplemented=>pure none | none=>pure none | some v=>pure (some v)) Q' E s') E s1) E s :=
   ab8 kin J hm hxy hy (wpAny_pure (wpAny_pure q))
  refine wpAny_bind (wpAny_askSetting ?_)
  split
  ·exact wpAny_bind (wpAny_pure (wpAny_pure (wpAny_bind fin)))
  ·exact wpAny_tryCatch (wpAny_bind (wpAny_pure (wpAny_pure (wpAny_bind fin))))
 refine wpAny_bind (akp ?_)
 show wpAny _ _ (tryCompare (.ref y) (Str.ofString "__eq__") (.ref x) >>= _) _ _ _
 refine wpAny_bind (wpAny_tryCompare_declines ht F.slot_tuple_eq (ab7 kin J hmt ht ⟨rfl,?_⟩))
 refine wpAny_bind (wpAny_rule ?_)
 exact wpAny_bind (wpAny_isSame_ref_other hxy J.at_ hy (by rw [J.cls]; exact fun z=>nomatch z) (wpAny_pure h))
end
end Sw
namespace SwR
open PySem PySem.Spec PyProof.Rows L2 Sw
def YZ (K:PySem.W.Frag) (a:Addr) (n:Nat):It :=
 ⟨fun i H=>∃ xs x,SqL K H a xs∧xs.length=n∧xs.reverse[i]?=some x,fun i H v H'=>H'=H∧∀ xs,SqL K H a xs→xs.reverse[i]?=some v,fun i H=>∃ xs,SqL K H a xs∧xs.length=n∧n=i⟩
theorem abB {prog:Program}{w:World}{A:Around}{E:Value→Shared→Prop}{s:Shared}{it a:Addr}{i:Nat}{items:Array Value}{x:Value}{Q:Option Value→Shared→Prop} (hit:RlO s.heap it a (i:Int)) (ht:PlainL s.heap a items) (hx:items[i]?=some x)
  (hQ:∀ h' tk,RlO h' it a ((i:Int) - 1)→Heap.SameBut it s.heap h'→Q (some x) { s with heap:=h',toks:=tk }):wpAny (model prog w) A (pyNext (.ref it)) Q E s:=by
 obtain⟨o,ho,hc,hd⟩:=id hit
 obtain⟨ol,nn,hol,hcl,hdl,hsl⟩:=ht
 unfold pyNext
 refine wpAny_bind (wpAny_attempt (wpAny_callSpecial?_slot (name:=Str.ofString "__next__") hit.typeIs zM (wpAny_call_entry zM hit.typeIs XJ ?_ (Yz _))))
 unfold Builtin.«list_reverseiterator.__next__»
 refine wpAny_bind (wpAny_of_eq (a:=(Value.ref it,[])) rfl ?_)
 dsimp only
 refine wpAny_bind (wpAny_field ho hd (x:=rawInt (i:Int)) rfl ?_)
 show wpAny _ _ (if (i:Int)<0 then _ else _) _ _ s
 rw [if_neg (by lia)]
 refine wpAny_bind (wpAny_field ho hd (x:=.ref a) rfl ?_)
 refine wpAny_bind (wpAny_seqItems hol hsl ?_)
 dsimp only
 rw [show items[Int.toNat (i:Int)]?=some x by rw [Int.toNat_natCast]; exact hx]
 dsimp only
 refine wpAny_bind (wpAny_setField ho hd (by simp) ?_)
 refine wpAny_pure ⟨x,rfl,wpAny_pure (hQ _ _ ?_ (Heap.SameBut.update ..))⟩
 exact⟨_,Heap.get?_update_self _ ho (Obj.isFreed_of_fields (Obj.data_mapFields hd _)),(Obj.cls_mapFields ..).trans hc,by rw [Obj.data_mapFields hd]; simp⟩
theorem acE {P:Program}{w:World}{K:PySem.W.Frag}{tg:Expr} (a it:Addr) (n:Nat):Turn P w K tg (YZ K a n) [it] it (fun i h=>RlO h it a ((n:Int) - 1 - (i:Int))) where
 mem:=by simp
 obj:=fun i h st b hb=>by
  have e:b=it:=by simpa using hb
  subst e
  obtain⟨o,ho,hc,hd⟩:=st
  exact⟨o,ho,fun v z=>by rw [hd] at z; cases z⟩
 keep:=fun i h h' st k=>st.keep fun o e=>k it (by simp) o e
 item:=by
  intro X hP hw hK hc i pins s σ H E I hf st hg
  subst hP hw hK
  obtain⟨xs,x,hq,hn,hx⟩:=hg
  obtain⟨hi,hx'⟩:=Wx hx
  obtain⟨its,rv,p,hz⟩:=I.list hq
  obtain⟨u,hu,ru⟩:=rv.get hx'
  obtain⟨f0,f1,f2,f3,f4,f5⟩:=hf it (by simp)
  have hl:=rv.length
  have e1:(n:Int) - 1 - (i:Int)=((xs.length - 1 - i:Nat):Int):=by lia
  rw [e1] at st
  refine abB (items:=its.toArray) st p (x:=u) (by simpa using hu) fun h' tk st' sb=>?_
  have e2:((xs.length - 1 - i:Nat):Int) - 1=(n:Int) - 1 - ((i+1:Nat):Int):=by lia
  rw [e2] at st'
  have I1:Inv X pins σ H { s with heap:=h',toks:=tk }:=I.turned (fun b o hb e=>(sb.2 b hb).trans e) f0 f1 f3 f4 f5
  obtain⟨o,e,c,d⟩:=id st'
  exact⟨u,rfl,go_of (s:={ s with heap:=h',toks:=tk }) e c d (by decide) ⟨x,H,I1,ru,⟨rfl,fun ys hy=>by rw [I.list_inj hy hq]; exact hx⟩,st',fun b hb=>(hf b hb).1⟩⟩
 done:=by
  intro X hP hw hK hc i pins s σ H E I hf st hg
  subst hP hw hK
  obtain⟨xs,hq,hn,hx⟩:=hg
  obtain⟨f0,f1,f2,f3,f4,f5⟩:=hf it (by simp)
  have e1:(n:Int) - 1 - (i:Int)=-1:=by lia
  rw [e1] at st
  exact ado (I.ok.hd hc) st fun h' eb=>⟨rfl,I.turned (t':=s.toks) (fun b o hb e=>eb b o hb e) f0 f1 f3 f4 f5⟩
 self:=fun _ _ _ _ _ st h=>Qi st h
def afH (K:PySem.W.Frag) (tl:TE):TI:=fun σ H R=>tl σ H fun x H1=>∃ a xs,x=.ref a∧SqL K H1 a xs∧R (YZ K a xs.length) H1
theorem agh {X:Cx}{tg l:Expr}{tl:TE}{p pos:Pos} (hg:Gl X "reversed") (hm:X.mg "reversed"=none) (hl:PE X l tl) (hs:starEach [l] X.env=[(false,eval l X.env)]:=by rfl):PI X tg (.Call (.Name "reversed" p) [l] [] pos) (afH X.K tl):=by
 intro pins s σ H R I h
 refine wpAny_Call_Name_kw (ld_blt I hg hm wU ?_)
 refine PyProof.Rows.callWith_type1 ?_ (by rw [hs]; rfl) (by rfl)
 rw [hs]
 refine Calls.spliced_cons (thn (hl pins s σ H _ I h) fun v s1 ⟨x,H1,I1,r1,q1⟩=>Calls.spliced_nil ?_)
 obtain⟨a,xs,rfl,hq,q⟩:=q1
 cases r1
 obtain⟨its,rv,ht,hz⟩:=I1.list hq
 have hlen:=rv.length
 refine call_reversed_list ht.isList ?_
 have hit:RlO (s1.heap.push (revObj a ((its.toArray.size:Int) - 1))) s1.heap.objs.size a ((its.toArray.size:Int) - 1):=⟨_,Heap.get?_push_size _ rfl,rfl,rfl⟩
 refine Qi (s:={ s1 with heap:=s1.heap.push (revObj a ((its.toArray.size:Int) - 1)) }) hit ?_
 refine⟨s1.heap.objs.size,[s1.heap.objs.size],_,YZ X.K a xs.length,H1,rfl,I1.kept fun b o e=>Heap.get?_push_of_some _ e,acE a _ xs.length,?_,fun b hb=>?_,q⟩
 ·have e1:(xs.length:Int) - 1 - ((0:Nat):Int)=(its.toArray.size:Int) - 1:=by rw [List.size_toArray]; lia
  show RlO _ _ _ ((xs.length:Int) - 1 - ((0:Nat):Int))
  rw [e1]
  exact hit
 ·have e:b=s1.heap.objs.size:=by simpa using hb
  subst e
  exact I1.fpOk (Nat.le_refl _) (I1.hok.fresh (Nat.le_refl _))
end SwR
namespace Sw
open PySem PySem.Spec PyProof.Rows L2
structure YT (K:PySem.W.Frag) (C:Addr):Prop where
 cl:Cls K C
 eq:PySem.W.findIn K (.ref C) "__eq__"=some (some (.builtin "object.__eq__"))
 ob:PySem.W.mroIn K C (.type "object")=some true
 tu:PySem.W.mroIn K C (.type "tuple")=some false
 sb:PySem.W.subIn K (.type "tuple") (.ref C)=some false
 ca:PySem.W.findIn K (.ref C) "__class__"=some (some (.builtin "object.__class__"))
 cn:PySem.W.specialIn K (.builtin "object.__class__") "__get__"=some (some (.builtin "getset_descriptor.__get__"))
 ct:PySem.W.takesIn K (.builtin "object.__class__")=some true
theorem YT.ty {K:PySem.W.Frag}{C a dx:Addr}{fs:List (Str×V)}{H:Hp} (r:YT K C) (h:H a=some (.ins C dx fs)):TyOf K H (.ref a) (.ref C):=.ins h r.cl r.ca r.cn r.ct r.ob
section
variable {X:Cx}
def ac4 (K:PySem.W.Frag) (n:Nat):R2:=fun x y H Q=>(∃ t u,TR K H t x∧TR K H u y∧t.deep≤n∧Q (.bl (T.beq t u)) H)∨∃ a C dx fs b ys,x=.ref a∧H a=some (.ins C dx fs)∧YT K C∧y=.ref b∧H b=some (.tup ys)∧Q (.bl false) H
theorem WR {n:Nat} (hu:X.A.units+n<cLine):OpR X (compareOp .Eq) (ac4 X.K n):=by
 intro pins s σ H x y v u Q I rx ry h
 rcases h with h | ⟨a,C,dx,fs,b,ys,rfl,ha,r,rfl,hb,q⟩
 ·exact uE hu pins s σ H x y v u Q I rx ry h
 ·cases (show v=Value.ref a from rx)
  cases (show u=Value.ref b from ry)
  obtain⟨mA,O,_⟩:=ins_get I.hok ha
  obtain⟨od,J,_⟩:=O.look
  obtain⟨_,_,_,p⟩:=(show ObjOk X.prog X.w H s.heap b (.tup ys) from I.hok b _ hb)
  obtain⟨o,h1,h2,_⟩:=p
  exact abT (by lia) I.kIn J r.eq r.ob r.tu r.sb (fun z=>by rw [z,hb] at ha; cases ha) h1 h2 ⟨.bl false,H,I,rfl,q⟩
theorem lO:CallR X (.builtin "isinstance") (fun xs H Q=>∃ x D b,xs=[x,.ref D]∧((∃ t,TyOf X.K H x t∧PySem.W.kitOne X.K t (.ref D)=some b)∨(∃ a ys,x=.ref a∧SqT X.K H a ys∧PySem.W.kitOne X.K (.type "tuple") (.ref D)=some b))∧Q (.bl b) H):=by
 intro pins s σ H xs us Q I r h
 obtain⟨x,D,b,rfl,h,q⟩:=h
 obtain⟨u,w',rfl,r1,r2⟩:=vals2 r
 cases (show w'=Value.ref D from r2)
 rcases h with⟨t,ty,e⟩ | ⟨a,ys,rfl,hq,e⟩
 ·exact adB I r1 ty e fun tk=>⟨.bl b,H,I.tok tk,rfl,q⟩
 ·cases r1
  obtain⟨its,_,⟨o,h1,h2,_⟩,_⟩:=I.tuple hq
  exact PySem.W.kia_one PySem.W.kitx_tuple I.kIn ⟨o,h1,h2⟩ e (fun z=>nomatch z) fun tk=>⟨.bl b,H,I.tok tk,rfl,q⟩
def aes:V→List V→Hp→VK→Prop:=fun x vs H Q=>∃ l xs y,x=.ref l∧vs=[.int 0,y]∧H l=some (.lst xs)∧xs.length<sizeLine∧Q .non (upd H l (.lst (y::xs)))
theorem abE:MtM X "list.insert" aes:=by
 intro pins s σ H x vs v us Q I rx rv h
 obtain⟨l,xs,y,rfl,rfl,hH,hz,q⟩:=h
 cases rx
 obtain⟨u0,u,rfl,r0,ru⟩:=vals2 rv
 obtain⟨t,rfl⟩:=r0
 obtain⟨z,its,n,r,hl,e⟩:=I.lstM hH
 refine call_meets F.slot_list_insert ⟨_,e,rfl⟩ F.entry_list_insert (F.args_list_insert_3 _ _ _) (AutoSeq1.list_insert_list_int_val_1 l its.toArray n 0 t u (by decide) (by rw [List.size_toArray]; lia)) ⟨e,?_⟩
 refine⟨.non,_,I.Xp (its':=u::its) hH e (by simp) (.cons ru r) ?_,rfl,q⟩
 rw [List.length_cons]
 lia
theorem N6:afk X (rIxL X.K):=by
 intro pins s σ H x y v u Q I rx ry h
 obtain⟨p,xs,i,z,rfl,rfl,hq,he,q⟩:=h
 cases rx
 obtain⟨t,rfl⟩:=ry
 obtain⟨its,r,pl,hz⟩:=I.list hq
 obtain⟨j,h1,h2,h3,h4,h5⟩:=atI_get he
 obtain⟨w,ew,rw'⟩:=r.get h2
 have hl:=r.length
 have hn:=line63
 have fin:EP X pins σ Q w s:=⟨z,H,I,rw',q⟩
 by_cases h0:0≤i
 ·have hj:i.toNat=j:=by
   rw [seqIndex_of h0 h5] at h1
   exact Option.some.inj h1
  exact getItem_listL pl.isList h0 (by lia) (by rw [hj]; exact ew) fin
 ·have hj:(i+(its.toArray.size:Int)).toNat=j:=by
   rw [seqIndex_neg (by lia) h4] at h1
   rw [List.size_toArray,← hl]
   exact Option.some.inj h1
  exact wpAny_getItem_list_neg pl.isList (by lia) (by rw [List.size_toArray] <;> lia) (by lia) (by rw [hj]; simpa using ew) fin
theorem Rj {pos:Pos}{o i e:Expr}{to ti te:TE}{Ls:V→V→Hp→VK→Prop}{tip:TIp}{Lr:Pa}{op:Operator}{tpos:Pos} (ho:QE X o to) (hi:QE X i ti) (hg:afk X Ls) (he:QE X e te) (hp:PIp X op tip) (hs:YW X Lr)
  (ha:∀ ov iv new,augStore i ov iv new=(do holding [new,ov,iv] (setItem ov iv new); release [new,ov,iv] []; pure .next):=by intros; rfl):QS X (.AugAssign (.Subscript o i tpos) op e pos) (afw to ti te Ls tip Lr):=⟨agc ho.run hi.run hg he.run hp hs ha⟩
theorem Ui {o value:Expr}{f:Str}{pos tpos:Pos}{ta tv:TE}{op:Operator}{rd:V→V→Hp→VK→Prop} (ha:QE X o ta) (hv:QE X value tv) (hop:acq X op rd):QS X (.AugAssign (.Attribute o f tpos) op value pos) (aas X.K ta tv rd f):=⟨ac8 ha.run hv.run hop⟩
theorem mj {CX:CXT}{k:Nat}{f C:Addr}{fd:FuncData}{ps:List Str}{sp:Sp}{dvs:List V}{ds:List Value}{E:XK}{x:Str}{p pos:Pos}{e:Expr}{es:List Expr}{t:TA} (M:Mk X.K C f) (F:FnOk X.prog X.w X.K X.mg X.base CX k f fd ps sp) (hr:Room (k+1) X.A) (hg:Gl X x) (hm:X.mg x=some (.ref C)) (hb:Binds X.K fd ps ds) (hd:Vals dvs ds) (hx:Passes CX X E)
  (ha:QA X (e::es) t) (hdb:(x == ("__debug__":Str))=false:=by decide) (he:starEach (e::es) X.env=(false,eval e X.env)::starEach es X.env:=by rfl) (hpl:(backTo pos (starEach es X.env)).any (·.1)=false:=by rfl) :
  QE X (.Call (.Name x p) (e::es) [] pos) (tMake C sp dvs E t):=⟨agl M F hr hg hm hb hd hx ha.run hdb he hpl⟩
theorem af7 {tg l:Expr}{tl:TE}{p pos:Pos} (hg:Gl X "reversed") (hm:X.mg "reversed"=none) (hl:QE X l tl) (hs:starEach [l] X.env=[(false,eval l X.env)]:=by rfl):QI X tg (.Call (.Name "reversed" p) [l] [] pos) (SwR.afG X.K tl):=⟨SwR.agg hg hm hl.run hs⟩
theorem aax {tg l:Expr}{tl:TE}{p pos:Pos} (hg:Gl X "reversed") (hm:X.mg "reversed"=none) (hl:QE X l tl) (hs:starEach [l] X.env=[(false,eval l X.env)]:=by rfl):QI X tg (.Call (.Name "reversed" p) [l] [] pos) (SwR.afH X.K tl):=⟨SwR.agh hg hm hl.run hs⟩
theorem Rk {K:PySem.W.Frag}{e:Expr}{f:Str}{pos:Pos}{ta:TE} (hK:X.K=K) (he:QE X e ta) (hb:attributeBase e f X.env (eval e X.env)=eval e X.env):QE X (.Attribute e f pos) (tFld K ta f):=by subst hK; exact bN he hb
theorem agk {a:Expr}{ta:TE}{pos:Pos} (ha:PE X a ta):PE X (.UnaryOp .Not a pos) (fun σ H Q=>ta σ H fun x H'=>∃ k,YL X.K x H' k∧Q (.bl (!k)) H'):=by
 intro pins s σ H Q I h
 refine UnaryOp_ (thn (ha pins s σ H _ I h) fun v s1 ⟨x,H1,I1,r1,q1⟩=>?_)
 refine not_of (thn (acH pins s1 σ H1 x v (fun k H2=>Q (.bl (!k)) H2) I1 r1 q1) fun k s2 ⟨H2,I2,q2⟩=>?_)
 exact⟨.bl (!k),H2,I2,rfl,q2⟩
theorem af9 {a:Expr}{ta:TE}{pos:Pos} (ha:QE X a ta):QE X (.UnaryOp .Not a pos) (fun σ H Q=>ta σ H fun x H'=>∃ k,YL X.K x H' k∧Q (.bl (!k)) H'):=⟨agk ha.run⟩
end
structure Own (K:PySem.W.Frag) (ao aD aG aL aM aK:Addr):Prop where
 rF:YT K ao
 rL:YT K aD
 iw:Cls K aG
 cText:Cls K aL
 Ba:Cls K aM
 dG:Cls K aK
 fi:NoAttr K ao "item"
 fb:NoAttr K ao "behind"
 lt:NoAttr K aD "tree"
 lp:NoAttr K aD "place"
 wk:NoAttr K aG "kind"
 wl:NoAttr K aG "load"
 wy:NoAttr K aG "yes"
 wn:NoAttr K aG "no"
 wb:NoAttr K aG "body"
 ws:NoAttr K aG "size"
 tt:NoAttr K aL "tree"
 tw:NoAttr K aL "words"
 gt:NoAttr K aM "text"
 gp:NoAttr K aM "place"
 kg:NoAttr K aK "goings"
 ks:NoAttr K aK "stack"
 kn:NoAttr K aK "numbers"
 kl:NoAttr K aK "left"
 iTF:PySem.W.kitOne K (.type "tuple") (.ref ao)=some false
 iTL:PySem.W.kitOne K (.type "tuple") (.ref aD)=some false
 iFF:PySem.W.kitOne K (.ref ao) (.ref ao)=some true
 iLF:PySem.W.kitOne K (.ref aD) (.ref ao)=some false
 iLL:PySem.W.kitOne K (.ref aD) (.ref aD)=some true
theorem WK (f:Str) (v:V):putF f v []=[(f,v)]:=rfl
theorem zx (f:Str) (u v:V) (r:List (Str×V)):putF f v ((f,u)::r)=(f,v)::r:=by rw [putF,if_pos rfl]
theorem bR {f g:Str} (h:¬ g=f) (u v:V) (r:List (Str×V)):putF f v ((g,u)::r)=(g,u)::putF f v r:=by rw [putF,if_neg h]
theorem fQ (f:Str) (u:V) (r:List (Str×V)):List.lookup f ((f,u)::r)=some u:=by rw [List.lookup_cons,beq_self_eq_true]
theorem cO {f g:Str} (h:(f == g)=false) (u:V) (r:List (Str×V)):List.lookup f ((g,u)::r)=List.lookup f r:=by rw [List.lookup_cons,h]
def fF (y z:V):List (Str×V):=[("item",y),("behind",z)]
def fL (v:V) (p:Nat):List (Str×V):=[("tree",v),("place",.int (p:Int))]
def fT (v:V) (W:Addr):List (Str×V):=[("tree",v),("words",.ref W)]
def fG (a:Addr) (p:Nat):List (Str×V):=[("text",.ref a),("place",.int (p:Int))]
def fD (k:Nat) (v y n b z:V):List (Str×V):=[("kind",.int (k:Int)),("load",v),("yes",y),("no",n),("body",b),("size",z)]
def fW (G S N:Addr) (b:Nat):List (Str×V):=[("goings",.ref G),("stack",.ref S),("numbers",.ref N),("left",.int (b:Int))]
theorem PN {f g:Str} (h:¬ f=g) (u v:V):putF g v (putF f u [])=[(f,u),(g,v)]:=by rw [WK,bR h,WK]
inductive Role where
 | mine
 | text (t:T) (W:Addr)
 | words (t:T)
 | word (w:T)
 | row (t:T)
abbrev Mp:=Addr→Option Role
def setM (M:Mp) (p:Addr) (r:Role):Mp:=fun a=>if a=p then some r else M a
theorem fV {M:Mp}{p:Addr}{r:Role}:setM M p r p=some r:=by unfold setM; rw [if_pos rfl]
theorem jg {M:Mp}{a p:Addr}{r:Role} (h:a≠p):setM M p r a=M a:=by unfold setM; rw [if_neg h]
section
variable (K:PySem.W.Frag) (CF CL CD CT CG CW:Addr)
def RV (M:Mp) (H:Hp) (t:T) (x:V):Prop:=TR K H t x∨∃ a,x=.ref a∧M a=some (.row t)
def yN (M:Mp) (a:Addr) (t:T):Prop:=∃ W,M a=some (.text t W)
def Ok1 (M:Mp) (H:Hp) (a:Addr):Role→Prop
 | .mine=>True
 | .text t W=>∃ dx v,H a=some (.ins CT dx (fT v W))∧TR K H t v∧M W=some (.words t)
 | .words t=>∃ xs,H a=some (.lst xs)∧xs.length≤t.kids.length∧∀ (j:Nat) x,xs[j]?=some x→∃ b w,x=.ref b∧t.kids[j]?=some w∧M b=some (.word w)
 | .word w=>∃ dx v y n bd sz,H a=some (.ins CD dx (fD (aB w) v y n bd sz))∧TR K H (aZ w) v∧(aB w=7→∃ ay an,y=.ref ay∧n=.ref an∧yN M ay (ats (aZ w).kids 0)∧yN M an (aZ (aZ w))) ∧
   (aB w=8→∃ ab,bd=.ref ab∧yN M ab (aZ w))∧(sz=.non∨sz=.int ((aZ w).parts:Nat))
 | .row t=>(∃ dx y z u ts,H a=some (.ins CF dx (fF y z))∧t=.node (u::ts)∧RV K M H u y∧RV K M H (.node ts) z)∨∃ dx v ts p,H a=some (.ins CL dx (fL v p))∧TR K H (.node ts) v∧p<ts.length∧ts.length≤8000000∧t=.node (ts.drop p)
structure Gh (M:Mp) (H₀ H:Hp):Prop where
 same:Same H₀ H
 new:∀ a r,M a=some r→H₀ a=none
 has:∀ a r,M a=some r→∃ o,H a=some o
 ok:∀ a r,M a=some r→Ok1 K CF CL CD CT M H a r
structure Go (X:Addr→Prop) (M M':Mp) (H₀ H H':Hp):Prop where
 ext:∀ a r,M a=some r→M' a=some r
 mine:∀ a,M a=some .mine→¬ X a→H' a=H a
 kt:Kt H H'
 gh:Gh K CF CL CD CT M' H₀ H'
 wds:∀ W t ws,M W=some (.words t)→H W=some (.lst ws)→∃ ws',H' W=some (.lst ws')∧ws.length≤ws'.length
end
section
variable {K:PySem.W.Frag}{CF CL CD CT CG CW:Addr}{M M' M'':Mp}{H₀ H H' H'':Hp}{X Y:Addr→Prop}
theorem RV.mono {t:T}{x:V} (k:Kt H H') (e:∀ a t,M a=some (.row t)→M' a=some (.row t)) (h:RV K M H t x):RV K M' H' t x:=by
 rcases h with h | ⟨a,rfl,h⟩
 ·exact .inl (h.mono k)
 ·exact .inr ⟨a,rfl,e _ _ h⟩
theorem Ok1.mono {a:Addr}{r:Role} (h:Ok1 K CF CL CD CT M H a r) (ha:H' a=H a) (k:Kt H H') (e:∀ a r,r≠.mine→M a=some r→M' a=some r):Ok1 K CF CL CD CT M' H' a r:=by
 cases r with
 | mine=>trivial
 | text t W =>
  obtain⟨dx,v,h1,h2,h3⟩:=h
  exact⟨dx,v,ha.trans h1,h2.mono k,e _ _ (by simp) h3⟩
 | words t =>
  obtain⟨xs,h1,h2,h3⟩:=h
  refine⟨xs,ha.trans h1,h2,fun j x hx=>?_⟩
  obtain⟨b,w,e1,e2,e3⟩:=h3 j x hx
  exact⟨b,w,e1,e2,e _ _ (by simp) e3⟩
 | word w =>
  obtain⟨dx,v,y,n,bd,sz,h1,h2,h3,h4,h5⟩:=h
  refine⟨dx,v,y,n,bd,sz,ha.trans h1,h2.mono k,fun s7=>?_,fun s8=>?_,h5⟩
  ·obtain⟨ay,an,e1,e2,⟨W1,e3⟩,W2,e4⟩:=h3 s7
   exact⟨ay,an,e1,e2,⟨W1,e _ _ (by simp) e3⟩,W2,e _ _ (by simp) e4⟩
  ·obtain⟨ab,e1,W,e2⟩:=h4 s8
   exact⟨ab,e1,W,e _ _ (by simp) e2⟩
 | row t =>
  have er:∀ a t,M a=some (.row t)→M' a=some (.row t):=fun a t=>e a _ (by simp)
  rcases h with⟨dx,y,z,u,ts,h1,h2,h3,h4⟩ | ⟨dx,v,ts,p,h1,h2,h3,h4,h5⟩
  ·exact .inl ⟨dx,y,z,u,ts,ha.trans h1,h2,h3.mono k er,h4.mono k er⟩
  ·exact .inr ⟨dx,v,ts,p,ha.trans h1,h2.mono k,h3,h4,h5⟩
theorem Gh.nil (H:Hp):Gh K CF CL CD CT (fun _=>none) H H:=⟨Same.refl _,fun _ _ z=>(by cases z),fun _ _ z=>(by cases z),fun _ _ z=>(by cases z)⟩
theorem Gh.grow (g:Gh K CF CL CD CT M H₀ H) (S:Same H H'):Gh K CF CL CD CT M H₀ H' :=
 ⟨g.same.trans S,g.new,fun a r h=>by obtain⟨o,e⟩:=g.has a r h; exact⟨o,S _ _ e⟩,fun a r h=>by
  obtain⟨o,e⟩:=g.has a r h
  exact (g.ok a r h).mono ((S _ _ e).trans e.symm) (.of S) fun _ _ _ z=>z⟩
theorem Gh.mut {p:Addr}{o:HO} (g:Gh K CF CL CD CT M H₀ H) (hp:M p=some .mine) (k:Kt H (upd H p o)):Gh K CF CL CD CT M H₀ (upd H p o):=by
 refine⟨gB g.same (g.new _ _ hp),g.new,fun a r h=>?_,fun a r h=>?_⟩
 ·by_cases z:a=p
  ·exact⟨o,by rw [z,upd_same]⟩
  ·obtain⟨u,e⟩:=g.has a r h
   exact⟨u,by rw [upd_ne z]; exact e⟩
 ·by_cases z:a=p
  ·rw [z,hp] at h
   cases h
   trivial
  ·exact (g.ok a r h).mono (upd_ne z) k fun _ _ _ z=>z
theorem Gh.put {p:Addr}{o:HO}{r:Role} (g:Gh K CF CL CD CT M H₀ H) (hp:M p=some r) (k:Kt H (upd H p o)) (h:Ok1 K CF CL CD CT M (upd H p o) p r):Gh K CF CL CD CT M H₀ (upd H p o):=by
 refine⟨gB g.same (g.new _ _ hp),g.new,fun a r h=>?_,fun a r' h'=>?_⟩
 ·by_cases z:a=p
  ·exact⟨o,by rw [z,upd_same]⟩
  ·obtain⟨u,e⟩:=g.has a r h
   exact⟨u,by rw [upd_ne z]; exact e⟩
 ·by_cases z:a=p
  ·rw [z,hp] at h'
   cases h'
   rw [z]
   exact h
  ·exact (g.ok a r' h').mono (upd_ne z) k fun _ _ _ z=>z
theorem Gh.role {p:Addr}{r:Role} (g:Gh K CF CL CD CT M H₀ H) (hp:M p=none∨M p=some .mine) (hn:H₀ p=none) (hh:∃ o,H p=some o) (h:Ok1 K CF CL CD CT (setM M p r) H p r):Gh K CF CL CD CT (setM M p r) H₀ H:=by
 refine⟨g.same,fun a r' h'=>?_,fun a r' h'=>?_,fun a r' h'=>?_⟩
 ·by_cases z:a=p
  ·rw [z]; exact hn
  ·rw [jg z] at h'; exact g.new a r' h'
 ·by_cases z:a=p
  ·rw [z]; exact hh
  ·rw [jg z] at h'; exact g.has a r' h'
 ·by_cases z:a=p
  ·rw [z,fV] at h'
   cases h'
   rw [z]
   exact h
  ·rw [jg z] at h'
   refine (g.ok a r' h').mono rfl (Kt.refl _) fun b r2 hr hb=>?_
   by_cases y:b=p
   ·rw [y] at hb
    rcases hp with hp | hp
    ·rw [hp] at hb; cases hb
    ·rw [hp] at hb; cases hb; exact absurd rfl hr
   ·rw [jg y]; exact hb
theorem Go.refl (g:Gh K CF CL CD CT M H₀ H):Go K CF CL CD CT X M M H₀ H H:=⟨fun _ _ z=>z,fun _ _ _=>rfl,Kt.refl _,g,fun _ _ ws _ h=>⟨ws,h,Nat.le_refl _⟩⟩
theorem Go.trans (a:Go K CF CL CD CT X M M' H₀ H H') (b:Go K CF CL CD CT X M' M'' H₀ H' H''):Go K CF CL CD CT X M M'' H₀ H H'' :=
 ⟨fun p r h=>b.ext _ _ (a.ext _ _ h),fun p h x=>(b.mine p (a.ext _ _ h) x).trans (a.mine p h x),a.kt.trans b.kt,b.gh,fun W t ws h1 h2=>by
  obtain⟨w1,e1,l1⟩:=a.wds W t ws h1 h2
  obtain⟨w2,e2,l2⟩:=b.wds W t w1 (a.ext _ _ h1) e1
  exact⟨w2,e2,by lia⟩⟩
theorem Go.weak (a:Go K CF CL CD CT X M M' H₀ H H') (h:∀ p,X p→Y p):Go K CF CL CD CT Y M M' H₀ H H':=⟨a.ext,fun p m y=>a.mine p m fun z=>y (h p z),a.kt,a.gh,a.wds⟩
theorem Go.grow (g:Gh K CF CL CD CT M H₀ H) (S:Same H H'):Go K CF CL CD CT X M M H₀ H H' :=
 ⟨fun _ _ z=>z,fun a h _=>by obtain⟨o,e⟩:=g.has a _ h; exact (S _ _ e).trans e.symm,.of S,g.grow S,fun _ _ ws _ h=>⟨ws,S _ _ h,Nat.le_refl _⟩⟩
theorem Go.rv {t:T}{x:V} (a:Go K CF CL CD CT X M M' H₀ H H') (h:RV K M H t x):RV K M' H' t x:=h.mono a.kt fun p t e=>a.ext p _ e
abbrev mkO (H:Hp) (x dx C:Addr) (fs:List (Str×V)):Hp:=upd (upd H dx (.own x)) x (.ins C dx fs)
theorem nF {H:Hp}{p:Addr}{a b:HO}:upd (upd H p a) p b=upd H p b:=by
 funext q
 by_cases h:q=p
 ·rw [h,upd_same,upd_same]
 ·rw [upd_ne h,upd_ne h,upd_ne h]
theorem akj {H:Hp}{p q:Addr}{a b:HO} (h:p≠q):upd (upd H p a) q b=upd (upd H q b) p a:=by
 funext r
 by_cases h1:r=p
 ·rw [h1,upd_ne h,upd_same,upd_same]
 ·by_cases h2:r=q
  ·rw [h2,upd_same,upd_ne (Ne.symm h),upd_same]
  ·rw [upd_ne h2,upd_ne h1,upd_ne h1,upd_ne h2]
variable {x dx C p:Addr}{fs fs':List (Str×V)}{o:HO}
theorem jM:mkO H x dx C fs x=some (.ins C dx fs):=upd_same
theorem adt:upd (mkO H x dx C fs) x (.ins C dx fs')=mkO H x dx C fs':=nF
theorem kW (hx:H x=none) (hd:H dx=none) (ne:dx≠x):Same H (mkO H x dx C fs):=by
 refine (same_new hd _).trans (same_new ?_ _)
 rw [upd_ne (Ne.symm ne)]
 exact hx
theorem Go.made (g:Gh K CF CL CD CT M H₀ H) (hx:H x=none) (hd:H dx=none) (ne:dx≠x):Go K CF CL CD CT X M (setM M x .mine) H₀ H (mkO H x dx C fs):=by
 have S:=kW (C:=C) (fs:=fs) hx hd ne
 have nM:M x=none:=by
  cases h:M x with
  | none=>rfl
  | some r=>obtain⟨o,e⟩:=g.has x r h; rw [hx] at e; cases e
 have g1:=(g.grow S).role (p:=x) (r:=.mine) (.inl nM) (g.same.free hx) ⟨_,jM⟩ trivial
 refine⟨fun a r h=>?_,fun a h _=>?_,.of S,g1,fun _ _ ws _ h=>⟨ws,S _ _ h,Nat.le_refl _⟩⟩
 ·rw [jg (fun z=>by rw [z,nM] at h; cases h)]; exact h
 ·obtain⟨o,e⟩:=g.has a _ h; exact (S _ _ e).trans e.symm
theorem Go.RQ (g:Gh K CF CL CD CT M H₀ H) (hx:H p=none):Go K CF CL CD CT X M (setM M p .mine) H₀ H (upd H p o):=by
 have S:=same_new hx o
 have nM:M p=none:=by
  cases h:M p with
  | none=>rfl
  | some r=>obtain⟨o,e⟩:=g.has p r h; rw [hx] at e; cases e
 have g1:=(g.grow S).role (p:=p) (r:=.mine) (.inl nM) (g.same.free hx) ⟨_,upd_same⟩ trivial
 refine⟨fun a r h=>?_,fun a h _=>?_,.of S,g1,fun _ _ ws _ h=>⟨ws,S _ _ h,Nat.le_refl _⟩⟩
 ·rw [jg (fun z=>by rw [z,nM] at h; cases h)]; exact h
 ·obtain⟨o,e⟩:=g.has a _ h; exact (S _ _ e).trans e.symm
theorem Go.role {r:Role} (g:Gh K CF CL CD CT M H₀ H) (S:Same H H') (hx:H p=none) (hh:∃ o,H' p=some o) (h:Ok1 K CF CL CD CT (setM M p r) H' p r):Go K CF CL CD CT X M (setM M p r) H₀ H H':=by
 have nM:M p=none:=by
  cases h:M p with
  | none=>rfl
  | some r=>obtain⟨o,e⟩:=g.has p r h; rw [hx] at e; cases e
 have g1:=(g.grow S).role (p:=p) (r:=r) (.inl nM) (g.same.free hx) hh h
 refine⟨fun a r h=>?_,fun a h _=>?_,.of S,g1,fun _ _ ws _ h=>⟨ws,S _ _ h,Nat.le_refl _⟩⟩
 ·rw [jg (fun z=>by rw [z,nM] at h; cases h)]; exact h
 ·obtain⟨o,e⟩:=g.has a _ h; exact (S _ _ e).trans e.symm
theorem Gh.fresh (g:Gh K CF CL CD CT M H₀ H) (hx:H p=none):M p=none:=by
 cases h:M p with
 | none=>rfl
 | some r=>obtain⟨o,e⟩:=g.has p r h; rw [hx] at e; cases e
end
section
variable (K:PySem.W.Frag) (CF CL CD CT CG CW:Addr)
def UV (H:Hp) (t:T) (x:V):Prop:=TR K H t x∨∃ a dx v ts p,x=.ref a∧H a=some (.ins CL dx (fL v p))∧TR K H (.node ts) v∧p<ts.length∧ts.length≤8000000∧t=.node (ts.drop p)
def FV (M:Mp) (H:Hp) (t:T) (x:V):Prop:=∃ a dx y z u ts,x=.ref a∧H a=some (.ins CF dx (fF y z))∧t=.node (u::ts)∧RV K M H u y∧RV K M H (.node ts) z
def V_:Sp:=fun vs H Q _=>∃ o dx y z,vs=[.ref o,y,z]∧H o=some (.ins CF dx [])∧Q .non (upd H o (.ins CF dx (fF y z)))
def V8:Sp:=fun vs H Q _=>∃ (o dx:Addr) (v:V) (p:Nat),vs=[.ref o,v,.int (p:Int)]∧H o=some (.ins CL dx [])∧Q .non (upd H o (.ins CL dx (fL v p)))
def Lz:Sp:=fun vs H Q _=>∃ o dx a,vs=[.ref o,.ref a]∧H o=some (.ins CG dx [])∧Q .non (upd H o (.ins CG dx (fG a 0)))
def Ly:Sp:=fun vs H Q _=>∃ o dx v,vs=[.ref o,v]∧H o=some (.ins CT dx [])∧∀ W,H W=none→Q .non (upd (upd H W (.lst [])) o (.ins CT dx (fT v W)))
def Ug:Sp:=fun vs H Q _=>∃ x t M H₀,vs=[x]∧Gh K CF CL CD CT M H₀ H∧RV K M H t x∧t.deep≤400∧∀ y H',Same H H'→RV K M H' (ats t.kids 0) y→Q y H'
def aam:Sp:=fun vs H Q _=>∃ (x:V) (ts:List T) (p:Nat) (M:Mp) (H₀:Hp),vs=[x,.int (p:Int)]∧Gh K CF CL CD CT M H₀ H∧TR K H (.node ts) x∧ts.length≤8000000∧∀ y M' H',Same H H'→Go K CF CL CD CT (fun _=>False) M M' H₀ H H'→RV K M' H' (.node (ts.drop p)) y→Q y H'
def V6:Sp:=fun vs H Q _=>∃ x t M H₀,vs=[x]∧Gh K CF CL CD CT M H₀ H∧RV K M H t x∧t.deep≤400∧t.kids.length≤8000000∧∀ y M' H',Same H H'→Go K CF CL CD CT (fun _=>False) M M' H₀ H H'→RV K M' H' (aZ t) y→Q y H'
def V3:Sp:=fun vs H Q _=>∃ x t,vs=[x]∧UV K CL H t x∧∀ y H',Same H H'→TR K H' t y→Q y H'
def V7:Sp:=fun vs H Q _=>∃ (x:V) (t:T) (M:Mp) (H₀:Hp) (m:Nat),vs=[x,.int (m:Int)]∧Gh K CF CL CD CT M H₀ H∧RV K M H t x∧t.parts≤8000000∧∀ (c:Nat) H',Same H H'→(t.parts≤m→c=t.parts)→(m<t.parts→m<c)→Q (.int (c:Int)) H'
def LC:Sp:=fun vs H Q _=>∃ x t M H₀,vs=[x]∧Gh K CF CL CD CT M H₀ H∧RV K M H t x∧t.parts≤8000000∧∀ y H',Same H H'→TR K H' t y→Q y H'
end
section
variable {K:PySem.W.Frag}{CF CL CD CT CG CW:Addr}{M M':Mp}{H₀ H H':Hp}
theorem uo {t:T}{x:V} (h:TR K H t x):∃ b ys,x=.ref b∧SqT K H b ys∧TRs K H t.kids ys:=by
 cases t with
 | node ts=>exact bW.mp h
theorem RV.cases {t:T}{x:V} (g:Gh K CF CL CD CT M H₀ H) (h:RV K M H t x):UV K CL H t x∨FV K CF M H t x:=by
 rcases h with h | ⟨a,rfl,h⟩
 ·exact .inl (.inl h)
 ·rcases g.ok a _ h with⟨dx,y,z,u,ts,h1,h2,h3,h4⟩ | ⟨dx,v,ts,p,h1,h2,h3,h4,h5⟩
  ·exact .inr ⟨a,dx,y,z,u,ts,rfl,h1,h2,h3,h4⟩
  ·exact .inl (.inr ⟨a,dx,v,ts,p,rfl,h1,h2,h3,h4,h5⟩)
def WPW (K:PySem.W.Frag) (M:Mp) (H:Hp) (x:V) (m n:Nat) (p:Addr):Nat→Sg→Hp→Prop:=fun μ σ H'=>∃ (ys:List V) (ts:List T) (c:Nat) (o:Option V),
 σ=[some x,some (.int (m:Int)),some (.ref p),some (.int (c:Int)),o]∧Same H H'∧H' p=some (.lst ys)∧bB (RV K M H') ts.reverse ys∧c+T.aH ts=n∧μ=2 * T.aH ts - ts.length
theorem iY {ts:List T}{ys:List V} (k:Kt H H') (h:bB (RV K M H) ts ys):bB (RV K M H') ts ys:=h.imp fun _ _ z=>z.mono k fun _ _ y=>y
theorem QJ:∀ {ts:List T}{ys:List V},TRs K H ts ys→bB (RV K M H) ts ys
 | [],_,h=>by rw [bM.mp h]; exact .nil
 | t::ts,_,h=>by
  obtain⟨x,r,rfl,h1,h2⟩:=cH.mp h
  exact .cons (.inl h1) (QJ h2)
theorem all_nil {α β:Type}{R:α→β→Prop}{ts:List α} (h:bB R ts.reverse []):ts=[]:=by
 have:=h.length
 rw [List.length_reverse] at this
 exact List.length_eq_zero_iff.mp (by simpa using this.symm)
theorem pD {α β:Type}{R:α→β→Prop}{ts:List α}{ys:List β} (h:bB R ts.reverse ys) (hne:ys≠[]):∃ u ts0 ys0 y,ts=u::ts0∧ys=ys0++[y]∧bB R ts0.reverse ys0∧R u y:=by
 cases ts with
 | nil=>exact absurd (by cases h; rfl) hne
 | cons u ts0 =>
  rw [List.reverse_cons] at h
  obtain⟨ys0,y,rfl,h1,h2⟩:=bB.snoc h
  exact⟨u,ts0,ys0,y,rfl,rfl,h1,h2⟩
theorem oO {α:Type} (xs:List α) (y:α):(xs++[y])[(xs++[y]).length - 1]?=some y:=by simp
theorem oR {α:Type} (xs:List α) (y:α):(xs++[y]).dropLast=xs:=by simp
theorem adU {α β:Type}{R:α→β→Prop}{ts:List α}{ys:List β} (h:bB R ts.reverse ys) (hne:ys≠[]):∃ u ts0 y,ts=u::ts0∧ys[ys.length - 1]?=some y∧bB R ts0.reverse ys.dropLast∧R u y:=by
 obtain⟨u,ts0,ys0,y,rfl,rfl,h1,h2⟩:=pD h hne
 exact⟨u,ts0,y,rfl,oO _ _,by rw [oR]; exact h1,h2⟩
theorem Fx:∀ ts:List T,T.aH ts.reverse=T.aH ts
 | []=>rfl
 | t::ts=>by rw [List.reverse_cons,T.b_,Fx ts,T.aF,T.aF,T.aY]; lia
structure Ki (H H':Hp):Prop where
 kt:Kt H H'
 ins:∀ a C dx fs,H a=some (.ins C dx fs)→H' a=some (.ins C dx fs)
theorem Ki.of (S:Same H H'):Ki H H':=⟨.of S,fun a _ _ _ h=>S _ _ h⟩
theorem Ki.lst {p:Addr}{ys:List V}{o:HO} (h:H p=some (.lst ys)):Ki H (upd H p o):=⟨Kt.lst h,fun a _ _ _ e=>by rw [upd_ne (fun z=>by rw [z,h] at e; cases e)]; exact e⟩
theorem UV.mono {t:T}{x:V} (k:Ki H H') (h:UV K CL H t x):UV K CL H' t x:=by
 rcases h with h | ⟨a,dx,v,ts,p,h1,h2,h3,h4,h5,h6⟩
 ·exact .inl (h.mono k.kt)
 ·exact .inr ⟨a,dx,v,ts,p,h1,k.ins _ _ _ _ h2,h3.mono k.kt,h4,h5,h6⟩
theorem UV.ah0 {t:T}{x:V} (O:Own K CF CL CD CT CG CW) (h:UV K CL H t x):(∃ ty,TyOf K H x ty∧PySem.W.kitOne K ty (.ref CF)=some false)∨(∃ a ys,x=.ref a∧SqT K H a ys∧PySem.W.kitOne K (.type "tuple") (.ref CF)=some false):=by
 rcases h with h | ⟨a,dx,v,ts,p,rfl,h2,_⟩
 ·obtain⟨b,ys,rfl,hb,_⟩:=uo h
  exact .inr ⟨b,ys,rfl,hb,O.iTF⟩
 ·exact .inl ⟨_,O.rL.ty h2,O.iLF⟩
theorem g8 {n:Nat} (h:n<16000000):n<sizeLine:=Nat.lt_of_lt_of_le h (by decide)
end
def EY:List (List T)→List T→T
 | [l],r::_=>.node (l++r.kids)
 | l::l'::ls,r::rs=>EY ((l'++[.node (l++r.kids)])::ls) rs
 | _,_=>leaf
theorem aed (l:List T) (ls:List (List T)) (u:T) (ts:List T) (rs:List T):EY ([]::l::ls) (u::.node ts::rs)=EY (l::ls) (.node (u::ts)::rs):=by
 rw [EY]
 have e:T.node ([]++u.kids)=u:=by cases u; rfl
 rw [e]
 cases ls with
 | nil =>
  show T.node ((l++[u])++ts)=T.node (l++(u::ts))
  rw [List.append_assoc]; rfl
 | cons l' ls =>
  rw [EY,EY]
  have:(l++[u])++(T.node ts).kids=l++(T.node (u::ts)).kids:=by
   show (l++[u])++ts=l++(u::ts)
   rw [List.append_assoc]; rfl
  rw [this]
structure AsT (K:PySem.W.Frag) (H₀ H:Hp) (R P:Addr) (ys:List V) (st:List (List T)) (zs:List V):Prop where
 rows:GJ K H₀ H R st ys
 pn:H₀ P=none
 at_:H P=some (.lst zs)
 np:(.ref P:V) ∉ (.ref R:V)::ys
section
variable {K:PySem.W.Frag}{H₀ H H':Hp}{R P:Addr}{ys zs zs':List V}{st:List (List T)}
theorem AsT.grow (h:AsT K H₀ H R P ys st zs) (S:Same H H'):AsT K H₀ H' R P ys st zs:=⟨ac0 h.rows S,h.pn,S _ _ h.at_,h.np⟩
theorem AsT.PR (h:AsT K H₀ H R P ys st zs):P≠R:=fun z=>h.np (by rw [z]; exact List.mem_cons_self)
theorem AsT.place (h:AsT K H₀ H R P ys st zs):AsT K H₀ (upd H P (.lst zs')) R P ys st zs':=⟨ac2 h.rows (Kt.lst h.at_) h.pn h.np,h.pn,upd_same,h.np⟩
theorem AsT.enter (h:AsT K H₀ H R P ys st zs) {q:Addr} (hq:H q=none):AsT K H₀ (upd (upd H q (.lst [])) R (.lst (ys++[.ref q]))) R P (ys++[.ref q]) ([]::st) zs:=by
 have nPq:P≠q:=ne_of_none h.at_ hq
 refine⟨ac1 h.rows hq,h.pn,?_,fun z=>?_⟩
 ·rw [upd_ne h.PR,upd_ne nPq]; exact h.at_
 ·rcases List.mem_cons.mp z with z | z
  ·exact h.PR (V.ref.inj z)
  ·rcases List.mem_append.mp z with z | z
   ·exact h.np (List.mem_cons_of_mem _ z)
   ·exact nPq (V.ref.inj (List.mem_singleton.mp z))
theorem AsT.add {r:List T}{rs:List (List T)}{t:T}{x:V} (h:AsT K H₀ H R P ys (r::rs) zs) (ht:TR K H t x) :
  ∃ (ys0:List V) (a:Addr) (xs:List V),ys=ys0++[.ref a]∧H a=some (.lst xs)∧xs.length=r.length∧AsT K H₀ (upd H a (.lst (xs++[x]))) R P ys ((r++[t])::rs) zs:=by
 have hr:=h.rows.rows
 rw [List.reverse_cons] at hr
 obtain⟨ys0,y,rfl,h1,a,xs,rfl,ha0,ha,hta⟩:=bB.snoc hr
 have nd:=h.rows.nd
 have ndp:=(List.nodup_cons.mp nd).1
 have ndy:=(List.nodup_cons.mp nd).2
 have na:(.ref a:V) ∉ ys0:=fun z=>(List.nodup_append.mp ndy).2.2 _ z _ (by simp) rfl
 have nRa:R≠a:=fun z=>ndp (by rw [z]; simp)
 have nPa:P≠a:=fun z=>h.np (by rw [z]; simp)
 have k:=Kt.lst (o:=.lst (xs++[x])) ha
 refine⟨ys0,a,xs,rfl,ha,hta.length,⟨h.rows.new,gB h.rows.same ha0,by rw [upd_ne nRa]; exact h.rows.at_,?_,nd⟩,h.pn,by rw [upd_ne nPa]; exact h.at_,h.np⟩
 rw [List.reverse_cons]
 exact bB.append (zT k h1 na) (bB.one ⟨a,_,rfl,ha0,upd_same,TRs.append (hta.mono k) (cV (ht.mono k))⟩)
theorem AsT.shut {r:List T}{rs:List (List T)} (h:AsT K H₀ H R P ys (r::rs) zs) :
  ∃ (ys0:List V) (a:Addr) (xs:List V),ys=ys0++[.ref a]∧R≠a∧H a=some (.lst xs)∧TRs K H r xs∧AsT K H₀ (upd H R (.lst ys0)) R P ys0 rs zs:=by
 have hr:=h.rows.rows
 rw [List.reverse_cons] at hr
 obtain⟨ys0,y,rfl,h1,a,xs,rfl,ha0,ha,hta⟩:=bB.snoc hr
 have nd:=h.rows.nd
 have ndp:=(List.nodup_cons.mp nd).1
 have ndy:=(List.nodup_cons.mp nd).2
 have nRa:R≠a:=fun z=>ndp (by rw [z]; simp)
 have k:=Kt.lst (o:=.lst ys0) h.rows.at_
 refine⟨ys0,a,xs,rfl,nRa,ha,hta,⟨h.rows.new,gB h.rows.same h.rows.new,upd_same,zT k h1 fun z=>ndp (by simp [z]),List.nodup_cons.mpr ⟨fun z=>ndp (by simp [z]),(List.nodup_append.mp ndy).1⟩⟩,h.pn,by rw [upd_ne h.PR]; exact h.at_,fun z=>h.np ?_⟩
 rcases List.mem_cons.mp z with z | z
 ·rw [z]; exact List.mem_cons_self
 ·exact List.mem_cons_of_mem _ (List.mem_append_left _ z)
theorem agJ {α:Type} (xs:List α) (y:α):ixN (xs++[y]).length (-1)=some xs.length:=by
 unfold ixN
 have hl:(xs++[y]).length=xs.length+1:=by simp
 rw [if_neg (by decide),if_pos (by rw [hl]; lia),hl,show ((-1:Int)+((xs.length+1:Nat):Int)).toNat=xs.length by lia]
theorem aei {α:Type} (xs:List α) (y z:α):(xs++[y]).set xs.length z=xs++[z]:=by simp
end
def uT (k:Nat) (t:T):Nat:=if k=7 then (if t.kids=[] then 8 else 7) else if k=8 then (if t.kids=[] then 10 else 9) else if k=9 then 11 else k
section
variable (K:PySem.W.Frag) (CF CL CD CT CG CW:Addr)
def Q7:Sp:=fun vs H Q _=>∃ (k:Nat) (x:V) (t:T) (M:Mp) (H₀:Hp),vs=[.int (k:Int),x]∧Gh K CF CL CD CT M H₀ H∧RV K M H t x∧t.deep≤400∧∀ H',Same H H'→Q (.int (uT k t:Nat)) H'
def W7 (M:Mp) (w:T) (y n:V):Prop:=aB w=7→∃ ay an,y=.ref ay∧n=.ref an∧yN M ay (ats (aZ w).kids 0)∧yN M an (aZ (aZ w))
def W8 (M:Mp) (w:T) (b:V):Prop:=aB w=8→∃ ab,b=.ref ab∧yN M ab (aZ w)
def V2:Sp:=fun vs H Q _=>∃ (o dx:Addr) (x:V) (w:T) (M:Mp) (H₀:Hp),vs=[.ref o,x]∧Gh K CF CL CD CT M H₀ H∧M o=some .mine∧H o=some (.ins CD dx [])∧TR K H w x∧w.deep≤400 ∧
 ∀ M' H' v y n b,Go K CF CL CD CT (fun a=>a=o) M M' H₀ H H'→(∀ c u,H c=some u→c≠o→H' c=some u)→H' o=some (.ins CD dx (fD (aB w) v y n b .non))→TR K H' (aZ w) v→W7 M' w y n→W8 M' w b→Q .non H'
def aao:Sp:=fun vs H Q _=>∃ (b:Addr) (w:T) (M:Mp) (H₀:Hp),vs=[.ref b]∧Gh K CF CL CD CT M H₀ H∧M b=some (.word w)∧(aZ w).parts≤8000000∧∀ H',Go K CF CL CD CT (fun _=>False) M M H₀ H H'→Q (.int ((aZ w).parts:Nat)) H'
def V0:Sp:=fun vs H Q _=>∃ (a:Addr) (t:T) (W:Addr) (p:Nat) (M:Mp) (H₀:Hp) (ws:List V),vs=[.ref a,.int (p:Int)]∧Gh K CF CL CD CT M H₀ H∧M a=some (.text t W)∧H W=some (.lst ws)∧p≤ws.length∧p≤t.kids.length∧t.deep≤400∧t.kids.length≤8000000 ∧
 (p=t.kids.length→Q .non H)∧∀ w,t.kids[p]?=some w→∀ b M' H',Go K CF CL CD CT (fun _=>False) M M' H₀ H H'→M' b=some (.word w)→(∀ ws',H' W=some (.lst ws')→p+1≤ws'.length)→Q (.ref b) H'
end
section
variable {K:PySem.W.Frag}{CF CL CD CT CG CW:Addr}{M M' M'':Mp}{H₀ H H' H1:Hp}{X:Addr→Prop}
theorem Go.qO {p:Addr}{u:HO} (a:Go K CF CL CD CT X M M' H₀ H H1) (hm:M' p=some .mine) (hX:X p) (k:Kt H1 (upd H1 p u)):Go K CF CL CD CT X M M' H₀ H (upd H1 p u) :=
 ⟨a.ext,fun q h x=>by rw [upd_ne (fun z:q=p=>x (by rw [z]; exact hX))]; exact a.mine q h x,a.kt.trans k,a.gh.mut hm k,fun W t ws h1 h2=>by
  obtain⟨ws',e,l⟩:=a.wds W t ws h1 h2
  have nW:W≠p:=fun z=>by have:=a.ext _ _ h1; rw [z,hm] at this; cases this
  exact⟨ws',by rw [upd_ne nW]; exact e,l⟩⟩
theorem Go.newText {a da W:Addr}{t:T}{v:V} (g:Gh K CF CL CD CT M H₀ H) (tv:TR K H t v) (ha:H a=none) (hd:H da=none) (ne:da≠a) (hW:mkO H a da CT [] W=none) :
  Go K CF CL CD CT X M (setM (setM M W (.words t)) a (.text t W)) H₀ H (upd (upd (mkO H a da CT []) W (.lst [])) a (.ins CT da (fT v W)))∧Same H (upd (upd (mkO H a da CT []) W (.lst [])) a (.ins CT da (fT v W)))∧yN (setM (setM M W (.words t)) a (.text t W)) a t:=by
 have S1:=kW (C:=CT) (fs:=[]) ha hd ne
 have hW0:H W=none:=S1.free hW
 have naW:a≠W:=fun z=>by rw [← z,jM] at hW; cases hW
 have S2:=S1.trans (same_new hW (.lst []))
 have S3:Same H (upd (upd (mkO H a da CT []) W (.lst [])) a (.ins CT da (fT v W))):=gB S2 ha
 have hWl:upd (upd (mkO H a da CT []) W (.lst [])) a (.ins CT da (fT v W)) W=some (.lst []):=by rw [upd_ne (Ne.symm naW),upd_same]
 have nMa:=g.fresh ha
 have nMW:=g.fresh hW0
 have g1:Gh K CF CL CD CT (setM M W (.words t)) H₀ (upd (upd (mkO H a da CT []) W (.lst [])) a (.ins CT da (fT v W))) :=
  (g.grow S3).role (p:=W) (.inl nMW) (g.same.free hW0) ⟨_,hWl⟩ ⟨[],hWl,Nat.zero_le _,fun j x h=>by simp at h⟩
 have g2:Gh K CF CL CD CT (setM (setM M W (.words t)) a (.text t W)) H₀ (upd (upd (mkO H a da CT []) W (.lst [])) a (.ins CT da (fT v W))) :=
  g1.role (p:=a) (.inl (by rw [jg naW]; exact nMa)) (g.same.free ha) ⟨_,upd_same⟩ ⟨da,v,upd_same,tv.mono (.of S3),by rw [jg (Ne.symm naW),fV]⟩
 refine⟨⟨fun p r h=>?_,fun p h _=>?_,.of S3,g2,fun _ _ ws _ h=>⟨ws,S3 _ _ h,Nat.le_refl _⟩⟩,S3,W,fV⟩
 ·rw [jg (fun z=>by rw [z,nMa] at h; cases h),jg (fun z=>by rw [z,nMW] at h; cases h)]; exact h
 ·obtain⟨o,e⟩:=g.has p _ h; exact (S3 _ _ e).trans e.symm
theorem yN.ext {a:Addr}{t:T} (h:yN M a t) (G:Go K CF CL CD CT X M M' H₀ H H'):yN M' a t:=by obtain⟨W,e⟩:=h; exact⟨W,G.ext _ _ e⟩
def d1 (k:V):List (Str×V):=[("kind",k)]
def d2 (k v:V):List (Str×V):=[("kind",k),("load",v)]
def d3 (k v y:V):List (Str×V):=[("kind",k),("load",v),("yes",y)]
def d4 (k v y n:V):List (Str×V):=[("kind",k),("load",v),("yes",y),("no",n)]
def d5 (k v y n b:V):List (Str×V):=[("kind",k),("load",v),("yes",y),("no",n),("body",b)]
theorem pd1 (k:V):putF "kind" k []=d1 k:=rfl
theorem pd2 (k v:V):putF "load" v (d1 k)=d2 k v:=by unfold d1 d2; rw [bR (by decide +kernel)]; rfl
theorem pd3 (k v y:V):putF "yes" y (d2 k v)=d3 k v y:=by unfold d2 d3; rw [bR (by decide +kernel),bR (by decide +kernel)]; rfl
theorem pd4 (k v y n:V):putF "no" n (d3 k v y)=d4 k v y n:=by unfold d3 d4; rw [bR (by decide +kernel),bR (by decide +kernel),bR (by decide +kernel)]; rfl
theorem pd5 (k v y n b:V):putF "body" b (d4 k v y n)=d5 k v y n b:=by unfold d4 d5; rw [bR (by decide +kernel),bR (by decide +kernel),bR (by decide +kernel),bR (by decide +kernel)]; rfl
theorem pd6 (k:Nat) (v y n b z:V):putF "size" z (d5 (.int (k:Int)) v y n b)=fD k v y n b z:=by unfold d5 fD; rw [bR (by decide +kernel),bR (by decide +kernel),bR (by decide +kernel),bR (by decide +kernel),bR (by decide +kernel)]; rfl
variable {k:Nat}{v y n b z u:V}
theorem pdY:putF "yes" u (fD k v y n b z)=fD k v u n b z:=by unfold fD; rw [bR (by decide +kernel),bR (by decide +kernel),zx]
theorem pdN:putF "no" u (fD k v y n b z)=fD k v y u b z:=by unfold fD; rw [bR (by decide +kernel),bR (by decide +kernel),bR (by decide +kernel),zx]
theorem pdB:putF "body" u (fD k v y n b z)=fD k v y n u z:=by unfold fD; rw [bR (by decide +kernel),bR (by decide +kernel),bR (by decide +kernel),bR (by decide +kernel),zx]
theorem pdS:putF "size" u (fD k v y n b z)=fD k v y n b u:=by unfold fD; rw [bR (by decide +kernel),bR (by decide +kernel),bR (by decide +kernel),bR (by decide +kernel),bR (by decide +kernel),zx]
theorem ldK:(fD k v y n b z).lookup ("kind":Str)=some (.int (k:Int)):=fQ _ _ _
theorem ldL:(fD k v y n b z).lookup ("load":Str)=some v:=(cO (by decide +kernel) _ _).trans (fQ _ _ _)
theorem ldY:(fD k v y n b z).lookup ("yes":Str)=some y:=(cO (by decide +kernel) _ _).trans ((cO (by decide +kernel) _ _).trans (fQ _ _ _))
theorem ldN:(fD k v y n b z).lookup ("no":Str)=some n:=(cO (by decide +kernel) _ _).trans ((cO (by decide +kernel) _ _).trans ((cO (by decide +kernel) _ _).trans (fQ _ _ _)))
theorem ldB:(fD k v y n b z).lookup ("body":Str)=some b:=(cO (by decide +kernel) _ _).trans ((cO (by decide +kernel) _ _).trans ((cO (by decide +kernel) _ _).trans ((cO (by decide +kernel) _ _).trans (fQ _ _ _))))
theorem ldS:(fD k v y n b z).lookup ("size":Str)=some z:=(cO (by decide +kernel) _ _).trans ((cO (by decide +kernel) _ _).trans ((cO (by decide +kernel) _ _).trans ((cO (by decide +kernel) _ _).trans ((cO (by decide +kernel) _ _).trans (fQ _ _ _)))))
theorem anQ {m:Str} (h1:(m == "kind")=false) (h2:(m == "load")=false) (h3:(m == "yes")=false) (h4:(m == "no")=false) (h5:(m == "body")=false) (h6:(m == "size")=false):(fD k v y n b z).lookup m=none :=
 (cO h1 _ _).trans ((cO h2 _ _).trans ((cO h3 _ _).trans ((cO h4 _ _).trans ((cO h5 _ _).trans ((cO h6 _ _).trans rfl)))))
theorem aaK {CG CW:Addr}{m:Nat} (O:Own K CF CL CD CT CG CW) (g:Gh K CF CL CD CT M H₀ H) {t:T}{x:V}{p:Addr} (hx:RV K M H t x) (hd:t.deep≤m) (hp:H p=none) {Q:VK} (q:Q (.bl (decide (t.kids=[]))) (upd H p (.tup []))):ac4 K m x (.ref p) (upd H p (.tup [])) Q:=by
 have S:=same_new hp (.tup [])
 rcases hx.cases g with h | ⟨a,dx,y,z,u,ts,rfl,ha,rfl,_,_⟩
 ·rcases h with h | ⟨a,dx,v,ts,j,rfl,ha,_,hj,_,rfl⟩
  ·refine .inl ⟨t,.node [],h.mono (.of S),(bH (K:=K) (ts:=[]) hp (bM.mpr rfl)).2,hd,?_⟩
   have e:T.beq t (.node [])=decide (t.kids=[]):=by
    by_cases z:t.kids=[]
    ·rw [decide_eq_true z]
     exact (T.beq_iff _ _).mpr (by cases t; exact congrArg T.node z)
    ·rw [decide_eq_false z]
     exact Bool.eq_false_iff.mpr fun y=>z (by rw [(T.beq_iff _ _).mp y]; rfl)
   rw [e]
   exact q
  ·refine .inr ⟨a,CL,dx,_,p,[],rfl,S _ _ ha,O.rL,rfl,upd_same,?_⟩
   have z:¬ (T.node (ts.drop j)).kids=[]:=fun z=>by
    have:(ts.drop j).length=0:=by rw [show ts.drop j=[] from z]; rfl
    rw [List.length_drop] at this
    lia
   rw [← decide_eq_false z]
   exact q
 ·refine .inr ⟨a,CF,dx,_,p,[],rfl,S _ _ ha,O.rF,rfl,upd_same,?_⟩
  have z:¬ (T.node (u::ts)).kids=[]:=fun z=>by cases z
  rw [← decide_eq_false z]
  exact q
theorem abN {tc:TT}{tb u:TS}{D:Ends}{σ:L2.St}{H:Hp} (P:L2.St→Hp→Prop) (k:∀ σ' H',P σ' H'→u D σ' H')
  (h:∀ A B:Hp→Prop,(∀ H1,(∀ N:L2.St→Hp→Prop,(∀ σ' H',P σ' H'→N σ' H')→tb { D with nx:=N } σ H1)→A H1)→(∀ H1,P σ H1→B H1)→tc σ H (fun b H1=>if b=true then A H1 else B H1)) :
  tSeq (tIfS tc tb tNext) u D σ H :=
 h (fun H1=>tb { D with nx:=u D } σ H1) (fun H1=>tNext { D with nx:=u D } σ H1) (fun H1 r=>r _ k) (fun H1 p=>k _ _ p)
theorem Ur {t:T}:∀ {ts:List T},t∈ts→t.deep+1≤T.bD ts
 | u::us,h=>by
  rw [T.aU]
  rcases List.mem_cons.mp h with rfl | h
  ·lia
  ·have:=Ur h; lia
theorem ae9 {t w:T}{p:Nat} (h:t.kids[p]?=some w):w.deep+1≤t.deep:=by
 cases t with
 | node ts =>
  rw [T.aR]
  exact Ur (List.mem_of_getElem? h)
theorem abY (ts:List T) (k:Nat):T.bD (ts.drop k)≤T.bD ts:=by
 have:T.bD ts=max (T.bD (ts.take k)) (T.bD (ts.drop k)):=by rw [← T.iT,List.take_append_drop]
 lia
theorem adH (w:T):(aZ w).deep≤w.deep:=by
 cases w with
 | node ts =>
  show (T.node (ts.drop 1)).deep≤_
  rw [T.aR,T.aR]
  exact abY ts 1
end
section
variable (K:PySem.W.Frag) (CF CL CD CT CG CW:Addr)
def acP:Sp:=fun vs H Q _=>∃ (k:Nat) (y:V) (S:Addr) (l:T) (s:List T) (rows:List V) (M:Mp) (H₀:Hp),vs=[.int (k:Int),y,.ref S]∧Gh K CF CL CD CT M H₀ H∧M S=some .mine∧H S=some (.lst rows)∧bB (RV K M H) s.reverse rows∧TR K H l y∧looks k≤s.length∧B 395 8000010 (.node s)∧(∀ t∈s,t.kids.length≤8000000) ∧
 ∀ M' H' rows',Go K CF CL CD CT (fun a=>a=S) M M' H₀ H H'→H' S=some (.lst rows')→bB (RV K M' H') (uL k l s).reverse rows'→Q .non H'
def rE (M:Mp) (H:Hp) (t:T) (x:V):Prop:=∃ g dx a W p tt,x=.ref g∧M g=some .mine∧H g=some (.ins CG dx (fG a p))∧M a=some (.text tt W)∧p≤tt.kids.length∧(∃ ws,H W=some (.lst ws)∧p≤ws.length)∧t=.node (tt.kids.drop p)∧B 389 8000000 tt
structure WkX (M:Mp) (H₀ H:Hp) (o dx G S N:Addr) (gs rows:List V) (tx s:List T) (num:List Nat) (b:Nat):Prop where
 gh:Gh K CF CL CD CT M H₀ H
 ob:H o=some (.ins CW dx (fW G S N b))
 mo:M o=some .mine
 mG:M G=some .mine
 mS:M S=some .mine
 mN:M N=some .mine
 hG:H G=some (.lst gs)
 hS:H S=some (.lst rows)
 hN:H N=some (.lst (num.map nv))
 gos:bB (rE CG M H) tx.reverse gs
 sts:bB (RV K M H) s.reverse rows
 n15:num.length=15
 dGS:G≠S
 dGN:G≠N
 dSN:S≠N
 nd:gs.Nodup
def Wk (M:Mp) (H₀ H:Hp) (o:Addr) (tx s:List T) (num:List Nat) (b:Nat):Prop:=∃ dx G S N gs rows,WkX K CF CL CD CT CG CW M H₀ H o dx G S N gs rows tx s num b
def Q9:Sp:=fun vs H Q _=>∃ o M H₀ tx s num b,vs=[.ref o]∧Wk K CF CL CD CT CG CW M H₀ H o tx s num b∧Q (.bl (decide (tx=[]))) H
def abb:Sp:=fun vs H Q _=>∃ o M H₀ tx s num b,vs=[.ref o]∧Wk K CF CL CD CT CG CW M H₀ H o tx s num b∧∀ x H',Same H H'→RV K M H' (ats s 0) x→Q x H'
def Kd:Sp:=fun vs H Q _=>∃ o M H₀ tx s num b,vs=[.ref o]∧Wk K CF CL CD CT CG CW M H₀ H o tx s num b∧∀ c H',Same H H'→SqT K H' c (num.map nv)→Q (.ref c) H'
def aah:Sp:=fun vs H Q _=>∃ o M H₀ tx s num b,vs=[.ref o]∧Wk K CF CL CD CT CG CW M H₀ H o tx s num b∧BX tx∧B 390 8000000 (.node s)∧∀ y H',Same H H'→TR K H' (uU tx s) y→Q y H'
def V1:Sp:=fun vs H Q _=>∃ (o dx:Addr) (x:V) (tx s:List T) (b:Nat) (M:Mp) (H₀:Hp),vs=[.ref o,x,.int (b:Int)]∧Gh K CF CL CD CT M H₀ H∧M o=some .mine∧H o=some (.ins CW dx [])∧TR K H (uU tx s) x∧BX tx∧B 390 8000000 (.node s)∧∀ M' H',Wk K CF CL CD CT CG CW M' H₀ H' o tx s gZ b→Q .non H'
def MvT (k:Nat) (w:T) (ws:List T) (rest sp:List T) (num:List Nat) (tx' s':List T) (oE:List Nat):Prop :=
 (k=9∧aB w=8∧tx'=aZ w::.node (w::ws)::rest∧s'=sp∧oE=num.set 14 (num.getD 14 0+(aZ w).parts)) ∨
 (k=7∧aB w=7∧tx'=ats (aZ w).kids 0::.node ws::rest∧s'=sp∧oE=num) ∨
 (k=8∧aB w=7∧tx'=aZ (aZ w)::.node ws::rest∧s'=sp∧oE=num) ∨
 ((k≤6∨k=10∨k=11)∧tx'=.node ws::rest∧s'=uL k (aZ w) sp∧oE=num)
def Rdy (M:Mp) (H:Hp) (g:Addr) (w:T) (ws:List T):Prop:=∃ dg a W j tt wl,M g=some .mine∧H g=some (.ins CG dg (fG a j))∧M a=some (.text tt W)∧H W=some (.lst wl)∧j+1≤wl.length∧tt.kids.drop j=w::ws∧B 389 8000000 tt
def acR:Sp:=fun vs H Q _=>∃ (o dx G S N:Addr) (gs0:List V) (g:Addr) (rows:List V) (p:T) (rest sp:List T) (num:List Nat) (b k:Nat) (wv:V) (M:Mp) (H₀:Hp),vs=[.ref o,.int (k:Int),.ref g,wv]∧WkX K CF CL CD CT CG CW M H₀ H o dx G S N (gs0++[.ref g]) rows (p::rest) sp num b∧looks k≤sp.length∧B 395 8000010 (.node sp)∧(∀ t∈sp,t.kids.length≤8000000)∧rest.length≤8000000 ∧
 ((k=12∧∀ M' H',Wk K CF CL CD CT CG CW M' H₀ H' o rest sp num b→Q .non H') ∨ ∃ w ws bw tx' s' oE,p=.node (w::ws)∧wv=.ref bw∧M bw=some (.word w)∧Rdy CG M H g w ws∧MvT k w ws rest sp num tx' s' oE∧BX tx'∧(aZ w).parts≤8000000∧∀ M' H',Wk K CF CL CD CT CG CW M' H₀ H' o tx' s' oE b→Q .non H')
def aag:Sp:=fun vs H Q _=>∃ o M H₀ tx s num b,vs=[.ref o]∧Wk K CF CL CD CT CG CW M H₀ H o tx s num b∧tx≠[]∧BX tx∧B 390 8000000 (.node s)∧(bL tx s≤b→BX (onward tx s).1∧B 390 8000000 (.node (onward tx s).2.1)) ∧
 (b<bL tx s→∀ M' H',Wk K CF CL CD CT CG CW M' H₀ H' o tx s num b→Q (.bl false) H') ∧
 (bL tx s≤b→∀ M' H',Wk K CF CL CD CT CG CW M' H₀ H' o (onward tx s).1 (onward tx s).2.1 (fK num (nj tx s)) (b - bL tx s)→Q (.bl true) H')
end
section
variable {K:PySem.W.Frag}{CF CL CD CT CG CW:Addr}{M M':Mp}{H₀ H H':Hp}{X:Addr→Prop}
theorem rE.go {t:T}{x:V} (G:Go K CF CL CD CT X M M' H₀ H H') (hX:∀ g,x=.ref g→¬ X g) (g0:Gh K CF CL CD CT M H₀ H) (h:rE CG M H t x):rE CG M' H' t x:=by
 obtain⟨g,dx,a,W,p,tt,rfl,h1,h2,h3,h4,⟨ws,h5,h6⟩,h7,h8⟩:=h
 obtain⟨_,_,_,_,h9⟩:=g0.ok a _ h3
 obtain⟨ws',e1,e2⟩:=G.wds W _ ws h9 h5
 exact⟨g,dx,a,W,p,tt,rfl,G.ext _ _ h1,(G.mine g h1 (hX g rfl)).trans h2,G.ext _ _ h3,h4,⟨ws',e1,by lia⟩,h7,h8⟩
variable {o dx G S N:Addr}{gs rows:List V}{tx s:List T}{num:List Nat}{b:Nat}
theorem WkX.go (w:WkX K CF CL CD CT CG CW M H₀ H o dx G S N gs rows tx s num b) (g:Go K CF CL CD CT (fun _=>False) M M' H₀ H H'):WkX K CF CL CD CT CG CW M' H₀ H' o dx G S N gs rows tx s num b :=
 ⟨g.gh,(g.mine o w.mo id).trans w.ob,g.ext _ _ w.mo,g.ext _ _ w.mG,g.ext _ _ w.mS,g.ext _ _ w.mN,(g.mine G w.mG id).trans w.hG,(g.mine S w.mS id).trans w.hS,(g.mine N w.mN id).trans w.hN,w.gos.imp fun _ _ h=>h.go g (fun _ _=>id) w.gh,w.sts.imp fun _ _ h=>g.rv h,w.n15,w.dGS,w.dGN,w.dSN,w.nd⟩
theorem WkX.grow (w:WkX K CF CL CD CT CG CW M H₀ H o dx G S N gs rows tx s num b) (S1:Same H H'):WkX K CF CL CD CT CG CW M H₀ H' o dx G S N gs rows tx s num b:=w.go (.grow w.gh S1)
variable {A B C:Addr}{c:Nat}
theorem lwG:(fW A B C c).lookup ("goings":Str)=some (.ref A):=fQ _ _ _
theorem lwS:(fW A B C c).lookup ("stack":Str)=some (.ref B):=(cO (by decide +kernel) _ _).trans (fQ _ _ _)
theorem lwN:(fW A B C c).lookup ("numbers":Str)=some (.ref C):=(cO (by decide +kernel) _ _).trans ((cO (by decide +kernel) _ _).trans (fQ _ _ _))
theorem lwL:(fW A B C c).lookup ("left":Str)=some (.int (c:Int)):=(cO (by decide +kernel) _ _).trans ((cO (by decide +kernel) _ _).trans ((cO (by decide +kernel) _ _).trans (fQ _ _ _)))
theorem Ae {m:Str} (h1:(m == "goings")=false) (h2:(m == "stack")=false) (h3:(m == "numbers")=false) (h4:(m == "left")=false):(fW A B C c).lookup m=none:=(cO h1 _ _).trans ((cO h2 _ _).trans ((cO h3 _ _).trans ((cO h4 _ _).trans rfl)))
theorem pwL (d:Nat):putF "left" (.int (d:Int)) (fW A B C c)=fW A B C d:=by unfold fW; rw [bR (by decide +kernel),bR (by decide +kernel),bR (by decide +kernel),zx]
theorem lgT {a:Addr}{p:Nat}:(fG a p).lookup ("text":Str)=some (.ref a):=fQ _ _ _
theorem lgP {a:Addr}{p:Nat}:(fG a p).lookup ("place":Str)=some (.int (p:Int)):=(cO (by decide +kernel) _ _).trans (fQ _ _ _)
theorem pgP {a:Addr}{p q:Nat}:putF "place" (.int (q:Int)) (fG a p)=fG a q:=by unfold fG; rw [bR (by decide +kernel),zx]
theorem ltT {v:V}{W:Addr}:(fT v W).lookup ("tree":Str)=some v:=fQ _ _ _
theorem anP {v:V}{W:Addr}{m:Str} (h1:(m == "tree")=false) (h2:(m == "words")=false):(fT v W).lookup m=none:=(cO h1 _ _).trans ((cO h2 _ _).trans rfl)
theorem JF {α β:Type}{R:α→β→Prop}{ts:List α}{ys:List β} (h:bB R ts.reverse ys) (hl:2≤ts.length):∃ a b ts0 ys0 y z,ts=a::b::ts0∧ys=ys0++[z]++[y]∧bB R ts0.reverse ys0∧R a y∧R b z:=by
 have hyl:=h.length
 rw [List.length_reverse] at hyl
 obtain⟨a,ts1,ys1,y,rfl,rfl,h1,h2⟩:=pD h (by rintro rfl; simp at hyl; lia)
 have Xz:=h1.length
 rw [List.length_reverse] at Xz
 simp only [List.length_cons] at hl
 obtain⟨b,ts0,ys0,z,rfl,rfl,h3,h4⟩:=pD h1 (by rintro rfl; simp at Xz; lia)
 exact⟨a,b,ts0,ys0,y,z,rfl,rfl,h3,h2,h4⟩
theorem adV {α β:Type}{R:α→β→Prop}{ts:List α}{ys:List β} (h:bB R ts.reverse ys) (hl:3≤ts.length):∃ a b c ts0 ys0 y z w,ts=a::b::c::ts0∧ys=ys0++[w]++[z]++[y]∧bB R ts0.reverse ys0∧R a y∧R b z∧R c w:=by
 obtain⟨a,b,ts1,ys1,y,z,rfl,rfl,h1,h2,h3⟩:=JF h (by lia)
 have Xz:=h1.length
 rw [List.length_reverse] at Xz
 simp only [List.length_cons] at hl
 obtain⟨c,ts0,ys0,w,rfl,rfl,h4,h5⟩:=pD h1 (by rintro rfl; simp at Xz; lia)
 exact⟨a,b,c,ts0,ys0,y,z,w,rfl,rfl,h4,h2,h3,h5⟩
theorem si2 {α:Type} (xs:List α) (z y:α):seqIndex? (-2) (xs++[z]++[y]).length=some xs.length:=by
 have hl:(xs++[z]++[y]).length=xs.length+2:=by simp
 rw [hl]
 have:=(ixN_seq (n:=xs.length+2) (i:=-2) (j:=xs.length) (by unfold ixN; rw [if_neg (by decide),if_pos (by lia)]; congr 1; lia)).1
 exact this
theorem si3 {α:Type} (xs:List α) (w z y:α):seqIndex? (-3) (xs++[w]++[z]++[y]).length=some xs.length:=by
 have hl:(xs++[w]++[z]++[y]).length=xs.length+3:=by simp
 rw [hl]
 have:=(ixN_seq (n:=xs.length+3) (i:=-3) (j:=xs.length) (by unfold ixN; rw [if_neg (by decide),if_pos (by lia)]; congr 1; lia)).1
 exact this
theorem er2 {α:Type} (xs:List α) (z y:α):(xs++[z]++[y]).eraseIdx xs.length=xs++[y]:=by
 rw [List.append_assoc,List.eraseIdx_append_of_length_le (Nat.le_refl _),Nat.sub_self]
 rfl
theorem er3 {α:Type} (xs:List α) (w z y:α):(xs++[w]++[z]++[y]).eraseIdx xs.length=xs++[z]++[y]:=by
 rw [List.append_assoc,List.append_assoc,List.eraseIdx_append_of_length_le (Nat.le_refl _),Nat.sub_self]
 simp
theorem gt2 {α:Type} (xs:List α) (z y:α):(xs++[z]++[y])[xs.length]?=some z:=by simp
theorem gt3 {α:Type} (xs:List α) (w z y:α):(xs++[w]++[z]++[y])[xs.length]?=some w:=by simp
theorem Go.list {p:Addr}{xs ys:List V} (g:Gh K CF CL CD CT M H₀ H) (hm:M p=some .mine) (h:H p=some (.lst xs)):Go K CF CL CD CT (fun a=>a=p) M M H₀ H (upd H p (.lst ys)):=Go.qO (.refl g) hm rfl (Kt.lst h)
end
section
variable {K:PySem.W.Frag}{H:Hp}{a:Addr}{xs:List V}{σ:Sg}{js:List Nat}{te:TE}{Q:VK}
theorem agF (J:Addr→Nat→List V→Hp→Prop) (hz:xs.length≤sizeLine) (h0:∀ D,H D=none→J D 0 [] (upd H D (.lst [])))
  (hD:∀ D i ys H',J D i ys H'→H' D=some (.lst ys)∧ys.length=i∧SqL K H' a xs)
  (hte:∀ D i x ys H' (R:VK),xs.reverse[i]?=some x→J D i ys H'→(∀ y H3,H3 D=some (.lst ys)→J D (i+1) (ys++[y]) (upd H3 D (.lst (ys++[y])))→R y H3)→te (some x::frv σ js) H' R)
  (q:∀ D ys H',J D xs.length ys H'→Q (.ref D) H'):Ce (SwR.YZ K a xs.length) js te σ Q H:=by
 intro D hDn
 refine⟨fun i m ys H'=>m=xs.length - i∧i≤xs.length∧J D i ys H',⟨xs.length,by lia,Nat.zero_le _,h0 D hDn⟩,?_⟩
 rintro i m ys H' ⟨rfl,hi,hj⟩
 obtain⟨h1,h2,h3⟩:=hD D i ys H' hj
 refine⟨h1,?_⟩
 by_cases hlt:i<xs.length
 ·refine .inr ⟨⟨xs,xs.reverse[i]'(by simpa using hlt),h3,rfl,List.getElem?_eq_getElem (by simpa using hlt)⟩,fun x H2 y=>?_⟩
  obtain⟨e,y⟩:=y
  subst e
  exact hte D i x ys _ _ (y xs h3) hj fun y H3 g1 g2=>⟨g1,by lia,xs.length - (i+1),by lia,rfl,hlt,g2⟩
 ·have e:i=xs.length:=by lia
  subst e
  exact .inl ⟨⟨xs,h3,rfl,rfl⟩,q D ys H' hj⟩
theorem agE (J:Addr→Nat→List V→Hp→Prop) (hz:xs.length≤sizeLine) (h0:∀ D,H D=none→J D 0 [] (upd H D (.lst [])))
  (hD:∀ D i ys H',J D i ys H'→H' D=some (.lst ys)∧ys.length=i∧SqT K H' a xs)
  (hte:∀ D i x ys H' (R:VK),xs.reverse[i]?=some x→J D i ys H'→(∀ y H3,H3 D=some (.lst ys)→J D (i+1) (ys++[y]) (upd H3 D (.lst (ys++[y])))→R y H3)→te (some x::frv σ js) H' R)
  (q:∀ D ys H',J D xs.length ys H'→Q (.ref D) H'):Ce (SwR.acp K a xs.length) js te σ Q H:=by
 intro D hDn
 refine⟨fun i m ys H'=>m=xs.length - i∧i≤xs.length∧J D i ys H',⟨xs.length,by lia,Nat.zero_le _,h0 D hDn⟩,?_⟩
 rintro i m ys H' ⟨rfl,hi,hj⟩
 obtain⟨h1,h2,h3⟩:=hD D i ys H' hj
 refine⟨h1,?_⟩
 by_cases hlt:i<xs.length
 ·refine .inr ⟨⟨xs,xs.reverse[i]'(by simpa using hlt),h3,rfl,List.getElem?_eq_getElem (by simpa using hlt)⟩,fun x H2 y=>?_⟩
  obtain⟨e,y⟩:=y
  subst e
  exact hte D i x ys _ _ (y xs h3) hj fun y H3 g1 g2=>⟨g1,by lia,xs.length - (i+1),by lia,rfl,hlt,g2⟩
 ·have e:i=xs.length:=by lia
  subst e
  exact .inl ⟨⟨xs,h3,rfl,rfl⟩,q D ys H' hj⟩
theorem VH {α:Type}{xs:List α}{i:Nat}{x:α} (h:xs[i]?=some x):xs.take (i+1)=xs.take i++[x]:=by
 rw [List.take_add_one,h]
 rfl
theorem Xr {ts:List T} (hl:ts.length=xs.length) (hz:xs.length≤sizeLine) (hx:SqL K H a xs)
  (hte:∀ (i:Nat) x t H' (R:VK),xs.reverse[i]?=some x→ts[i]?=some t→Same H H'→(∀ y H3,Same H' H3→TR K H3 t y→R y H3)→te (some x::frv σ js) H' R)
  (q:∀ D ys H',Same H H'→H' D=some (.lst ys)→TRs K H' ts ys→Q (.ref D) H'):Ce (SwR.YZ K a xs.length) js te σ Q H:=by
 refine agF (fun D i ys H'=>H D=none∧Same H H'∧H' D=some (.lst ys)∧ys.length=i∧TRs K H' (ts.take i) ys) hz (fun D hD=>⟨hD,same_new hD _,upd_same,rfl,bM.mpr rfl⟩) (fun D i ys H' j=>⟨j.2.2.1,j.2.2.2.1,j.2.1.seq hx⟩) (fun D i x ys H' R hxi j hR=>?_) (fun D ys H' j=>?_)
 ·obtain⟨hD,S,h1,hyl,htr⟩:=j
  have hi:i<ts.length:=by have:=(List.getElem?_eq_some_iff.mp hxi).1; rw [List.length_reverse] at this; lia
  refine hte i x ts[i] H' R hxi (List.getElem?_eq_getElem hi) S fun y H3 S3 t3=>?_
  have h3:=S3 _ _ h1
  refine hR y H3 h3 ⟨hD,gB (S.trans S3) hD,upd_same,by rw [List.length_append,hyl]; rfl,?_⟩
  rw [VH (List.getElem?_eq_getElem hi)]
  exact TRs.append ((htr.mono (.of S3)).mono (Kt.lst h3)) (cV (t3.mono (Kt.lst h3)))
 ·obtain⟨hD,S,h1,hyl,htr⟩:=j
  rw [List.take_of_length_le (by lia)] at htr
  exact q D ys H' S h1 htr
end
theorem aaS {α β:Type}{R:α→β→Prop}{ts:List α}{ys:List β} (h:bB R ts.reverse ys):bB R ts ys.reverse:=by have:=h.rev; rw [List.reverse_reverse] at this; exact this
section
variable {K:PySem.W.Frag}{CF CL CD CT CG CW:Addr}{M M':Mp}{H₀ H H':Hp}{X:Addr→Prop}{o dx G S N g:Addr}{gs rows gs' rows':List V}{tx s tx' s':List T}{num oE:List Nat}{b:Nat}{w:T}{ws:List T}
theorem Rdy.go (G:Go K CF CL CD CT X M M' H₀ H H') (hX:¬ X g) (g0:Gh K CF CL CD CT M H₀ H) (h:Rdy CG M H g w ws):Rdy CG M' H' g w ws:=by
 obtain⟨dg,a,W,j,tt,wl,h1,h2,h3,h4,h5,h6,h7⟩:=h
 obtain⟨_,_,_,_,h9⟩:=g0.ok a _ h3
 obtain⟨ws',e1,e2⟩:=G.wds W _ wl h9 h4
 exact⟨dg,a,W,j,tt,ws',G.ext _ _ h1,(G.mine g h1 hX).trans h2,G.ext _ _ h3,e1,by lia,h6,h7⟩
theorem Go.anO {p:Addr}{u:HO}{H1:Hp} (a:Go K CF CL CD CT X M M' H₀ H H1) (hm:M' p=some .mine) (hn:M p≠some .mine) (k:Kt H1 (upd H1 p u)):Go K CF CL CD CT X M M' H₀ H (upd H1 p u) :=
 ⟨a.ext,fun q h x=>by rw [upd_ne (fun z:q=p=>hn (by rw [← z]; exact h))]; exact a.mine q h x,a.kt.trans k,a.gh.mut hm k,fun W t ws h1 h2=>by
  obtain⟨ws',e,l⟩:=a.wds W t ws h1 h2
  have nW:W≠p:=fun z=>by have:=a.ext _ _ h1; rw [z,hm] at this; cases this
  exact⟨ws',by rw [upd_ne nW]; exact e,l⟩⟩
theorem rE.nl {t:T}{x:V}{p:Addr}{l:List V} (h:rE CG M H t x) (hp:H p=some (.lst l)):∀ g,x=.ref g→¬ g=p:=by
 obtain⟨g,dx,a,W,j,tt,rfl,_,h2,_⟩:=h
 rintro g' e rfl
 cases e
 rw [hp] at h2
 cases h2
theorem WkX.setG (w:WkX K CF CL CD CT CG CW M H₀ H o dx G S N gs rows tx s num b) (h:bB (rE CG M H) tx'.reverse gs') (nd:gs'.Nodup):WkX K CF CL CD CT CG CW M H₀ (upd H G (.lst gs')) o dx G S N gs' rows tx' s num b:=by
 have g1:Go K CF CL CD CT (fun a=>a=G) M M H₀ H (upd H G (.lst gs')):=.list w.gh w.mG w.hG
 have no:o≠G:=fun z=>by have:=w.ob; rw [z,w.hG] at this; cases this
 exact⟨g1.gh,by rw [upd_ne no]; exact w.ob,w.mo,w.mG,w.mS,w.mN,upd_same,by rw [upd_ne (Ne.symm w.dGS)]; exact w.hS,by rw [upd_ne (Ne.symm w.dGN)]; exact w.hN,h.imp fun _ _ z=>z.go g1 (z.nl w.hG) w.gh,w.sts.imp fun _ _ z=>g1.rv z,w.n15,w.dGS,w.dGN,w.dSN,nd⟩
theorem WkX.aej (w:WkX K CF CL CD CT CG CW M H₀ H o dx G S N gs rows tx s num b) (hl:oE.length=15):WkX K CF CL CD CT CG CW M H₀ (upd H N (.lst (oE.map nv))) o dx G S N gs rows tx s oE b:=by
 have g1:Go K CF CL CD CT (fun a=>a=N) M M H₀ H (upd H N (.lst (oE.map nv))):=.list w.gh w.mN w.hN
 have no:o≠N:=fun z=>by have:=w.ob; rw [z,w.hN] at this; cases this
 exact⟨g1.gh,by rw [upd_ne no]; exact w.ob,w.mo,w.mG,w.mS,w.mN,by rw [upd_ne w.dGN]; exact w.hG,by rw [upd_ne w.dSN]; exact w.hS,upd_same,w.gos.imp fun _ _ z=>z.go g1 (z.nl w.hN) w.gh,w.sts.imp fun _ _ z=>g1.rv z,hl,w.dGS,w.dGN,w.dSN,w.nd⟩
theorem rE.nw {t:T}{x:V}{A B C:Addr}{c:Nat}{D e:Addr} (h:rE CG M H t x) (hp:H e=some (.ins D dx (fW A B C c))):∀ g,x=.ref g→¬ g=e:=by
 obtain⟨g,dg,a,W,j,tt,rfl,_,h2,_⟩:=h
 rintro g' e rfl
 cases e
 rw [hp] at h2
 have h3:=HO.ins.inj (Option.some.inj h2)
 have h4:fW A B C c=fG a j:=h3.2.2
 unfold fW fG at h4
 have:=congrArg List.length h4
 simp at this
theorem WkX.alm (w:WkX K CF CL CD CT CG CW M H₀ H o dx G S N gs rows tx s num b) (c:Nat):WkX K CF CL CD CT CG CW M H₀ (upd H o (.ins CW dx (fW G S N c))) o dx G S N gs rows tx s num c:=by
 have k:Kt H (upd H o (.ins CW dx (fW G S N c))):=Kt.ins w.ob
 have g1:Go K CF CL CD CT (fun a=>a=o) M M H₀ H (upd H o (.ins CW dx (fW G S N c))):=Go.qO (.refl w.gh) w.mo rfl k
 have nG:G≠o:=fun z=>by have:=w.ob; rw [← z,w.hG] at this; cases this
 have nS:S≠o:=fun z=>by have:=w.ob; rw [← z,w.hS] at this; cases this
 have nN:N≠o:=fun z=>by have:=w.ob; rw [← z,w.hN] at this; cases this
 exact⟨g1.gh,upd_same,w.mo,w.mG,w.mS,w.mN,by rw [upd_ne nG]; exact w.hG,by rw [upd_ne nS]; exact w.hS,by rw [upd_ne nN]; exact w.hN,w.gos.imp fun _ _ z=>z.go g1 (z.nw w.ob) w.gh,w.sts.imp fun _ _ z=>g1.rv z,w.n15,w.dGS,w.dGN,w.dSN,w.nd⟩
theorem WkX.ahs (w:WkX K CF CL CD CT CG CW M H₀ H o dx G S N gs rows tx s num b) (g1:Go K CF CL CD CT (fun a=>a=S) M M' H₀ H H') (h:H' S=some (.lst rows')) (hr:bB (RV K M' H') s'.reverse rows'):WkX K CF CL CD CT CG CW M' H₀ H' o dx G S N gs rows' tx s' num b:=by
 have no:¬ o=S:=fun z=>by have:=w.ob; rw [z,w.hS] at this; cases this
 exact⟨g1.gh,(g1.mine o w.mo no).trans w.ob,g1.ext _ _ w.mo,g1.ext _ _ w.mG,g1.ext _ _ w.mS,g1.ext _ _ w.mN,(g1.mine G w.mG w.dGS).trans w.hG,h,(g1.mine N w.mN (Ne.symm w.dSN)).trans w.hN,w.gos.imp fun _ _ z=>z.go g1 (z.nl w.hS) w.gh,hr,w.n15,w.dGS,w.dGN,w.dSN,w.nd⟩
theorem WkX.onto {gs0:List V}{p:T}{rest:List T} (k:WkX K CF CL CD CT CG CW M H₀ H o dx G S N (gs0++[.ref g]) rows (p::rest) s num b) {dg a W:Addr}{j:Nat}{tt:T}{wl:List V} (h1:M g=some .mine) (h2:H g=some (.ins CG dg (fG a j))) (h3:M a=some (.text tt W)) (h4:H W=some (.lst wl)) (h5:j+1≤wl.length) (h6:tt.kids.drop j=w::ws) (h7:B 389 8000000 tt) :
  WkX K CF CL CD CT CG CW M H₀ (upd H g (.ins CG dg (fG a (j+1)))) o dx G S N (gs0++[.ref g]) rows (.node ws::rest) s num b:=by
 have kt:Kt H (upd H g (.ins CG dg (fG a (j+1)))):=Kt.ins h2
 have g1:Go K CF CL CD CT (fun a=>a=g) M M H₀ H (upd H g (.ins CG dg (fG a (j+1)))):=Go.qO (.refl k.gh) h1 rfl kt
 have nl:∀ {q:Addr}{l:List V},H q=some (.lst l)→q≠g:=fun e z=>by rw [z,h2] at e; cases e
 have no:o≠g:=fun z=>by
  have:=k.ob
  rw [z,h2] at this
  have h3:=HO.ins.inj (Option.some.inj this)
  have h4:fG a j=fW G S N b:=h3.2.2
  unfold fW fG at h4
  have:=congrArg List.length h4
  simp at this
 have hgo:=k.gos
 rw [List.reverse_cons] at hgo
 obtain⟨gs1,y,e1,hg0,_⟩:=bB.snoc hgo
 obtain⟨rfl,rfl⟩:=List.append_inj' e1 rfl |>.imp id (fun z=>(List.cons.inj z).1)
 have nd:=k.nd
 have ng:(.ref g:V) ∉ gs0:=fun z=>(List.nodup_append.mp nd).2.2 _ z _ (by simp) rfl
 have hjk:j+1≤tt.kids.length:=by
  have:=congrArg List.length h6
  rw [List.length_drop,List.length_cons] at this
  lia
 refine⟨g1.gh,by rw [upd_ne no]; exact k.ob,k.mo,k.mG,k.mS,k.mN,by rw [upd_ne (nl k.hG)]; exact k.hG,by rw [upd_ne (nl k.hS)]; exact k.hS,by rw [upd_ne (nl k.hN)]; exact k.hN,?_,k.sts.imp fun _ _ z=>g1.rv z,k.n15,k.dGS,k.dGN,k.dSN,nd⟩
 rw [List.reverse_cons]
 refine bB.append ?_ (bB.one ⟨g,dg,a,W,j+1,tt,rfl,h1,upd_same,h3,hjk,⟨wl,by rw [upd_ne (nl h4)]; exact h4,h5⟩,?_,h7⟩)
 ·refine bB.of_get (hg0.length.symm ▸ rfl) fun i y hy=>?_
  obtain⟨t,et,hgt⟩:=hg0.get hy
  refine⟨t,et,hgt.go g1 (fun g' e z=>?_) k.gh⟩
  subst z
  exact ng (by rw [← e]; exact List.mem_of_getElem? hy)
 ·have:tt.kids.drop (j+1)=ws:=by rw [← List.drop_drop,h6]; rfl
  rw [this]
theorem WkX.newG (k:WkX K CF CL CD CT CG CW M H₀ H o dx G S N gs rows tx s num b) {a g dg:Addr}{t:T} (ht:yN M a t) (hb:B 389 8000000 t) (hg:H g=none) (hd:H dg=none) (ne:dg≠g) :
  WkX K CF CL CD CT CG CW (setM M g .mine) H₀ (mkO H g dg CG (fG a 0)) o dx G S N gs rows tx s num b∧rE CG (setM M g .mine) (mkO H g dg CG (fG a 0)) t (.ref g)∧(.ref g:V) ∉ gs:=by
 have g1:Go K CF CL CD CT (fun _=>False) M (setM M g .mine) H₀ H (mkO H g dg CG (fG a 0)):=.made k.gh hg hd ne
 obtain⟨W,hW⟩:=ht
 obtain⟨_,_,_,_,h9⟩:=k.gh.ok a _ hW
 obtain⟨xs,h10,_,_⟩:=k.gh.ok W _ h9
 refine⟨k.go g1,⟨g,dg,a,W,0,t,rfl,fV,jM,g1.ext _ _ hW,Nat.zero_le _,⟨xs,kW (C:=CG) (fs:=fG a 0) hg hd ne _ _ h10,Nat.zero_le _⟩,by cases t; rfl,hb⟩,fun z=>?_⟩
 obtain⟨i,hi⟩:=List.mem_iff_getElem?.mp z
 obtain⟨t',_,g',_,_,_,_,_,e,_,h2,_⟩:=k.gos.get hi
 cases e
 rw [hg] at h2
 cases h2
theorem WkX.push (k:WkX K CF CL CD CT CG CW M H₀ H o dx G S N gs rows tx s num b) {t:T}{x:V} (h:rE CG M H t x) (hn:x ∉ gs):WkX K CF CL CD CT CG CW M H₀ (upd H G (.lst (gs++[x]))) o dx G S N (gs++[x]) rows (t::tx) s num b:=by
 refine k.setG ?_ ?_
 ·rw [List.reverse_cons]
  exact bB.append k.gos (bB.one h)
 ·refine List.nodup_append.mpr ⟨k.nd,by simp,fun a ha c hc=>?_⟩
  rw [List.mem_singleton.mp hc]
  exact fun z=>hn (z ▸ ha)
theorem rE.new {a g dg:Addr}{t:T} (g0:Gh K CF CL CD CT M H₀ H) (ht:yN M a t) (hb:B 389 8000000 t) (hg:H g=none) (hd:H dg=none) (ne:dg≠g):rE CG (setM M g .mine) (mkO H g dg CG (fG a 0)) t (.ref g):=by
 have g1:Go K CF CL CD CT (fun _=>False) M (setM M g .mine) H₀ H (mkO H g dg CG (fG a 0)):=.made g0 hg hd ne
 obtain⟨W,hW⟩:=ht
 obtain⟨_,_,_,_,h9⟩:=g0.ok a _ hW
 obtain⟨xs,h10,_,_⟩:=g0.ok W _ h9
 exact⟨g,dg,a,W,0,t,rfl,fV,jM,g1.ext _ _ hW,Nat.zero_le _,⟨xs,kW (C:=CG) (fs:=fG a 0) hg hd ne _ _ h10,Nat.zero_le _⟩,by cases t; rfl,hb⟩
def w1 (G:Addr):List (Str×V):=[("goings",.ref G)]
def w2 (G S:Addr):List (Str×V):=[("goings",.ref G),("stack",.ref S)]
def w3 (G S N:Addr):List (Str×V):=[("goings",.ref G),("stack",.ref S),("numbers",.ref N)]
theorem pw1 (G:Addr):putF "goings" (.ref G) []=w1 G:=rfl
theorem pw2 (G S:Addr):putF "stack" (.ref S) (w1 G)=w2 G S:=by unfold w1 w2; rw [bR (by decide +kernel)]; rfl
theorem pw3 (G S N:Addr):putF "numbers" (.ref N) (w2 G S)=w3 G S N:=by unfold w2 w3; rw [bR (by decide +kernel),bR (by decide +kernel)]; rfl
theorem pw4 (G S N:Addr) (b:Nat):putF "left" (.int (b:Int)) (w3 G S N)=fW G S N b:=by unfold w3 fW; rw [bR (by decide +kernel),bR (by decide +kernel),bR (by decide +kernel)]; rfl
theorem af3 {ts:List T}{ys:List V}{i:Nat}{x:V} (h:TRs K H ts ys) (hx:ys.reverse[i]?=some x):∃ t,ts.reverse[i]?=some t∧TR K H t x:=by
 obtain⟨hi,hx'⟩:=SwR.Wx hx
 obtain⟨t,et,ht⟩:=h.get hx'
 have hl:=h.length
 refine⟨t,?_,ht⟩
 rw [List.getElem?_reverse (by lia),← hl]
 exact et
end
theorem bump {num:List Nat}{k:Nat} (h:num.length=15) (hk:k<15):fK num (ev0 k)=num.set k (num.getD k 0+1):=by
 unfold fK ev0
 refine List.ext_getElem? fun i=>?_
 rw [List.getElem?_zipWith,List.getElem?_set,List.getElem?_set,List.getElem?_replicate,List.length_replicate]
 by_cases e:k=i
 ·subst e
  rw [if_pos rfl,if_pos hk,if_pos rfl,if_pos (by lia),List.getElem?_eq_getElem (by lia),List.getD_eq_getElem?_getD,List.getElem?_eq_getElem (by lia)]
  rfl
 ·rw [if_neg e,if_neg e]
  by_cases hi:i<15
  ·rw [if_pos hi,List.getElem?_eq_getElem (by lia)]
   rfl
  ·rw [if_neg hi,List.getElem?_eq_none (by lia)]
theorem afM {num:List Nat}{k j c:Nat} (h:num.length=15) (hk:k<15) (hj:j<15) (hkj:k≠j):fK num ((ev0 k).set j c)=(num.set k (num.getD k 0+1)).set j ((num.set k (num.getD k 0+1)).getD j 0+c):=by
 unfold fK ev0
 refine List.ext_getElem? fun i=>?_
 have hg:(num.set k (num.getD k 0+1)).getD j 0=num.getD j 0:=by
  rw [List.getD_eq_getElem?_getD,List.getElem?_set,if_neg hkj,← List.getD_eq_getElem?_getD]
 rw [hg,List.getElem?_zipWith,List.getElem?_set,List.getElem?_set,List.getElem?_set,List.getElem?_set,List.getElem?_replicate,List.length_set,List.length_set,List.length_replicate]
 by_cases e:j=i
 ·subst e
  rw [if_pos rfl,if_pos hj,if_pos rfl,if_pos (by lia),List.getElem?_eq_getElem (by lia),List.getD_eq_getElem?_getD,List.getElem?_eq_getElem (by lia)]
  rfl
 ·rw [if_neg e,if_neg e]
  by_cases e2:k=i
  ·subst e2
   rw [if_pos rfl,if_pos hk,if_pos rfl,if_pos (by lia),List.getElem?_eq_getElem (by lia),List.getD_eq_getElem?_getD,List.getElem?_eq_getElem (by lia)]
   rfl
  ·rw [if_neg e2,if_neg e2]
   by_cases hi:i<15
   ·rw [if_pos hi,List.getElem?_eq_getElem (by lia)]
    rfl
   ·rw [if_neg hi,List.getElem?_eq_none (by lia)]
theorem acd {num:List Nat}{k:Nat} (h:num.length=15) (hk:k<15):atI (num.map nv) (k:Int)=some (nv (num.getD k 0)):=by
 refine atI_nat ?_
 rw [List.getElem?_map,List.getElem?_eq_getElem (by lia),List.getD_eq_getElem?_getD,List.getElem?_eq_getElem (by lia)]
 rfl
theorem Pj {p:T}{rest s:List T}{w:T}{ws:List T} (h:p.kids=w::ws):stepT (p::rest) s=uT (aB w) (ats s 0):=by
 have hk:(ats (p::rest) 0).kids=w::ws:=h
 unfold stepT uT
 have h9:=vR w
 by_cases e7:aB w=7
 ·rw [if_pos e7]
  by_cases d:(ats s 0).kids=[]
  ·rw [if_pos d,abp hk e7 d]
  ·rw [if_neg d,WT hk e7 d]
 rw [if_neg e7]
 by_cases e8:aB w=8
 ·rw [if_pos e8]
  by_cases d:(ats s 0).kids=[]
  ·rw [if_pos d,Ry hk e8 d]
  ·rw [if_neg d,RB hk e8 d]
 rw [if_neg e8]
 by_cases e9:aB w=9
 ·rw [if_pos e9,Rz hk e9]
 ·rw [if_neg e9,Rx hk (by lia)]
def FQ (k c:Nat) (num:List Nat):List Nat:=if k=2 then (num.set 2 (num.getD 2 0+1)).set 13 ((num.set 2 (num.getD 2 0+1)).getD 13 0+c) else num.set k (num.getD k 0+1)
theorem zF {tx s:List T}{num:List Nat} (h:num.length=15) (h9:stepT tx s≠9):fK num (nj tx s)=FQ (stepT tx s) (bL tx s) num:=by
 have h12:=zq (tx:=tx) (s:=s)
 unfold nj FQ bL
 by_cases h2:stepT tx s=2
 ·rw [if_pos h2,if_pos h2,if_pos h2,afM h (by lia) (by lia) (by lia)]
 ·rw [if_neg h2,if_neg h9,if_neg h2,bump h (by lia)]
theorem aj7 {p:T}{rest s:List T}{w:T}{ws:List T}{num:List Nat} (h:p=.node (w::ws)) (hn:num.length=15) :
  MvT (stepT (p::rest) s) w ws rest (pad s (looks (stepT (p::rest) s))) (FQ (stepT (p::rest) s) (bL (p::rest) s) num) (onward (p::rest) s).1 (onward (p::rest) s).2.1 (fK num (nj (p::rest) s)):=by
 subst h
 have hk:(ats (T.node (w::ws)::rest) 0).kids=w::ws:=rfl
 have h9:=vR w
 by_cases e7:aB w=7
 ·by_cases d:(ats s 0).kids=[]
  ·have o:=abp hk e7 d
   have hs:stepT (T.node (w::ws)::rest) s=8:=by unfold stepT; rw [o]
   refine .inr (.inr (.inl ⟨hs,e7,?_,?_,?_⟩))
   ·rw [o]
    show T.node (w.kids.drop 2)::_=T.node ((w.kids.drop 1).drop 1)::_
    rw [List.drop_drop]
    rfl
   ·rw [o,hs]; rfl
   ·exact zF hn (by lia)
  ·have o:=WT hk e7 d
   have hs:stepT (T.node (w::ws)::rest) s=7:=by unfold stepT; rw [o]
   refine .inr (.inl ⟨hs,e7,?_,?_,?_⟩)
   ·rw [o]; rfl
   ·rw [o,hs]; rfl
   ·exact zF hn (by lia)
 by_cases e8:aB w=8
 ·by_cases d:(ats s 0).kids=[]
  ·have o:=Ry hk e8 d
   have hs:stepT (T.node (w::ws)::rest) s=10:=by unfold stepT; rw [o]
   refine .inr (.inr (.inr ⟨.inr (.inl hs),?_,?_,?_⟩))
   ·rw [o]; rfl
   ·rw [hs,zm (by lia),o]; rfl
   ·exact zF hn (by lia)
  ·have o:=RB hk e8 d
   have hs:stepT (T.node (w::ws)::rest) s=9:=by unfold stepT; rw [o]
   refine .inl ⟨hs,e8,?_,?_,?_⟩
   ·rw [o]
   ·rw [o,hs]; rfl
   ·unfold nj
    rw [hs,if_neg (by decide),if_pos rfl,afM hn (by lia) (by lia) (by lia)]
    rfl
 by_cases e9:aB w=9
 ·have o:=Rz (s:=s) hk e9
  have hs:stepT (T.node (w::ws)::rest) s=11:=by unfold stepT; rw [o]
  refine .inr (.inr (.inr ⟨.inr (.inr hs),?_,?_,?_⟩))
  ·rw [o]; rfl
  ·rw [hs,zm (by lia),o]; rfl
  ·exact zF hn (by lia)
 ·have o:=Rx (s:=s) hk (show aB w≤6 by lia)
  have hs:stepT (T.node (w::ws)::rest) s=aB w:=by unfold stepT; rw [o]
  refine .inr (.inr (.inr ⟨.inl (by lia),?_,?_,?_⟩))
  ·rw [o]; rfl
  ·rw [hs,o]
  ·exact zF hn (by lia)
theorem agn {s:List T}{n m:Nat} (h:∀ t∈s,t.kids.length≤m):∀ t∈pad s n,t.kids.length≤m:=fun t ht=>by
 rcases List.mem_append.mp ht with z | z
 ·exact h t z
 ·rw [List.eq_of_mem_replicate z]
  exact Nat.zero_le _
theorem agI {s:List T}{m:Nat} (h:T.aH s≤m):∀ t∈s,t.kids.length≤m:=fun t ht=>by
 have h1:=T.jd ht
 have h2:=T.cI t
 have h3:=T.cL t.kids
 lia
theorem aeS {k:Nat} (h:k≤12):atI ([.int 0,.int 1,.int 1,.int 2,.int 2,.int 1,.int 3,.int 1,.int 1,.int 1,.int 1,.int 0,.int 0]:List V) (k:Int)=some (.int (looks k:Nat)):=by
 have:∀ k,k≤12→([V.int 0,.int 1,.int 1,.int 2,.int 2,.int 1,.int 3,.int 1,.int 1,.int 1,.int 1,.int 0,.int 0]:List V)[k]?=some (.int (looks k:Nat)):=by decide
 exact atI_nat (this k h)
theorem ahR {s:List T}{i n:Nat} (h1:s.length+i≤max n s.length) (h2:n≤s.length+i):s++List.replicate i leaf=pad s n:=by
 unfold pad
 have:i=n - s.length:=by lia
 rw [this]
theorem Rb (num:List Nat) (k c:Nat):(num.map nv).set k (.int ((num.getD k 0:Int)+(c:Int)))=(num.set k (num.getD k 0+c)).map nv:=by
 rw [← ahZ]
 congr 1
theorem drop_cons {α:Type}{xs:List α}{j:Nat}{x:α} (h:xs[j]?=some x):xs.drop j=x::xs.drop (j+1):=by
 have hj:=(List.getElem?_eq_some_iff.mp h).1
 rw [List.drop_eq_getElem_cons hj]
 rw [List.getElem?_eq_getElem hj] at h
 rw [Option.some.inj h]
def Fd (K:PySem.W.Frag) (CF CL CD CT CG CW:Addr):Sp:=fun vs H Q _=>∃ (x:V) (tx s:List T) (b:Nat),vs=[x,.int (b:Int)]∧TR K H (uU tx s) x∧Sane b tx s ∧
 ∀ o M' H' b',Wk K CF CL CD CT CG CW M' H H' o (goT b tx s).1 (goT b tx s).2.1 (goT b tx s).2.2 b'→Q (.ref o) H'
end Sw
namespace fM
open PySem PySem.Spec PyProof.Rows L2 Sw
def top (i:Nat):Stmt:=PySem.Challenge.pw_selfword_k52_nothing_beneath.main.body.getD i (.Pass ⟨0,0,0,0⟩)
abbrev jJ:Stmt:=top 1
abbrev sG:Stmt:=top 2
abbrev vV:Stmt:=top 3
abbrev oY:Stmt:=top 7
abbrev qz:Stmt:=top 8
abbrev vW:Stmt:=top 9
abbrev j8:Stmt:=top 10
abbrev ji:Stmt:=top 11
abbrev oN:Stmt:=top 12
abbrev mU:Stmt:=top 25
abbrev oM:Stmt:=top 26
abbrev Fo:Stmt:=top 27
abbrev vU:Stmt:=top 28
abbrev sH:Stmt:=top 29
abbrev zP:Stmt:=top 30
abbrev iI:Stmt:=top 31
abbrev uy:Stmt:=top 43
abbrev ux:Stmt:=top 44
abbrev qD:Stmt:=top 45
abbrev oK:Stmt:=top 46
abbrev jZ:Stmt:=top 47
abbrev tO:Stmt:=top 48
abbrev tM:Stmt:=top 49
abbrev zR:Stmt:=top 50
abbrev Fl:Stmt:=top 52
abbrev oX:Stmt:=top 53
abbrev zQ:Stmt:=top 54
abbrev oW:Stmt:=top 55
abbrev zO:Stmt:=top 60
abbrev lA:Stmt:=top 70
abbrev qC:Stmt:=top 71
abbrev j9:Stmt:=top 72
abbrev qy:Stmt:=top 73
abbrev qG:Stmt:=top 74
abbrev qF:Stmt:=top 75
abbrev lu:Stmt:=top 76
abbrev iJ:Stmt:=top 77
abbrev uw:Stmt:=top 78
abbrev kj:Stmt:=top 80
abbrev iB:Stmt:=top 81
abbrev iz:Stmt:=top 82
abbrev nJ:Stmt:=top 83
abbrev pU:Stmt:=top 84
abbrev j_:Stmt:=top 85
abbrev eG:Stmt:=top 86
abbrev jz:Stmt:=top 87
abbrev nH:Stmt:=top 88
abbrev jw:Stmt:=top 89
abbrev lB:Stmt:=top 90
abbrev gP:Stmt:=top 91
abbrev jy:Stmt:=top 92
abbrev kh:Stmt:=top 93
abbrev jj:Stmt:=top 94
abbrev d8:Stmt:=top 95
abbrev tH:Stmt:=top 96
theorem aem:FnScope ["tree"] ["tree"] (defScope jJ):=⟨rfl,rfl,rfl,by decide +kernel,rfl,by decide +kernel,by decide +kernel⟩
theorem afX:FnScope ["tree"] ["tree"] (defScope sG):=⟨rfl,rfl,rfl,by decide +kernel,rfl,by decide +kernel,by decide +kernel⟩
theorem zN:FnScope ["tree","waiting","counted","part"] ["tree"] (defScope vV):=⟨rfl,rfl,rfl,by decide +kernel,rfl,by decide +kernel,by decide +kernel⟩
theorem Zh:FnScope ["row"] ["row"] (defScope oY):=⟨rfl,rfl,rfl,by decide +kernel,rfl,by decide +kernel,by decide +kernel⟩
theorem abg:FnScope ["row"] ["row"] (defScope qz):=⟨rfl,rfl,rfl,by decide +kernel,rfl,by decide +kernel,by decide +kernel⟩
theorem ael:FnScope ["tree","place"] ["tree","place"] (defScope vW):=⟨rfl,rfl,rfl,by decide +kernel,rfl,by decide +kernel,by decide +kernel⟩
theorem Wj:FnScope ["row"] ["row"] (defScope j8):=⟨rfl,rfl,rfl,by decide +kernel,rfl,by decide +kernel,by decide +kernel⟩
theorem mQ:FnScope ["row","most","waiting","counted","part"] ["row","most"] (defScope ji):=⟨rfl,rfl,rfl,by decide +kernel,rfl,by decide +kernel,by decide +kernel⟩
theorem uO:FnScope ["row","ahead","taken","part","tree"] ["row"] (defScope oN):=⟨rfl,rfl,rfl,by decide +kernel,rfl,by decide +kernel,by decide +kernel⟩
theorem abf:FnScope ["word"] ["word"] (defScope mU):=⟨rfl,rfl,rfl,by decide +kernel,rfl,by decide +kernel,by decide +kernel⟩
theorem abh:FnScope ["word"] ["word"] (defScope oM):=⟨rfl,rfl,rfl,by decide +kernel,rfl,by decide +kernel,by decide +kernel⟩
theorem aht:FnScope ["tree"] ["tree"] (defScope Fo):=⟨rfl,rfl,rfl,by decide +kernel,rfl,by decide +kernel,by decide +kernel⟩
theorem aek:FnScope ["sort"] ["sort"] (defScope vU):=⟨rfl,rfl,rfl,by decide +kernel,rfl,by decide +kernel,by decide +kernel⟩
theorem afZ:FnScope ["yes","no"] ["yes","no"] (defScope sH):=⟨rfl,rfl,rfl,by decide +kernel,rfl,by decide +kernel,by decide +kernel⟩
theorem afY:FnScope ["body"] ["body"] (defScope zP):=⟨rfl,rfl,rfl,by decide +kernel,rfl,by decide +kernel,by decide +kernel⟩
theorem acY:FnScope ["names"] ["names"] (defScope iI):=⟨rfl,rfl,rfl,by decide +kernel,rfl,by decide +kernel,by decide +kernel⟩
theorem aeo:FnScope ["text","tree"] ["text","tree"] (defScope uy):=⟨rfl,rfl,rfl,by decide +kernel,rfl,by decide +kernel,by decide +kernel⟩
theorem aen:FnScope ["stand"] ["stand"] (defScope ux):=⟨rfl,rfl,rfl,by decide +kernel,rfl,by decide +kernel,by decide +kernel⟩
theorem oV:FnScope ["stand","texts","step","stack","text","load","behind"] ["stand"] (defScope qD):=⟨rfl,rfl,rfl,by decide +kernel,rfl,by decide +kernel,by decide +kernel⟩
theorem Pu:FnScope ["stand","text"] ["stand"] (defScope oK):=⟨rfl,rfl,rfl,by decide +kernel,rfl,by decide +kernel,by decide +kernel⟩
theorem Zg:FnScope ["sort","top"] ["sort","top"] (defScope jZ):=⟨rfl,rfl,rfl,by decide +kernel,rfl,by decide +kernel,by decide +kernel⟩
theorem acZ:FnScope ["stack","count"] ["stack","count"] (defScope tO):=⟨rfl,rfl,rfl,by decide +kernel,rfl,by decide +kernel,by decide +kernel⟩
theorem acX:FnScope ["step","load","stack"] ["step","load","stack"] (defScope tM):=⟨rfl,rfl,rfl,by decide +kernel,rfl,by decide +kernel,by decide +kernel⟩
theorem af0:FnScope ["tally"] ["tally"] (defScope zR):=⟨rfl,rfl,rfl,by decide +kernel,rfl,by decide +kernel,by decide +kernel⟩
theorem Wn:FnScope ["text","tree","budget","walk","steps"] ["text","tree","budget"] (defScope Fl):=⟨rfl,rfl,rfl,by decide +kernel,rfl,by decide +kernel,by decide +kernel⟩
theorem Zf:FnScope ["text","tree","budget"] ["text","tree","budget"] (defScope oX):=⟨rfl,rfl,rfl,by decide +kernel,rfl,by decide +kernel,by decide +kernel⟩
theorem aaq:FnScope ["stand","budget","walk"] ["stand","budget"] (defScope zQ):=⟨rfl,rfl,rfl,by decide +kernel,rfl,by decide +kernel,by decide +kernel⟩
theorem Uh:FnScope ["stand","budget","walk"] ["stand","budget"] (defScope oW):=⟨rfl,rfl,rfl,by decide +kernel,rfl,by decide +kernel,by decide +kernel⟩
theorem Rc:FnScope ["step","load","stack","item","row"] ["step","load","stack"] (defScope zO):=⟨rfl,rfl,rfl,by decide +kernel,rfl,by decide +kernel,by decide +kernel⟩
theorem Ux:FnScope [] [] (defScope lA):=⟨rfl,rfl,rfl,by decide +kernel,rfl,by decide +kernel,by decide +kernel⟩
theorem Px:FnScope ["wrapped"] [] (defScope qC):=⟨rfl,rfl,rfl,by decide +kernel,rfl,by decide +kernel,by decide +kernel⟩
theorem Wq:FnScope [] [] (defScope j9):=⟨rfl,rfl,rfl,by decide +kernel,rfl,by decide +kernel,by decide +kernel⟩
theorem Fg:FnScope ["word_gone","shut"] [] (defScope qy):=⟨rfl,rfl,rfl,by decide +kernel,rfl,by decide +kernel,by decide +kernel⟩
theorem yW:FnScope ["text","sort"] [] (defScope qG):=⟨rfl,rfl,rfl,by decide +kernel,rfl,by decide +kernel,by decide +kernel⟩
theorem Py:FnScope ["sort","cleared"] ["sort"] (defScope qF):=⟨rfl,rfl,rfl,by decide +kernel,rfl,by decide +kernel,by decide +kernel⟩
theorem Hg:FnScope ["word_whole"] [] (defScope lu):=⟨rfl,rfl,rfl,by decide +kernel,rfl,by decide +kernel,by decide +kernel⟩
theorem L_:FnScope [] [] (defScope iJ):=⟨rfl,rfl,rfl,by decide +kernel,rfl,by decide +kernel,by decide +kernel⟩
theorem Wm:FnScope ["stand","text"] ["stand"] (defScope uw):=⟨rfl,rfl,rfl,by decide +kernel,rfl,by decide +kernel,by decide +kernel⟩
theorem lq:FnScope ["_law_script","_law_cells","_law_deck_here","_law_k","_law_cell","_law_mixed"] ["_law_script"] (defScope kj):=⟨rfl,rfl,rfl,by decide +kernel,rfl,by decide +kernel,by decide +kernel⟩
theorem Wt:FnScope ["_law_deck_here","_law_many"] ["_law_deck_here","_law_many"] (defScope iB):=⟨rfl,rfl,rfl,by decide +kernel,rfl,by decide +kernel,by decide +kernel⟩
theorem Ie:FnScope ["_law_deck_here","_law_deep"] ["_law_deck_here","_law_deep"] (defScope iz):=⟨rfl,rfl,rfl,by decide +kernel,rfl,by decide +kernel,by decide +kernel⟩
theorem Wu:FnScope ["_law_deck_here"] ["_law_deck_here"] (defScope nJ):=⟨rfl,rfl,rfl,by decide +kernel,rfl,by decide +kernel,by decide +kernel⟩
theorem lg:FnScope ["_law_deck_here","_law_deep","_law_way","_law_sort_here","_law_ahead","_law_at"] ["_law_deck_here","_law_deep"] (defScope pU):=⟨rfl,rfl,rfl,by decide +kernel,rfl,by decide +kernel,by decide +kernel⟩
theorem Ig:FnScope ["_law_deck_here","_law_deep","_law_many"] ["_law_deck_here","_law_deep","_law_many"] (defScope j_):=⟨rfl,rfl,rfl,by decide +kernel,rfl,by decide +kernel,by decide +kernel⟩
theorem Uz:FnScope ["_law_tree_here"] ["_law_tree_here"] (defScope eG):=⟨rfl,rfl,rfl,by decide +kernel,rfl,by decide +kernel,by decide +kernel⟩
theorem tG:FnScope ["_law_tree_here","_law_many","_law_left"] ["_law_tree_here"] (defScope jz):=⟨rfl,rfl,rfl,by decide +kernel,rfl,by decide +kernel,by decide +kernel⟩
theorem Wr:FnScope ["_law_stack_here","_law_sort_here"] ["_law_stack_here","_law_sort_here"] (defScope nH):=⟨rfl,rfl,rfl,by decide +kernel,rfl,by decide +kernel,by decide +kernel⟩
theorem Ws:FnScope ["_law_stand"] ["_law_stand"] (defScope jw):=⟨rfl,rfl,rfl,by decide +kernel,rfl,by decide +kernel,by decide +kernel⟩
theorem Uy:FnScope ["_law_sort_here","_law_load_here","_law_stack_here"] ["_law_sort_here","_law_load_here","_law_stack_here"] (defScope lB):=⟨rfl,rfl,rfl,by decide +kernel,rfl,by decide +kernel,by decide +kernel⟩
theorem jh:FnScope ["_law_stand","_law_texts","_law_stack_here","_law_sort_here","_law_load_here","_law_onward"] ["_law_stand"] (defScope gP):=⟨rfl,rfl,rfl,by decide +kernel,rfl,by decide +kernel,by decide +kernel⟩
theorem yx:FnScope ["_law_stand","_law_texts","_law_stack_here"] ["_law_stand"] (defScope jy):=⟨rfl,rfl,rfl,by decide +kernel,rfl,by decide +kernel,by decide +kernel⟩
theorem uP:FnScope ["_law_stand","_law_texts","_law_stack_here","_law_sort_here"] ["_law_stand"] (defScope kh):=⟨rfl,rfl,rfl,by decide +kernel,rfl,by decide +kernel,by decide +kernel⟩
theorem jH:FnScope ["_law_stand","_law_room_here","_law_steps_here","_law_seen"] ["_law_stand","_law_room_here"] (defScope jj):=⟨rfl,rfl,rfl,by decide +kernel,rfl,by decide +kernel,by decide +kernel⟩
theorem eZ:FnScope ["_law_stand","_law_due","_law_many","_law_room_here","_law_turn","_law_seen"] ["_law_stand","_law_due","_law_many"] (defScope d8):=⟨rfl,rfl,rfl,by decide +kernel,rfl,by decide +kernel,by decide +kernel⟩
theorem mR:FnScope ["_law_script","_law_deck_here","_law_text_here","_law_tree_here","_law_under","_law_beneath","_law_given","_law_start","_law_stand","_law_turn","_law_alone","_law_tally","_law_found"] ["_law_script"] (defScope tH):=⟨rfl,rfl,rfl,by decide +kernel,rfl,by decide +kernel,by decide +kernel⟩
section
variable {P:Program}{w:World}{K:PySem.W.Frag}{mg:Str→Option Value}{base:Heap}{f:Addr}{fd:FuncData}
def pw5:Nat→Nat
 | 0=>60
 | d+1=>62+6 * pw5 d
def acj (d:Nat) (t:T):Prop:=B (4+2 * d) (pw5 d) t∧GV t
theorem ahF (d:Nat):60≤pw5 d:=by cases d <;> (show 60≤_) <;> (unfold pw5) <;> lia
def afh (d:Nat) (t:T):Prop:=ShT d t∧vO t
def Kc (K:PySem.W.Frag) (n:Nat):Sp:=fun vs H Q _=>∃ (p:Addr) (d:Nat),vs=[.ref p,.int (d:Int)]∧d≤n∧Bv H p∧∀ y t H',Dr p H H'→TR K H' t y→afh d t→Q y H'
def aal (K:PySem.W.Frag):Sp:=fun vs H Q _=>∃ p:Addr,vs=[.ref p]∧Bv H p∧∀ y t H',Dr p H H'→TR K H' t y→afh 2 t→Q y H'
def aad (K:PySem.W.Frag) (n:Nat):Sp:=fun vs H Q _=>∃ (p:Addr) (d:Nat),vs=[.ref p,.int (d:Int)]∧d<n∧Bv H p∧∀ y t H',Dr p H H'→TR K H' t y→acj d t→Q y H'
def aaf (K:PySem.W.Frag) (n:Nat):Sp:=fun vs H Q _=>∃ (p:Addr) (d m:Nat),vs=[.ref p,.int (d:Int),.int (m:Int)]∧d<n∧m≤7∧Bv H p∧∀ y t H',Dr p H H'→TR K H' t y→(∀ w∈t.kids,acj d w)→t.kids.length≤m→Q y H'
def tL (K:PySem.W.Frag):Sp:=fun vs H Q _=>∃ x t,vs=[x]∧TR K H t x∧∀ y H',Same H H'→TR K H' (ats t.kids 0) y→Q y H'
def aae (K:PySem.W.Frag):Sp:=fun vs H Q _=>∃ x s,∃ k:Nat,vs=[x,.int (k:Int)]∧TR K H (.node s) x∧s.length≤8000000∧k≤9∧∀ y H',Same H H'→TR K H' (.node (pad s (many k))) y→Q y H'
def Kf (K:PySem.W.Frag):Sp:=fun vs H Q _=>∃ (x:V) (w:T) (ws tx s:List T),vs=[x]∧TR K H (.node [.node (.node (w::ws)::tx),.node s]) x∧∀ H',Same H H'→Q (.int (aB w:Nat)) H'
def V5 (K:PySem.W.Frag):Sp:=fun vs H Q _=>∃ (k:Nat) (y z:V) (l:T) (s:List T),vs=[.int (k:Int),y,z]∧TR K H l y∧TR K H (.node s) z∧k≤9∧many k≤s.length∧B 395 8000010 (.node s)∧∀ v H',Same H H'→TR K H' (.node (uL k l s)) v→Q v H'
theorem adC {tc:TT}{tb te:TS}{u:TS}{D:Ends}{σ:L2.St}{H:Hp} (P:L2.St→Hp→Prop) (k:∀ σ' H',P σ' H'→u D σ' H') (h:∀ N:L2.St→Hp→Prop,(∀ σ' H',P σ' H'→N σ' H')→tIfS tc tb te { D with nx:=N } σ H):tSeq (tIfS tc tb te) u D σ H:=h _ k
theorem ajB {a b a' b':Nat}{as:List T}{t:T} (k:Nat) (h:B a b (.node as)) (ht:B a' b' t):B (max a (a'+1)) (b+b') (.node ((as.take k++[t])++as.drop (k+1))):=by
 have e:as.take k++as.drop k=as:=List.take_append_drop k as
 have d1:T.bD (as.drop (k+1))≤T.bD as:=by have:=T.iT (as.take (k+1)) (as.drop (k+1)); rw [List.take_append_drop] at this; lia
 have d2:T.bD (as.take k)≤T.bD as:=by have:=T.iT (as.take k) (as.drop k); rw [e] at this; lia
 have p1:=T.b_ (as.take k) (as.drop k)
 rw [e] at p1
 have p2:=vX 1 (as.drop k)
 rw [List.drop_drop] at p2
 obtain⟨h1,h2⟩:=h
 obtain⟨h3,h4⟩:=ht
 rw [T.aR] at h1
 rw [T.aN] at h2
 refine⟨?_,?_⟩
 ·rw [T.aR,T.iT,T.iT,T.aU,T.cU]; lia
 ·rw [T.aN,T.b_,T.b_,T.aF,T.aY]; lia
theorem Tc (p:Addr) (e:Nat):[V.ref p,V.int (((e+1:Nat):Int) - 1),V.int 3]=[V.ref p,V.int (e:Int),V.int ((3:Nat):Int)]:=by
 rw [show ((e+1:Nat):Int) - 1=(e:Int) by lia]; rfl
theorem Yb (s:List T):(ats s 0).deep≤(T.node s).deep:=by
 cases s with
 | nil=>exact Nat.le_refl _
 | cons a s=>show a.deep≤_; rw [T.aR,T.aU]; lia
theorem ajR (n:Nat):((List.replicate n (List.map W [1])).flatten).length=n:=by
 induction n with
 | zero=>rfl
 | succ n ih=>rw [List.replicate_succ,List.flatten_cons,List.length_append,ih]; show 1+n=n+1; lia
theorem ahp:∀ i:Nat,i≤8→(T.node ([5,3].map W++cB i)).deep≤400∧(T.node ([5,3].map W++cB i)).parts≤1000000:=by decide +kernel
theorem aiq:∀ i:Nat,i≤7→(T.node (qj i)).deep≤400∧(T.node (qj i)).parts≤1000000:=by decide +kernel
theorem Xy {b:Int}:∀ {ys:List V},(∀ (i:Nat) y,ys[i]?=some y→∃ n:Int,y=.int n∧0≤n∧n<b)→∃ ns:List Int,ys=ns.map V.int∧∀ n∈ns,0≤n∧n<b
 | [],_=>⟨[],rfl,fun _ h=>by simp at h⟩
 | y::ys,h=>by
  obtain⟨n,rfl,h1,h2⟩:=h 0 y rfl
  obtain⟨ns,e,g⟩:=Xy (ys:=ys) fun i z e=>h (i+1) z (by simpa using e)
  refine⟨n::ns,by rw [e]; rfl,fun m hm=>?_⟩
  rcases List.mem_cons.mp hm with rfl | hm
  ·exact⟨h1,h2⟩
  ·exact g m hm
def afu:List T:=[W 5,je 0 [],W 6,W 4,je 0 [],W 6,W 4]
def Qe:List Str:=[PySem.Str.ofString "lay",PySem.Str.ofString "drop",PySem.Str.ofString "twin",PySem.Str.ofString "swap",PySem.Str.ofString "front",PySem.Str.ofString "part",PySem.Str.ofString "turn",PySem.Str.ofString "fork",PySem.Str.ofString "while"]
def abC (k:Nat):Str:=Qe.getD k (PySem.Str.ofString "")
theorem agz:∀ k:Nat,k≤8→Qe[k]?=some (abC k)∧∀ m,m<k→Qe[m]?≠some (abC k):=by decide +kernel
def oU (K:PySem.W.Frag) (t:List T):Sp:=fun vs H Q _=>vs=[]∧∀ y H',Same H H'→TR K H' (.node t) y→Q y H'
def qw (K:PySem.W.Frag):Sp:=fun vs H Q _=>∃ (z:Str) (ks:List Nat),vs=[.str z]∧z.length≤1000∧((Builtin.Str.spaceWords z (z.length+1)).length≤1000∧(Txt.words z).length≤1000)∧Txt.words z=ks.map abC∧(∀ k∈ks,1≤k∧k≤6)∧∀ y H',Same H H'→TR K H' (.node (ks.map W)) y→Q y H'
def V9 (K:PySem.W.Frag):Sp:=fun vs H Q _=>∃ k:Nat,vs=[.int (k:Int)]∧k≤7∧∀ y H',Same H H'→TR K H' (.node (qj k)) y→Q y H'
def aai (K:PySem.W.Frag):Sp:=fun vs H Q _=>∃ x tx s,vs=[x]∧TR K H (.node [.node tx,.node s]) x∧(T.node tx).deep≤390 ∧
 ((xT (tx,s)∧∀ H',Same H H'→Q .non H')∨(ats tx 0=.node bU∧∀ y H',Same H H'→TR K H' (.node (s.take 2)) y→Q y H'))
theorem abD {K:PySem.W.Frag}{H:Hp}{Q:VK}{x y:V}{k:Int}{ts:List T} (n:Nat) (hx:TR K H (.node ts) x) (hy:y=.int k) (hk:k=(n:Int)) (hn:n≤100) (q:∀ z H',Same H H'→TR K H' (.node (List.replicate n ts).flatten) z→Q z H') (hl:ts.length≤100:=by decide):Ij K x y H Q:=by
 obtain⟨a,xs,rfl,ha,ra⟩:=bW.mp hx
 have hlen:=ra.length
 refine⟨a,k,xs,rfl,hy,ha,by lia,by lia,small (by rw [hk,Int.toNat_natCast,hlen]; exact Nat.le_trans (Nat.mul_le_mul hl hn) (by decide)),fun p H' S hp=>q _ _ S (wV hp ?_)⟩
 have r2:TRs K H' ts xs:=ra.mono (.of S)
 unfold yC
 rw [hk,Int.toNat_natCast]
 clear hp hn hk hy q
 induction n with
 | zero=>exact bM.mpr rfl
 | succ n ih =>
  rw [List.replicate_succ,List.flatten_cons,List.replicate_succ,List.flatten_cons]
  exact TRs.append r2 ih
theorem ah2 {K:PySem.W.Frag}{H:Hp}{Q:VK}{σ:L2.St}{x y:V}{k:Int}{ts:List T} (n:Nat) (hx:TR K H (.node ts) x) (hy:y=.int k) (hk:k=(n:Int)) (hn:n≤100) (q:∀ z H',Same H H'→TR K H' (.node (List.replicate n ts).flatten) z→Q z H') (hl:ts.length≤100:=by decide):tC y σ H (fun y H2=>Ij K x y H2 Q):=abD n hx hy hk hn q hl
theorem adg (dM:mg "tuple"=none) {rQ:Addr} (RZ:mg "NAMES"=some (.ref rQ)) (Rn:∀ H,SqT K H rQ [.str (PySem.Str.ofString "lay"),.str (PySem.Str.ofString "drop"),.str (PySem.Str.ofString "twin"),.str (PySem.Str.ofString "swap"),.str (PySem.Str.ofString "front"),.str (PySem.Str.ofString "part"),.str (PySem.Str.ofString "turn"),.str (PySem.Str.ofString "fork"),.str (PySem.Str.ofString "while")])
  {TJ:Addr}{Tf:FuncData} (ag6:Fun K "plain" "plain" vU TJ Tf) (ag2:FnOk P w K mg base CX0 31 TJ Tf ["sort"] (aak K)) (agW:Binds K Tf ["sort"] []) (agB:mg "plain"=some (.ref TJ))
  (QK:∃ ob,K.lookup rQ=some ob∧ob.cls=.type "tuple"∧ob.dict=none)
  (F:Fun K "plains" "plains" iI f fd):FnOk P w K mg base CX0 32 f fd ["names"] (qw K):=by
 refine okQ F acY (fun vs H Q E h=>?_) (fun cdv A outer s H vs Q E hr h=>?_)
 ·obtain⟨z,ks,rfl,_⟩:=h
  rfl
 obtain⟨z,ks,rfl,hz1,hz2,hw,hk,q⟩:=h
 refine⟨_,(aA (aO (kI gR rfl dM pA (aj (Ft rfl (rN (fr:=[]) (js:=[]) (sc:=defScope iI) rfl rfl rfl (by decide +kernel) (by decide +kernel) (by decide +kernel) (by decide +kernel) (by exact trivial) (by decide +kernel) (fun y hy=>cell_has hy)) (aay (qM PySem.F.plainAttrs_str PySem.F.slot_str_split PySem.F.type_str_split adp (qv 0))) (fun _ _ _ _ _=>(aJ ag2 hr rfl agB ag6.kp agW .nil pass0 (aj (ahC (K:=K) rfl (gQ PySem.F.plainAttrs_tuple PySem.F.slot_tuple_index PySem.F.type_tuple_index (abF (K:=K) rfl) (aW (v:=.ref rQ) rfl RZ rfl) (aj (qv 0) ak))) ak)))) ak)))),?_⟩
 have hwl:(Txt.words z).length=ks.length:=by rw [hw,List.length_map]
 have hwn:(Txt.words z).length≤1000:=hz2.2
 refine⟨_,rfl,rfl,z,rfl,rfl,hz1,hz2.1,hz2.2,fun D0 g0=>?_⟩
 refine⟨D0,rfl,⟨_,SqL.of upd_same⟩,?_⟩
 have S0:=same_new g0 (.lst ((Txt.words z).map V.str))
 refine aeT (K:=K) (xs:=(Txt.words z).map V.str) (fun D i ys H'=>D≠D0∧H D=none∧Same H H'∧H' D0=some (.lst ((Txt.words z).map V.str))∧H' D=some (.lst ys)∧TRs K H' ((ks.take i).map W) ys∧i≤ks.length) (small (by rw [List.length_map]; lia)) (fun D hD=>?_) (fun D i ys H' j=>⟨j.2.2.2.2.1,?_,SqL.of j.2.2.2.1⟩) (fun D i x ys H' R hx j hR=>?_) (fun D ys H' j=>?_)
 ·have hne:D≠D0:=fun e=>by rw [e,upd_same] at hD; cases hD
  exact⟨hne,S0.free hD,S0.trans (same_new hD _),by rw [upd_ne hne.symm]; exact upd_same,upd_same,bM.mpr rfl,Nat.zero_le _⟩
 ·rw [j.2.2.2.2.2.1.length,List.length_map,List.length_take]
  exact Nat.min_eq_left j.2.2.2.2.2.2
 ·obtain⟨hne,hD,S,h0,h1,ht,hi⟩:=j
  rw [hw,List.map_map,List.getElem?_map] at hx
  cases hh:ks[i]? with
  | none=>rw [hh] at hx; cases hx
  | some k =>
   rw [hh] at hx
   cases hx
   have hk1:=hk k (List.mem_of_getElem? hh)
   obtain⟨e1,e2⟩:=agz k (by lia)
   refine⟨.inr (.inl ⟨rfl,QK⟩),_,rfl,rQ,Qe,_,k,rfl,rfl,Rn _,e1,e2,k,rfl,hk1.1,hk1.2,fun y H3 S3 t3=>?_⟩
   refine hR _ _ (S3 _ _ h1) ⟨hne,hD,gB (S.trans S3) hD,by rw [upd_ne hne.symm]; exact S3 _ _ h0,upd_same,?_,(List.getElem?_eq_some_iff.mp hh).1⟩
   rw [List.take_succ,hh,List.map_append]
   exact TRs.append ((ht.mono (.of S3)).mono (Kt.lst (S3 _ _ h1))) (cH.mpr ⟨y,[],rfl,t3.mono (Kt.lst (S3 _ _ h1)),bM.mpr rfl⟩)
 ·obtain⟨hne,hD,S,h0,h1,ht,hi⟩:=j
  rw [List.length_map,hwl,List.take_of_length_le (Nat.le_refl _)] at ht
  refine⟨D,ys,rfl,.inl ⟨SqL.of h1,fun p hp=>?_⟩⟩
  obtain⟨S5,t5⟩:=bH (K:=K) hp ht
  exact q _ _ (S.trans S5) t5
theorem abv
  {aci:Addr}{ab1:FuncData} (aki:Fun K "lay" "lay" Fo aci ab1) (akg:FnOk P w K mg base CX0 32 aci ab1 ["tree"] (afy K)) (ake:Binds K ab1 ["tree"] []) (aj9:mg "lay"=some (.ref aci))
  {cG:Addr}{cF:FuncData} (cA:Fun K "plains" "plains" iI cG cF) (cu:FnOk P w K mg base CX0 32 cG cF ["names"] (qw K)) (cj:Binds K cF ["names"] []) (cg:mg "plains"=some (.ref cG))
  (F:Fun K "opening" "opening" qC f fd):FnOk P w K mg base CX0 33 f fd [] (oU K afu):=by
 refine okQ F Px (fun vs H Q E h=>?_) (fun cdv A outer s H vs Q E hr h=>?_)
 ·obtain⟨rfl,_⟩:=h
  rfl
 obtain⟨rfl,q⟩:=h
 refine⟨_,(aq (bA (i:=0) Px.nd rfl (Or.inl rfl) (aV bf (aP (aj (aJ akg hr rfl aj9 aki.kp ake .nil pass0 (aj (aP ak) ak)) ak)) (aJ cu hr rfl cg cA.kp cj .nil pass0 (aj jW ak))))
   (aA (aO (aV bf (aV bf (aJ cu hr rfl cg cA.kp cj .nil pass0 (aj jW ak)) (qv 0)) (qv 0))))),?_⟩
 refine⟨Nat.zero_le _,fun p1 g1=>?_⟩
 obtain⟨S1,t1⟩:=bH (K:=K) (ts:=[]) g1 (bM.mpr rfl)
 refine⟨_,leaf,rfl,t1,by decide,by decide,fun y2 H2 S2 t2=>⟨(by show 1≤sizeLine; decide),fun p3 g3=>?_⟩⟩
 obtain⟨S3,t3⟩:=bH (K:=K) g3 (cV t2)
 refine⟨_,[6,4],rfl,by decide +kernel,by decide +kernel,by decide +kernel,by decide,fun y4 H4 S4 t4=>bV (t3.mono (.of S4)) t4 (small (by decide)) (fun y5 H5 S5 t5=>?_)⟩
 have S15:=S1.trans (S2.trans (S3.trans (S4.trans S5)))
 refine⟨_,[5],rfl,by decide +kernel,by decide +kernel,by decide +kernel,by decide,fun y6 H6 S6 t6=>⟨_,rfl,bV t6 (t5.mono (.of S6)) (small (by decide)) (fun y7 H7 S7 t7=>⟨_,rfl,bV t7 (t5.mono (.of (S6.trans S7))) (small (by decide)) (fun y8 H8 S8 t8=>?_)⟩)⟩⟩
 exact q _ _ (S15.trans (S6.trans (S7.trans S8))) t8
theorem MF {dR:Value} (eV:mg "WHILE"=some dR) (dU:RelV (.int 8) dR)
  {cG:Addr}{cF:FuncData} (cA:Fun K "plains" "plains" iI cG cF) (cu:FnOk P w K mg base CX0 32 cG cF ["names"] (qw K)) (cj:Binds K cF ["names"] []) (cg:mg "plains"=some (.ref cG))
  (F:Fun K "nameless_gone" "nameless_gone" iJ f fd):FnOk P w K mg base CX0 33 f fd [] (oU K HW):=by
 refine okQ F L_ (fun vs H Q E h=>?_) (fun cdv A outer s H vs Q E hr h=>?_)
 ·obtain⟨rfl,_⟩:=h
  rfl
 obtain⟨rfl,q⟩:=h
 refine⟨_,(aA (aO (aV bf (aV o7 (aJ cu hr rfl cg cA.kp cj .nil pass0 (aj jW ak)) (aV op_add (aW (v:=.int 8) rfl eV dU) au)) (aJ cu hr rfl cg cA.kp cj .nil pass0 (aj jW ak))))),?_⟩
 refine⟨_,[1],rfl,by decide +kernel,by decide +kernel,by decide +kernel,by decide,fun y1 H1 S1 t1=>⟨8,2,rfl,rfl,abD 10 t1 rfl rfl (by decide) (fun y2 H2 S2 t2=>?_)⟩⟩
 refine⟨_,[4],rfl,by decide +kernel,by decide +kernel,by decide +kernel,by decide,fun y3 H3 S3 t3=>bV (t2.mono (.of S3)) t3 (small (by decide)) (fun y4 H4 S4 t4=>?_)⟩
 exact q _ _ (S1.trans (S2.trans (S3.trans S4))) t4
theorem U0 {dR:Value} (eV:mg "WHILE"=some dR) (dU:RelV (.int 8) dR) {i_:Value} (mq:mg "TOP_REACHED"=some i_) (jc:RelV (.str (PySem.Str.ofString "turn turn front turn part")) i_) {sy:Value} (Cy:mg "PAST_BODY"=some sy) (sI:RelV (.str (PySem.Str.ofString "front turn drop swap")) sy) {sE:Value} (Cz:mg "INTO_BODY"=some sE) (sJ:RelV (.str (PySem.Str.ofString "front swap turn part swap twin turn front turn part turn front front swap front")) sE)
  {cG:Addr}{cF:FuncData} (cA:Fun K "plains" "plains" iI cG cF) (cu:FnOk P w K mg base CX0 32 cG cF ["names"] (qw K)) (cj:Binds K cF ["names"] []) (cg:mg "plains"=some (.ref cG))
  {lU:Addr}{lK:FuncData} (yu:Fun K "fork" "fork" sH lU lK) (yq:FnOk P w K mg base CX0 32 lU lK ["yes","no"] (Ia K)) (yh:Binds K lK ["yes","no"] []) (xW:mg "fork"=some (.ref lU))
  (F:Fun K "while_gone" "while_gone" lu f fd):FnOk P w K mg base CX0 33 f fd [] (oU K xu):=by
 refine okQ F Hg (fun vs H Q E h=>?_) (fun cdv A outer s H vs Q E hr h=>?_)
 ·obtain⟨rfl,_⟩:=h
  rfl
 obtain⟨rfl,q⟩:=h
 refine⟨_,(aq (bA (i:=0) Hg.nd rfl (Or.inl rfl) (aV bf (aV o7 (aJ cu hr rfl cg cA.kp cj .nil pass0 (aj jW ak)) (aW (v:=.int 8) rfl eV dU)) (aJ cu hr rfl cg cA.kp cj .nil pass0 (aj jW ak))))
   (aA (aO (aV bf (aV bf (qv 0) (aJ cu hr rfl cg cA.kp cj .nil pass0 (aj (aW (v:=.str (PySem.Str.ofString "turn turn front turn part")) rfl mq jc) ak))) (aP (aj (aJ yq hr rfl xW yu.kp yh .nil pass0 (aj (aJ cu hr rfl cg cA.kp cj .nil pass0 (aj (aW (v:=.str (PySem.Str.ofString "front swap turn part swap twin turn front turn part turn front front swap front")) rfl Cz sJ) ak)) (aj (aJ cu hr rfl cg cA.kp cj .nil pass0 (aj (aW (v:=.str (PySem.Str.ofString "front turn drop swap")) rfl Cy sI) ak)) ak))) ak)))))),?_⟩
 refine⟨_,[3,4],rfl,by decide +kernel,by decide +kernel,by decide +kernel,by decide,fun y1 H1 S1 t1=>ah2 (k:=8) 8 t1 rfl rfl (by decide) (fun y2 H2 S2 t2=>?_)⟩
 refine⟨_,[4],rfl,by decide +kernel,by decide +kernel,by decide +kernel,by decide,fun y3 H3 S3 t3=>bV (t2.mono (.of S3)) t3 (small (by decide)) (fun y4 H4 S4 t4=>?_)⟩
 have S14:=S1.trans (S2.trans (S3.trans S4))
 refine⟨_,rfl,_,[6,6,4,6,5],rfl,by decide +kernel,by decide +kernel,by decide +kernel,by decide,fun y5 H5 S5 t5=>bV (t4.mono (.of S5)) t5 (small (by decide)) (fun y6 H6 S6 t6=>?_)⟩
 refine⟨_,[4,3,6,5,3,2,6,4,6,5,6,4,4,3,4],rfl,by decide +kernel,by decide +kernel,by decide +kernel,by decide,fun y7 H7 S7 t7=>?_⟩
 refine⟨_,[4,6,1,3],rfl,by decide +kernel,by decide +kernel,by decide +kernel,by decide,fun y8 H8 S8 t8=>⟨_,_,_,_,rfl,t7.mono (.of S8),t8,⟨by decide,by decide⟩,⟨by decide,by decide⟩,fun y9 H9 S9 t9=>⟨(by show 1≤sizeLine; decide),fun p10 g10=>?_⟩⟩⟩
 obtain⟨S10,t10⟩:=bH (K:=K) g10 (cV t9)
 have YQ:=S7.trans (S8.trans (S9.trans S10))
 exact bV (t6.mono (.of YQ)) t10 (small (by decide)) (fun y11 H11 S11 t11=>q _ _ (S14.trans (S5.trans (S6.trans (YQ.trans S11)))) t11)
theorem aby {uM:Value} (yZ:mg "LAY"=some uM) (uQ:RelV (.int 0) uM) {HN:Value} (Xo:mg "LAID"=some HN) (Ii:RelV (.str (PySem.Str.ofString "turn turn front turn turn front swap")) HN) {mO:Value} (pL:mg "FORK"=some mO) (mX:RelV (.int 7) mO) {i_:Value} (mq:mg "TOP_REACHED"=some i_) (jc:RelV (.str (PySem.Str.ofString "turn turn front turn part")) i_) {xq:Value} (Ja:mg "INTO_NO"=some xq) (xQ:RelV (.str (PySem.Str.ofString "front swap turn part drop front")) xq) {uN:Value} (Gb:mg "INTO_YES"=some uN) (uR:RelV (.str (PySem.Str.ofString "front swap turn part swap drop front")) uN) {n_:Value} (wg:mg "STACK_PARTED"=some n_) (ou:RelV (.str (PySem.Str.ofString "drop front swap part")) n_) {jV:Addr} (Np:mg "WORKED"=some (.ref jV)) (qN:∀ H,SqT K H jV [.str (PySem.Str.ofString ""),.str (PySem.Str.ofString "drop"),.str (PySem.Str.ofString "twin turn swap front swap front"),.str (PySem.Str.ofString "swap part swap turn front swap front"),.str (PySem.Str.ofString "swap part turn front front"),.str (PySem.Str.ofString "part turn turn front swap front"),.str (PySem.Str.ofString "swap part swap part swap turn front turn front swap front")])
  {cG:Addr}{cF:FuncData} (cA:Fun K "plains" "plains" iI cG cF) (cu:FnOk P w K mg base CX0 33 cG cF ["names"] (qw K)) (cj:Binds K cF ["names"] []) (cg:mg "plains"=some (.ref cG))
  {lU:Addr}{lK:FuncData} (yu:Fun K "fork" "fork" sH lU lK) (yq:FnOk P w K mg base CX0 33 lU lK ["yes","no"] (Ia K)) (yh:Binds K lK ["yes","no"] []) (xW:mg "fork"=some (.ref lU))
  (F:Fun K "gone_of" "gone_of" qF f fd):FnOk P w K mg base CX0 34 f fd ["sort"] (V9 K):=by
 refine okQ F Py (fun vs H Q E h=>?_) (fun cdv A outer s H vs Q E hr h=>?_)
 ·obtain⟨k,rfl,_⟩:=h
  rfl
 obtain⟨k,rfl,h7,q⟩:=h
 refine⟨_,(aq (bA (i:=1) Py.nd rfl (Or.inl rfl) (aV o7 (aJ cu hr rfl cg cA.kp cj .nil pass0 (aj jW ak)) (aV op_add (qv 0) au)))
   (aq (bC (aQ op_eq (qv 0) (aW (v:=.int 0) rfl yZ uQ) (nomark _)) (aA (aO (aV bf (qv 1) (aJ cu hr rfl cg cA.kp cj .nil pass0 (aj (aW (v:=.str (PySem.Str.ofString "turn turn front turn turn front swap")) rfl Xo Ii) ak))))) aX)
   (aq (bC (aQ op_eq (qv 0) (aW (v:=.int 7) rfl pL mX) (nomark _)) (aA (aO (aV bf (aV bf (qv 1) (aJ cu hr rfl cg cA.kp cj .nil pass0 (aj (aW (v:=.str (PySem.Str.ofString "turn turn front turn part")) rfl mq jc) ak))) (aP (aj (aJ yq hr rfl xW yu.kp yh .nil pass0 (aj (aJ cu hr rfl cg cA.kp cj .nil pass0 (aj (aW (v:=.str (PySem.Str.ofString "front swap turn part swap drop front")) rfl Gb uR) ak)) (aj (aJ cu hr rfl cg cA.kp cj .nil pass0 (aj (aW (v:=.str (PySem.Str.ofString "front swap turn part drop front")) rfl Ja xQ) ak)) ak))) ak))))) aX)
   (aA (aO (aV bf (aV bf (aV bf (qv 1) (aJ cu hr rfl cg cA.kp cj .nil pass0 (aj (aW (v:=.str (PySem.Str.ofString "drop front swap part")) rfl wg ou) ak))) (aJ cu hr rfl cg cA.kp cj .nil pass0 (aj (bK bF (aW (v:=.ref jV) rfl Np rfl) (qv 0) (fun _ _=>rfl)) ak))) (aJ cu hr rfl cg cA.kp cj .nil pass0 (aj jW ak)))))))),?_⟩
 refine⟨_,[1],rfl,by decide +kernel,by decide +kernel,by decide +kernel,by decide,fun y1 H1 S1 t1=>⟨_,rfl,_,_,rfl,rfl,abD (k+1) t1 rfl rfl (by lia) (fun y2 H2 S2 t2=>?_)⟩⟩
 have S12:=S1.trans S2
 refine⟨_,rfl,rfl,_,rfl,ite2 (fun h0=>?_) (fun h0=>?_)⟩
 ·obtain rfl:k=0:=by have:=V.int.inj (of_decide_eq_true h0); lia
  refine⟨_,rfl,_,[6,6,4,6,6,4,3],rfl,by decide +kernel,by decide +kernel,by decide +kernel,by decide,fun y3 H3 S3 t3=>bV (t2.mono (.of S3)) t3 (small (by decide)) (fun y4 H4 S4 t4=>q _ _ (S12.trans (S3.trans S4)) t4)⟩
 refine⟨_,rfl,rfl,_,rfl,ite2 (fun h7=>?_) (fun h7=>?_)⟩
 ·obtain rfl:k=7:=by have:=V.int.inj (of_decide_eq_true h7); lia
  refine⟨_,rfl,_,[6,6,4,6,5],rfl,by decide +kernel,by decide +kernel,by decide +kernel,by decide,fun y5 H5 S5 t5=>bV (t2.mono (.of S5)) t5 (small (by decide)) (fun y6 H6 S6 t6=>?_)⟩
  refine⟨_,[4,3,6,5,3,1,4],rfl,by decide +kernel,by decide +kernel,by decide +kernel,by decide,fun y7 H7 S7 t7=>?_⟩
  refine⟨_,[4,3,6,5,1,4],rfl,by decide +kernel,by decide +kernel,by decide +kernel,by decide,fun y8 H8 S8 t8=>⟨_,_,_,_,rfl,t7.mono (.of S8),t8,⟨by decide,by decide⟩,⟨by decide,by decide⟩,fun y9 H9 S9 t9=>⟨(by show 1≤sizeLine; decide),fun p10 g10=>?_⟩⟩⟩
  obtain⟨S10,t10⟩:=bH (K:=K) g10 (cV t9)
  have YQ:=S7.trans (S8.trans (S9.trans S10))
  exact bV (t6.mono (.of YQ)) t10 (small (by decide)) (fun y11 H11 S11 t11=>q _ _ (S12.trans (S5.trans (S6.trans (YQ.trans S11)))) t11)
 have h0:k≠0:=fun z=>h0 (by subst z; exact decide_eq_true rfl)
 have h7:k≠7:=fun z=>h7 (by subst z; exact decide_eq_true rfl)
 refine⟨_,rfl,_,[1,4,3,5],rfl,by decide +kernel,by decide +kernel,by decide +kernel,by decide,fun y3 H3 S3 t3=>bV (t2.mono (.of S3)) t3 (small (by rw [ajR]; show _+4≤_; lia)) (fun y4 H4 S4 t4=>?_)⟩
 have S14:=S12.trans (S3.trans S4)
 rcases (by lia:k=1∨k=2∨k=3∨k=4∨k=5∨k=6) with rfl | rfl | rfl | rfl | rfl | rfl
 ·refine⟨_,rfl,jV,_,_,_,rfl,rfl,qN _,rfl,_,[1],rfl,by decide +kernel,by decide +kernel,by decide +kernel,by decide,fun y5 H5 S5 t5=>bV (t4.mono (.of S5)) t5 (small (by decide)) (fun y6 H6 S6 t6=>?_)⟩
  refine⟨_,[3],rfl,by decide +kernel,by decide +kernel,by decide +kernel,by decide,fun y7 H7 S7 t7=>bV (t6.mono (.of S7)) t7 (small (by decide)) (fun y8 H8 S8 t8=>q _ _ (S14.trans (S5.trans (S6.trans (S7.trans S8)))) t8)⟩
 ·refine⟨_,rfl,jV,_,_,_,rfl,rfl,qN _,rfl,_,[2,6,3,4,3,4],rfl,by decide +kernel,by decide +kernel,by decide +kernel,by decide,fun y5 H5 S5 t5=>bV (t4.mono (.of S5)) t5 (small (by decide)) (fun y6 H6 S6 t6=>?_)⟩
  refine⟨_,[3],rfl,by decide +kernel,by decide +kernel,by decide +kernel,by decide,fun y7 H7 S7 t7=>bV (t6.mono (.of S7)) t7 (small (by decide)) (fun y8 H8 S8 t8=>q _ _ (S14.trans (S5.trans (S6.trans (S7.trans S8)))) t8)⟩
 ·refine⟨_,rfl,jV,_,_,_,rfl,rfl,qN _,rfl,_,[3,5,3,6,4,3,4],rfl,by decide +kernel,by decide +kernel,by decide +kernel,by decide,fun y5 H5 S5 t5=>bV (t4.mono (.of S5)) t5 (small (by decide)) (fun y6 H6 S6 t6=>?_)⟩
  refine⟨_,[3],rfl,by decide +kernel,by decide +kernel,by decide +kernel,by decide,fun y7 H7 S7 t7=>bV (t6.mono (.of S7)) t7 (small (by decide)) (fun y8 H8 S8 t8=>q _ _ (S14.trans (S5.trans (S6.trans (S7.trans S8)))) t8)⟩
 ·refine⟨_,rfl,jV,_,_,_,rfl,rfl,qN _,rfl,_,[3,5,6,4,4],rfl,by decide +kernel,by decide +kernel,by decide +kernel,by decide,fun y5 H5 S5 t5=>bV (t4.mono (.of S5)) t5 (small (by decide)) (fun y6 H6 S6 t6=>?_)⟩
  refine⟨_,[3],rfl,by decide +kernel,by decide +kernel,by decide +kernel,by decide,fun y7 H7 S7 t7=>bV (t6.mono (.of S7)) t7 (small (by decide)) (fun y8 H8 S8 t8=>q _ _ (S14.trans (S5.trans (S6.trans (S7.trans S8)))) t8)⟩
 ·refine⟨_,rfl,jV,_,_,_,rfl,rfl,qN _,rfl,_,[5,6,6,4,3,4],rfl,by decide +kernel,by decide +kernel,by decide +kernel,by decide,fun y5 H5 S5 t5=>bV (t4.mono (.of S5)) t5 (small (by decide)) (fun y6 H6 S6 t6=>?_)⟩
  refine⟨_,[3],rfl,by decide +kernel,by decide +kernel,by decide +kernel,by decide,fun y7 H7 S7 t7=>bV (t6.mono (.of S7)) t7 (small (by decide)) (fun y8 H8 S8 t8=>q _ _ (S14.trans (S5.trans (S6.trans (S7.trans S8)))) t8)⟩
 ·refine⟨_,rfl,jV,_,_,_,rfl,rfl,qN _,rfl,_,[3,5,3,5,3,6,4,6,4,3,4],rfl,by decide +kernel,by decide +kernel,by decide +kernel,by decide,fun y5 H5 S5 t5=>bV (t4.mono (.of S5)) t5 (small (by decide)) (fun y6 H6 S6 t6=>?_)⟩
  refine⟨_,[3],rfl,by decide +kernel,by decide +kernel,by decide +kernel,by decide,fun y7 H7 S7 t7=>bV (t6.mono (.of S7)) t7 (small (by decide)) (fun y8 H8 S8 t8=>q _ _ (S14.trans (S5.trans (S6.trans (S7.trans S8)))) t8)⟩
theorem abz (eO:mg "range"=none) (iQ:mg "reversed"=none) {dR:Value} (eV:mg "WHILE"=some dR) (dU:RelV (.int 8) dR)
  {lU:Addr}{lK:FuncData} (yu:Fun K "fork" "fork" sH lU lK) (yq:FnOk P w K mg base CX0 34 lU lK ["yes","no"] (Ia K)) (yh:Binds K lK ["yes","no"] []) (xW:mg "fork"=some (.ref lU))
  {Bg:Addr}{Am:FuncData} (Y9:Fun K "while_gone" "while_gone" lu Bg Am) (Y0:FnOk P w K mg base CX0 34 Bg Am [] (oU K xu)) (Yu:Binds K Am [] []) (Xi:mg "while_gone"=some (.ref Bg))
  {vK:Addr}{vA:FuncData} (Qx:Fun K "nameless_gone" "nameless_gone" iJ vK vA) (Qu:FnOk P w K mg base CX0 34 vK vA [] (oU K HW)) (Qo:Binds K vA [] []) (Qf:mg "nameless_gone"=some (.ref vK))
  {JN:Addr}{Jr:FuncData} (ad9:Fun K "gone_of" "gone_of" qF JN Jr) (ad2:FnOk P w K mg base CX0 34 JN Jr ["sort"] (V9 K)) (adS:Binds K Jr ["sort"] []) (adz:mg "gone_of"=some (.ref JN))
  {cG:Addr}{cF:FuncData} (cA:Fun K "plains" "plains" iI cG cF) (cu:FnOk P w K mg base CX0 34 cG cF ["names"] (qw K)) (cj:Binds K cF ["names"] []) (cg:mg "plains"=some (.ref cG))
  (F:Fun K "by_sort" "by_sort" qG f fd):FnOk P w K mg base CX0 35 f fd [] (oU K (cB 8)):=by
 refine okQ F yW (fun vs H Q E h=>?_) (fun cdv A outer s H vs Q E hr h=>?_)
 ·obtain⟨rfl,_⟩:=h
  rfl
 obtain⟨rfl,q⟩:=h
 refine⟨_,(aq (bA (i:=0) yW.nd rfl (Or.inl rfl) (aP (aj (aJ yq hr rfl xW yu.kp yh .nil pass0 (aj (nO Qu hr rfl Qf Qx.kp Qo .nil pass0) (aj (nO Y0 hr rfl Xi Y9.kp Yu .nil pass0) ak))) ak)))
   (aq (PK PassesOwn.never rfl (af8 rfl eO rfl iQ (aj (aW (v:=.int 8) rfl eV dU) ak)) (lZ (i:=1) yW.nd rfl (Or.inl rfl)) (aA (bA (i:=0) yW.nd rfl (Or.inl rfl) (aP (aj (aJ yq hr rfl xW yu.kp yh .nil pass0 (aj (aV bf (aJ cu hr rfl cg cA.kp cj .nil pass0 (aj jW ak)) (qv 0)) (aj (aJ ad2 hr rfl adz ad9.kp adS .nil pass0 (aj (qv 1) ak)) ak))) ak)))))
   (aA (aO (qv 0))))),?_⟩
 refine⟨rfl,fun y1 H1 S1 t1=>⟨rfl,fun y2 H2 S2 t2=>⟨_,_,_,_,rfl,t1.mono (.of S2),t2,⟨by decide,by decide⟩,⟨by decide,by decide⟩,fun y3 H3 S3 t3=>⟨(by show 1≤sizeLine; decide),fun p4 g4=>?_⟩⟩⟩⟩
 obtain⟨S4,t4⟩:=bH (K:=K) g4 (cV t3)
 refine⟨rfl,?_⟩
 refine ae3 (fun i σ' H'=>∃ v o,σ'=[some v,o]∧Same H H'∧TR K H' (.node (cB i)) v) ?_ ?_ ?_
 ·exact⟨_,_,rfl,S1.trans (S2.trans (S3.trans S4)),t4⟩
 ·rintro i σ' H' hi ⟨v,o,rfl,S,ht⟩
  dsimp only [gName]
  have hl1:(cB i).length=1:=by cases i <;> rfl
  refine⟨_,[5,3],rfl,by decide +kernel,by decide +kernel,by decide +kernel,by decide,fun y5 H5 S5 t5=>⟨_,rfl,bV t5 (ht.mono (.of S5)) (small (by rw [hl1]; decide)) (fun y6 H6 S6 t6=>?_)⟩⟩
  refine⟨_,rfl,7 - i,(by show [V.int (7 - (i:Int))]=_; rw [show (((7 - i:Nat):Int))=7 - (i:Int) by lia]),by lia,fun y7 H7 S7 t7=>?_⟩
  have bi:=ahp i (by lia)
  have bg:=aiq (7 - i) (by lia)
  refine⟨_,_,_,_,rfl,t6.mono (.of S7),t7,bi,bg,fun y8 H8 S8 t8=>⟨(by show 1≤sizeLine; decide),fun p9 g9=>?_⟩⟩
  obtain⟨S9,t9⟩:=bH (K:=K) g9 (cV t8)
  exact⟨_,_,rfl,S.trans (S5.trans (S6.trans (S7.trans (S8.trans S9)))),t9⟩
 ·rintro σ' H' ⟨v,o,rfl,S,ht⟩
  exact⟨_,rfl,q _ _ S ht⟩
theorem abq
  {cG:Addr}{cF:FuncData} (cA:Fun K "plains" "plains" iI cG cF) (cu:FnOk P w K mg base CX0 35 cG cF ["names"] (qw K)) (cj:Binds K cF ["names"] []) (cg:mg "plains"=some (.ref cG))
  {JQ:Addr}{Js:FuncData} (ad_:Fun K "by_sort" "by_sort" qG JQ Js) (ad3:FnOk P w K mg base CX0 35 JQ Js [] (oU K (cB 8))) (adT:Binds K Js [] []) (adA:mg "by_sort"=some (.ref JQ))
  {lU:Addr}{lK:FuncData} (yu:Fun K "fork" "fork" sH lU lK) (yq:FnOk P w K mg base CX0 35 lU lK ["yes","no"] (Ia K)) (yh:Binds K lK ["yes","no"] []) (xW:mg "fork"=some (.ref lU))
  (F:Fun K "stepped" "stepped" qy f fd):FnOk P w K mg base CX0 36 f fd [] (oU K jG):=by
 refine okQ F Fg (fun vs H Q E h=>?_) (fun cdv A outer s H vs Q E hr h=>?_)
 ·obtain⟨rfl,_⟩:=h
  rfl
 obtain⟨rfl,q⟩:=h
 refine⟨_,(aq (bA (i:=0) Fg.nd rfl (Or.inl rfl) (aV bf (aJ cu hr rfl cg cA.kp cj .nil pass0 (aj jW ak)) (nO ad3 hr rfl adA ad_.kp adT .nil pass0)))
   (aq (bA (i:=1) Fg.nd rfl (Or.inl rfl) (aJ cu hr rfl cg cA.kp cj .nil pass0 (aj jW ak)))
   (aA (aO (aV bf (aJ cu hr rfl cg cA.kp cj .nil pass0 (aj jW ak)) (aP (aj (aJ yq hr rfl xW yu.kp yh .nil pass0 (aj (qv 0) (aj (qv 1) ak))) ak))))))),?_⟩
 refine⟨_,[5,5],rfl,by decide +kernel,by decide +kernel,by decide +kernel,by decide,fun y1 H1 S1 t1=>⟨rfl,fun y2 H2 S2 t2=>bV (t1.mono (.of S2)) t2 (small (by decide)) (fun y3 H3 S3 t3=>?_)⟩⟩
 have S13:=S1.trans (S2.trans S3)
 refine⟨_,[1],rfl,by decide +kernel,by decide +kernel,by decide +kernel,by decide,fun y4 H4 S4 t4=>?_⟩
 refine⟨_,[5],rfl,by decide +kernel,by decide +kernel,by decide +kernel,by decide,fun y5 H5 S5 t5=>⟨_,rfl,_,rfl,_,_,_,_,rfl,t3.mono (.of (S4.trans S5)),t4.mono (.of S5),⟨by decide +kernel,by decide +kernel⟩,⟨by decide,by decide⟩,fun y6 H6 S6 t6=>⟨(by show 1≤sizeLine; decide),fun p7 g7=>?_⟩⟩⟩
 obtain⟨S7,t7⟩:=bH (K:=K) g7 (cV t6)
 exact bV (t5.mono (.of (S6.trans S7))) t7 (small (by decide)) (fun y8 H8 S8 t8=>q _ _ (S13.trans (S4.trans (S5.trans (S6.trans (S7.trans S8))))) t8)
theorem WX
  {YG:Addr}{Yh:FuncData} (ajy:Fun K "loop" "loop" zP YG Yh) (ajt:FnOk P w K mg base CX0 36 YG Yh ["body"] (acS K)) (ajo:Binds K Yh ["body"] []) (ah4:mg "loop"=some (.ref YG))
  {JG:Addr}{Jl:FuncData} (ad4:Fun K "stepped" "stepped" qy JG Jl) (adX:FnOk P w K mg base CX0 36 JG Jl [] (oU K jG)) (adN:Binds K Jl [] []) (adu:mg "stepped"=some (.ref JG))
  {cG:Addr}{cF:FuncData} (cA:Fun K "plains" "plains" iI cG cF) (cu:FnOk P w K mg base CX0 36 cG cF ["names"] (qw K)) (cj:Binds K cF ["names"] []) (cg:mg "plains"=some (.ref cG))
  (F:Fun K "from_head" "from_head" j9 f fd):FnOk P w K mg base CX0 37 f fd [] (oU K bU):=by
 refine okQ F Wq (fun vs H Q E h=>?_) (fun cdv A outer s H vs Q E hr h=>?_)
 ·obtain⟨rfl,_⟩:=h
  rfl
 obtain⟨rfl,q⟩:=h
 refine⟨_,(aA (aO (aV bf (aP (aj (aJ ajt hr rfl ah4 ajy.kp ajo .nil pass0 (aj (nO adX hr rfl adu ad4.kp adN .nil pass0) ak)) ak)) (aJ cu hr rfl cg cA.kp cj .nil pass0 (aj jW ak))))),?_⟩
 refine⟨rfl,fun y1 H1 S1 t1=>⟨_,_,rfl,t1,by decide +kernel,by decide +kernel,fun y2 H2 S2 t2=>⟨(by show 1≤sizeLine; decide),fun p3 g3=>?_⟩⟩⟩
 obtain⟨S3,t3⟩:=bH (K:=K) g3 (cV t2)
 refine⟨_,[1,5,3,1],rfl,by decide +kernel,by decide +kernel,by decide +kernel,by decide,fun y4 H4 S4 t4=>bV (t3.mono (.of S4)) t4 (small (by decide)) (fun y5 H5 S5 t5=>q _ _ (S1.trans (S2.trans (S3.trans (S4.trans S5)))) t5)⟩
theorem U3
  {JL:Addr}{Jp:FuncData} (ad7:Fun K "opening" "opening" qC JL Jp) (ad0:FnOk P w K mg base CX0 37 JL Jp [] (oU K afu)) (adQ:Binds K Jp [] []) (adx:mg "opening"=some (.ref JL))
  {nU:Addr}{nR:FuncData} (DP:Fun K "from_head" "from_head" j9 nU nR) (DK:FnOk P w K mg base CX0 37 nU nR [] (oU K bU)) (Dl:Binds K nR [] []) (Cw:mg "from_head"=some (.ref nU))
  (F:Fun K "selfrunner" "selfrunner" lA f fd):FnOk P w K mg base CX0 38 f fd [] (oU K dh):=by
 refine okQ F Ux (fun vs H Q E h=>?_) (fun cdv A outer s H vs Q E hr h=>?_)
 ·obtain⟨rfl,_⟩:=h
  rfl
 obtain⟨rfl,q⟩:=h
 refine⟨_,(aA (aO (aV bf (nO ad0 hr rfl adx ad7.kp adQ .nil pass0) (nO DK hr rfl Cw DP.kp Dl .nil pass0)))),?_⟩
 exact⟨rfl,fun y1 H1 S1 t1=>⟨rfl,fun y2 H2 S2 t2=>bV (t1.mono (.of S2)) t2 (small (by decide)) (fun y3 H3 S3 t3=>q _ _ (S1.trans (S2.trans S3)) t3)⟩⟩
theorem aeG {dR:Value} (eV:mg "WHILE"=some dR) (dU:RelV (.int 8) dR)
  {cX:Addr}{cW:FuncData} (ju:Fun K "first" "first" jJ cX cW) (jt:FnOk P w K mg base CX0 37 cX cW ["tree"] (ur K)) (jo:Binds K cW ["tree"] []) (jm:mg "first"=some (.ref cX))
  {nU:Addr}{nR:FuncData} (DP:Fun K "from_head" "from_head" j9 nU nR) (DK:FnOk P w K mg base CX0 37 nU nR [] (oU K bU)) (Dl:Binds K nR [] []) (Cw:mg "from_head"=some (.ref nU))
  {jF:Addr}{jD:FuncData} (yr:Fun K "sort_of" "sort_of" mU jF jD) (yj:FnOk P w K mg base CX0 37 jF jD ["word"] (Ke K)) (yd:Binds K jD ["word"] []) (xU:mg "sort_of"=some (.ref jF))
  (F:Fun K "shown" "shown" uw f fd):FnOk P w K mg base CX0 38 f fd ["stand"] (aai K):=by
 refine okQ F Wm (fun vs H Q E h=>?_) (fun cdv A outer s H vs Q E hr h=>?_)
 ·obtain⟨x,tx,sk,rfl,_⟩:=h
  rfl
 obtain⟨x,tx,sk,rfl,hx,hd,q⟩:=h
 have hE:=hr.un
 have hE:(A.deeper (envOfC "shown" (defScope uw) s.heap.objs.size f cdv)).units+401<cLine:=by lia
 refine⟨_,(aq (bA (i:=1) Wm.nd rfl (Or.inl rfl) (aJ jt hr rfl jm ju.kp jo .nil pass0 (aj (bK bF (qv 0) au (fun _ _=>rfl)) ak)))
   (aq (bC (QW.pt (afz (aQ op_ne (aJ yj hr rfl xU yr.kp yd .nil pass0 (aj (aJ jt hr rfl jm ju.kp jo .nil pass0 (aj (qv 1) ak)) ak)) (aW (v:=.int 8) rfl eV dU) (nomark _)) (ac6 (aQ (uD hE) (qv 1) (nO DK hr rfl Cw DP.kp Dl .nil pass0) (nomark _))))) (aA (aO qL)) aX)
   (aA (aO (bY cT (bK bF (qv 0) au (fun _ _=>rfl)) cN (cM au)))))),?_⟩
 refine⟨_,rfl,cQ hx 0 rfl (fun v1 t1=>⟨v1,.node tx,rfl,t1,by lia,fun y1 H1 S1 t2=>?_⟩)⟩
 have t2:TR K H1 (ats tx 0) y1:=t2
 have hd0:=Yb tx
 refine⟨_,rfl,y1,ats tx 0,rfl,t2,by lia,fun y3 H3 S3 t3=>?_⟩
 have hd1:=Yb (ats tx 0).kids
 rw [h_] at hd1
 refine⟨y3,_,rfl,t3,by lia,fun H4 S4=>?_⟩
 have S14:=S1.trans (S3.trans S4)
 refine⟨rfl,_,rfl,?_⟩
 rcases q with⟨hn,q⟩ | ⟨hh,q⟩
 ·have hn:aB (ats (ats tx 0).kids 0)≠8:=hn
  rw [show (!decide (V.int ((aB (ats (ats tx 0).kids 0):Nat):Int)=V.int 8))=true by rw [decide_eq_false (fun z=>hn (by have:=V.int.inj z; lia))]; rfl]
  exact iteT (iteT (q _ S14))
 ·rw [hh,show (!decide (V.int ((aB (ats (T.node bU).kids 0):Nat):Int)=V.int 8))=false from rfl]
  refine iteF ⟨_,rfl,rfl,fun y5 H5 S5 t5=>⟨ats tx 0,_,t2.mono (.of (S3.trans (S4.trans S5))),t5,by lia,_,rfl,?_⟩⟩
  rw [hh,T.pB]
  refine iteF ?_
  refine⟨_,rfl,cQ (hx.mono (.of (S14.trans S5))) 1 rfl (fun v6 t6=>⟨2,rfl,nTo t6 2 (fun y7 H7 S7 t7=>q _ _ (S14.trans (S5.trans S7)) t7)⟩)⟩
end
section
variable {P:Program}{w:World}{K:PySem.W.Frag}{mg:Str→Option Value}{base:Heap}{f:Addr}{fd:FuncData}
theorem W6 (eO:mg "range"=none) (dF:mg "len"=none)
  (F:Fun K "_law_deck" "_law_deck" kj f fd):FnOk P w K mg base CX0 32 f fd ["_law_script"] (acU K):=by
 refine okQ F lq (fun vs H Q E h=>?_) (fun cdv A outer s H vs Q E hr h=>?_)
 ·obtain⟨a,ns,rfl,_⟩:=h
  rfl
 obtain⟨a,ns,rfl,hl,h63,q⟩:=h
 refine⟨_,(aq (WD (i:=1) lq.nd rfl (Or.inl rfl) rfl (rN (fr:=[]) (js:=[]) (sc:=defScope kj) rfl rfl rfl (by decide +kernel) (by decide +kernel) (by decide +kernel) (by decide +kernel) (by exact trivial) (by decide +kernel) (fun y hy=>cell_has hy)) (aay (bY afV (qv 0) cN (cM au))) (fun _ _ _ _ _=>(aV op_mod (qv 0) au)))
   (aq (bA (i:=2) lq.nd rfl (Or.inl rfl) (pI ak))
   (aq (PK PassesOwn.never rfl (qJ rfl eO (aj au ak)) (lZ (i:=3) lq.nd rfl (Or.inl rfl)) (aq (bA (i:=4) lq.nd rfl (Or.inl rfl) au)
   (aq (bC (aQ Fz (cY call_len_seq rfl dF oH (aj (qv 1) ak)) au (nomark _)) (aA (bA (i:=4) lq.nd rfl (Or.inl rfl) (bK ix_list (qv 1) (aV op_mod (qv 3) (cY call_len_seq rfl dF oH (aj (qv 1) ak))) (fun _ _=>rfl)))) aX)
   (aq (bA (i:=5) lq.nd rfl (Or.inl rfl) (aV Io (aV op_mod (qv 4) au) (aV op_add (aV Io au (qv 3)) au)))
   (aA (cZ (gQ PySem.F.plainAttrs_list PySem.F.slot_list_append PySem.F.type_list_append dD (qv 2) (aj (aV op_mod (aV op_add (aV op_add (qv 5) (aV op_fdiv (qv 4) au)) (aV Io (aV Io au (qv 3)) (qv 3))) au) ak))))))))
   (aA (aO (qv 2)))))),?_⟩
 have aoL:(ns.take 160).length≤160:=by rw [List.length_take]; lia
 have aiy:qZ (ns.map V.int) none (some 160)=(ns.take 160).map V.int:=by
  rw [show (some (160:Int))=some ((160:Nat):Int) from rfl,Yk,List.map_take]
 generalize ns.take 160=ms at aoL aiy
 have big:(2 ^ 64:Int)=18446744073709551616:=by decide
 refine⟨_,rfl,160,rfl,a,_,rfl,hl,fun p1 hp1=>?_⟩
 have h1:upd H p1 (.lst (qZ (ns.map V.int) none (some 160))) p1=some (.lst (ms.map V.int)):=by rw [upd_same,aiy]
 have S1:Same H (upd H p1 (.lst (qZ (ns.map V.int) none (some 160)))):=same_new hp1 _
 generalize upd H p1 (.lst (qZ (ns.map V.int) none (some 160)))=H1 at h1 S1
 refine⟨p1,rfl,⟨_,SqL.of h1⟩,agG (fun i y=>∃ n:Int,y=.int n∧0≤n∧n<2305843009213693951) (SqL.of h1) (small (by rw [List.length_map]; lia)) (fun i x H' R hx S hR=>?_) (fun D ys hD ly py=>?_)⟩
 ·obtain⟨z,rfl⟩:∃ z,x=.int z:=by
   rw [List.getElem?_map] at hx
   cases hh:ms[i]? with
   | none=>rw [hh] at hx; cases hx
   | some z=>rw [hh] at hx; exact⟨z,(Option.some.inj hx).symm⟩
  exact⟨_,rfl,_,_,rfl,rfl,(by show (0:Int)<2305843009213693951; decide),hR _ ⟨_,rfl,Int.emod_nonneg _ (by decide),Int.emod_lt_of_pos _ (by decide)⟩⟩
 obtain⟨cs,rfl,hcs⟩:=Xy py
 rw [List.length_map,List.length_map] at ly
 have hDl:upd H1 D (.lst (cs.map V.int)) D=some (.lst (cs.map V.int)):=upd_same
 have S2:=S1.trans (same_new hD (.lst (cs.map V.int)))
 generalize upd H1 D (.lst (cs.map V.int))=H2 at hDl S2
 refine⟨Nat.zero_le _,fun p3 hp3=>?_⟩
 have aie:H p3=none:=S2.free hp3
 have n3:D≠p3:=ne_of_none hDl hp3
 refine⟨160,rfl,by decide,by decide,?_⟩
 refine Jd (n:=160) (fun i σ' H'=>∃ (ds:List Int) (o3 o4 o5:Option V),σ'=[some (.ref a),some (.ref D),some (.ref p3),o3,o4,o5]∧Same H H'∧H' D=some (.lst (cs.map V.int))∧H' p3=some (.lst (ds.map V.int))∧ds.length=i) ?_ ?_ ?_
 ·exact⟨[],_,_,_,rfl,S2.trans (same_new hp3 _),by rw [upd_ne n3]; exact hDl,upd_same,rfl⟩
 ·rintro i σ' H' hi ⟨ds,o3,o4,o5,rfl,S,hd,h3,hlen⟩
  dsimp only [gName]
  refine jY (fun v=>[some (.ref a),some (.ref D),some (.ref p3),some (.int (0+(i:Int))),some v,o5]) (fun _=>rfl) (fun v H3=>v=.int 1∧H3=H') (fun R r=>r _ _ ⟨rfl,rfl⟩) (fun v4 H3 h4=>?_)
  obtain⟨rfl,rfl⟩:=h4
  refine adC (fun σ2 H2=>∃ z:Int,σ2=[some (.ref a),some (.ref D),some (.ref p3),some (.int (0+(i:Int))),some (.int z),o5]∧H2=H3∧0≤z∧z<2305843009213693951) (fun σ2 H2 h2=>?_) (fun N hN=>?_)
  rotate_left
  ·refine⟨_,rfl,D,_,rfl,.inl (SqL.of hd),_,_,rfl,rfl,_,rfl,ite2 (fun hb=>?_) (fun _=>hN _ _ ⟨1,rfl,rfl,by decide,by decide⟩)⟩
   have hpos:0<cs.length:=by
    have:=of_decide_eq_true hb
    rw [List.length_map] at this
    lia
   have hpos':(0:Int)<((cs.map V.int).length:Int):=by rw [List.length_map]; lia
   have hj0:0≤(0+(i:Int)) % ((cs.map V.int).length:Int):=Int.emod_nonneg _ (by lia)
   have hj1:(0+(i:Int)) % ((cs.map V.int).length:Int)<((cs.map V.int).length:Int):=Int.emod_lt_of_pos _ hpos'
   obtain⟨c,hc,ec⟩:∃ c∈cs,atI (cs.map V.int) ((0+(i:Int)) % ((cs.map V.int).length:Int))=some (.int c):=by
    generalize (0+(i:Int)) % ((cs.map V.int).length:Int)=j at hj0 hj1
    have hk:j.toNat<cs.length:=by rw [List.length_map] at hj1; lia
    have e:(cs.map V.int)[j.toNat]?=some (.int cs[j.toNat]):=by rw [List.getElem?_map,List.getElem?_eq_getElem hk]; rfl
    have:=atI_nat e
    rw [show ((j.toNat:Nat):Int)=j by lia] at this
    exact⟨_,List.getElem_mem hk,this⟩
   obtain⟨c0,c1⟩:=hcs c hc
   exact⟨_,rfl,_,rfl,_,rfl,D,_,rfl,.inl (SqL.of hd),_,_,rfl,rfl,hpos',D,_,_,_,rfl,rfl,SqL.of hd,ec,hN _ _ ⟨c,rfl,rfl,c0,c1⟩⟩
  obtain⟨z,rfl,rfl,z0,z1⟩:=h2
  have zm0:=Int.emod_nonneg z (show (2147483629:Int)≠0 by decide)
  have zm1:=Int.emod_lt_of_pos z (show (0:Int)<2147483629 by decide)
  have arl:(2:Int) ^ 64=18446744073709551616:=by decide
  refine jY (fun v=>[some (.ref a),some (.ref D),some (.ref p3),some (.int (0+(i:Int))),some (.int z),some v]) (fun _=>rfl) (fun v H4=>v=.int (z % 2147483629 * (2 * (0+(i:Int))+1))∧H4=H2) (fun R r=>⟨_,rfl,_,_,rfl,rfl,(by show (0:Int)<2147483629; decide),_,rfl,_,_,rfl,rfl,.inl ⟨by decide,by decide⟩,_,_,rfl,rfl,_,_,rfl,rfl,.inl ⟨by lia,by lia⟩,r _ _ ⟨rfl,rfl⟩⟩) (fun v5 H4 h5=>?_)
  obtain⟨rfl,rfl⟩:=h5
  refine⟨_,rfl,.inl ⟨rfl,_,SqL.of h3⟩,_,rfl,_,rfl,_,_,rfl,rfl,⟨by decide,by decide⟩,_,_,rfl,rfl,_,rfl,_,_,rfl,rfl,.inl ⟨by decide,by decide⟩,_,rfl,_,_,rfl,rfl,.inl ⟨by lia,by lia⟩,_,_,rfl,rfl,_,_,rfl,rfl,(by show (0:Int)<2147483647; decide),p3,_,_,rfl,rfl,h3,ahq (by rw [List.length_map]; lia),?_⟩
  exact⟨ds++[_],_,_,_,rfl,gB S aie,by rw [upd_ne n3]; exact hd,by rw [upd_same,List.map_append]; rfl,by rw [List.length_append,hlen]; rfl⟩
 ·rintro σ' H' ⟨ds,o3,o4,o5,rfl,S,hd,h3,hlen⟩
  exact⟨_,rfl,q p3 H' S aie ⟨ds,h3⟩⟩
theorem W4 (dF:mg "len"=none)
  (F:Fun K "_law_next" "_law_next" iB f fd):FnOk P w K mg base CX0 31 f fd ["_law_deck_here","_law_many"] H_:=by
 refine okQ F Wt (fun vs H Q E h=>?_) (fun cdv A outer s H vs Q E hr h=>?_)
 ·obtain⟨p,m,rfl,_⟩:=h
  rfl
 obtain⟨p,m,rfl,hm,hd,q⟩:=h
 refine⟨_,(aq (bC (aQ op_eq (cY call_len_seq rfl dF oH (aj (qv 0) ak)) au (nomark _)) (aA (aO au)) aX)
   (aA (aO (aV op_mod (gQ PySem.F.plainAttrs_list PySem.F.slot_list_pop PySem.F.type_list_pop Ni (qv 0) (aj au ak)) (qv 1))))),?_⟩
 obtain⟨ns,hp⟩:=hd
 refine⟨_,rfl,p,_,rfl,.inl (SqL.of hp),rfl,_,rfl,?_⟩
 refine ite2 (fun _=>?_) (fun hb=>?_)
 ·exact q 0 H (by lia) hm (Dr.refl ⟨ns,hp⟩)
 ·cases ns with
  | nil=>exact absurd (decide_eq_true rfl) hb
  | cons n ns =>
   refine⟨_,rfl,.inl ⟨rfl,_,SqL.of hp⟩,p,_,0,0,_,rfl,rfl,hp,by decide,by decide,?_,rfl,?_⟩
   ·rw [seqIndex_of (by decide) (by rw [List.length_map,List.length_cons]; lia)]
    rfl
   ·refine⟨_,rfl,_,_,rfl,rfl,hm,q _ _ (Int.emod_nonneg _ (by lia)) (Int.emod_lt_of_pos _ hm) ⟨fun b o nb e=>?_,⟨ns,?_⟩⟩⟩
    ·rw [upd_ne nb]; exact e
    ·rw [upd_same]; rfl
theorem aeN (dM:mg "tuple"=none) (eO:mg "range"=none)
  {dJ:Addr}{dI:FuncData} (eY:Fun K "_law_next" "_law_next" iB dJ dI) (vN:FnOk P w K mg base CX0 31 dJ dI ["_law_deck_here","_law_many"] H_) (eX:Binds K dI ["_law_deck_here","_law_many"] []) (eU:mg "_law_next"=some (.ref dJ))
  {a_t:Addr}{d_t:FuncData} (gk:Fun K "_law_tree" "_law_tree" iz a_t d_t) (iD:Binds K d_t ["_law_deck_here","_law_deep"] []) (iC:mg "_law_tree"=some (.ref a_t)) :
  ∀ n:Nat,FnOk P w K mg base CX0 (32+n) a_t d_t ["_law_deck_here","_law_deep"] (Kc K n):=by
 intro n
 induction n with
 | zero =>
  refine okQ (k:=31) gk Ie (fun vs H Q E h=>?_) (fun cdv A outer s H vs Q E hr h=>?_)
  ·obtain⟨p,d,rfl,_⟩:=h
   rfl
  obtain⟨p,d,rfl,hd,hk,q⟩:=h
  refine⟨_,aq (bC (aQ op_eq (qv 1) au (nomark _)) (aA (aO (aP ak))) aX) (aA aeu),?_⟩
  have e:d=0:=by lia
  subst e
  refine⟨_,rfl,rfl,_,rfl,ite2 (fun _=>⟨Nat.zero_le _,fun p1 hp1=>?_⟩) (fun hb=>absurd (decide_eq_true rfl) hb)⟩
  exact q _ _ _ ((Dr.refl hk).same (same_new hp1 _)) (fO upd_same) ⟨⟨by rw [T.aR,T.cU]; lia,by rw [T.aN,T.aY]; decide⟩,BR⟩
 | succ n ih =>
  have iG:=ih
  have d7:=vN.mono (show 31≤32+n by lia)
  refine okQ (k:=32+n) gk Ie (fun vs H Q E h=>?_) (fun cdv A outer s H vs Q E hr h=>?_)
  ·obtain⟨p,d,rfl,_⟩:=h
   rfl
  obtain⟨p,d,rfl,hd,hk,q⟩:=h
  refine⟨_,(aq (bC (aQ op_eq (qv 1) au (nomark _)) (aA (aO (aP ak))) aX)
   (aA (aO (kI gR rfl dM pA (aj (Ft rfl (rN (fr:=["_law_deck_here","_law_deep"]) (js:=[0,1]) (sc:=defScope iz) rfl rfl rfl (by decide +kernel) (by decide +kernel) (by decide +kernel) (by decide +kernel) (by exact⟨⟨rfl,rfl,rfl⟩,⟨⟨rfl,rfl,rfl⟩,trivial⟩⟩) (by decide +kernel) (fun y hy=>cell_has hy)) (qJ rfl eO (aj (aJ d7 hr rfl eU eY.kp eX .nil pass0 (aj (qv 0) (aj au ak))) ak)) (fun _ _ _ _ _=>(aJ iG hr rfl iC gk.kp iD .nil pass0 (aj (qv 1) (aj (aV op_sub (qv 2) au) ak))))) ak))))),?_⟩
  refine⟨_,rfl,rfl,_,rfl,ite2 (fun hb=>?_) (fun hb=>?_)⟩
  ·have e:d=0:=by
    have:=of_decide_eq_true hb
    have:=V.int.inj this
    lia
   subst e
   refine⟨Nat.zero_le _,fun p1 hp1=>?_⟩
   exact q _ _ _ ((Dr.refl hk).same (same_new hp1 _)) (fO upd_same) ⟨⟨by rw [T.aR,T.cU]; lia,by rw [T.aN,T.aY]; decide⟩,BR⟩
  ·have hd0:d≠0:=fun z=>hb (by subst z; exact decide_eq_true rfl)
   obtain⟨e,rfl⟩:∃ e,d=e+1:=⟨d - 1,by lia⟩
   refine⟨_,rfl,p,4,rfl,by decide,hk,fun m H1 hm0 hm1 D1=>?_⟩
   refine⟨m,rfl,by lia,by lia,?_⟩
   have hk1:=D1.dH
   refine Ul (fun D i ys H'=>D≠p∧H1 D=none∧Dr p H1 H'∧H' D=some (.lst ys)∧ys.length=i∧∃ ts,TRs K H' ts ys∧∀ t∈ts,afh e t) (small (by lia)) (fun D hD=>?_) (fun D i ys H' j=>⟨j.2.2.2.1,j.2.2.2.2.1⟩) (fun D i ys H' R hi j hR=>?_) (fun D ys H' j=>?_)
   ·have hne:D≠p:=fun z=>by
     obtain⟨ns,e1⟩:=hk1
     rw [z,e1] at hD; cases hD
    exact⟨hne,hD,(Dr.refl hk1).upd hD hne,upd_same,rfl,[],bM.mpr rfl,fun _ h=>by simp at h⟩
   ·obtain⟨hne,hD,Dh,h1,hl,ts,htr,hsh⟩:=j
    refine⟨_,rfl,_,rfl,_,_,rfl,rfl,p,e,(by show [V.ref p,V.int (((e+1:Nat):Int) - 1)]=_; rw [show ((e+1:Nat):Int) - 1=(e:Int) by lia]),by lia,Dh.dH,fun y t H3 D3 ht hs=>?_⟩
    have h3:=D3.keep D _ hne h1
    refine hR y H3 h3 ⟨hne,hD,(Dh.trans D3).upd hD hne,upd_same,by rw [List.length_append,hl]; rfl,ts++[t],?_,fun u hu=>?_⟩
    ·exact TRs.append ((htr.mono (D3.kt Dh.dH)).mono (Kt.lst h3)) (cH.mpr ⟨y,[],rfl,ht.mono (Kt.lst h3),bM.mpr rfl⟩)
    ·rcases List.mem_append.mp hu with z | z
     ·exact hsh u z
     ·rw [List.mem_singleton.mp z]; exact hs
   ·obtain⟨hne,hD,Dh,h1,hl,ts,htr,hsh⟩:=j
    refine⟨D,ys,rfl,.inl ⟨SqL.of h1,fun p5 hp5=>?_⟩⟩
    have hlt:ts.length≤3:=by rw [← htr.length,hl]; lia
    refine q _ (.node ts) _ ((D1.trans Dh).same (same_new hp5 _)) (wV (SqT.of upd_same) (htr.mono (Kt.new hp5))) ⟨⟨?_,?_⟩,.mk (by show ts.length≤3; lia) fun w hw=>(hsh w hw).2⟩
    ·rw [T.aR]
     exact T.sX fun u hu=>by have:=(hsh u hu).1.1; lia
    ·rw [T.aN]
     have:=BJ (b:=pbT e) hlt fun u hu=>(hsh u hu).1.2
     show _≤1+3 * pbT e
     lia
theorem W5
  {dJ:Addr}{dI:FuncData} (eY:Fun K "_law_next" "_law_next" iB dJ dI) (d7:FnOk P w K mg base CX0 35 dJ dI ["_law_deck_here","_law_many"] H_) (eX:Binds K dI ["_law_deck_here","_law_many"] []) (eU:mg "_law_next"=some (.ref dJ))
  {gM:Addr}{gJ:FuncData} (gk:Fun K "_law_tree" "_law_tree" iz gM gJ) (iG:FnOk P w K mg base CX0 35 gM gJ ["_law_deck_here","_law_deep"] (Kc K 3)) (iD:Binds K gJ ["_law_deck_here","_law_deep"] []) (iC:mg "_law_tree"=some (.ref gM))
  (F:Fun K "_law_load" "_law_load" nJ f fd):FnOk P w K mg base CX0 36 f fd ["_law_deck_here"] (aal K):=by
 refine okQ F Wu (fun vs H Q E h=>?_) (fun cdv A outer s H vs Q E hr h=>?_)
 ·obtain⟨p,rfl,_⟩:=h
  rfl
 obtain⟨p,rfl,hk,q⟩:=h
 refine⟨_,(aq (bC (aQ op_eq (aJ d7 hr rfl eU eY.kp eX .nil pass0 (aj (qv 0) (aj au ak))) au (nomark _)) (aA (aO (aJ iG hr rfl iC gk.kp iD .nil pass0 (aj (qv 0) (aj au ak))))) aX)
   (aA (aO (aP ak)))),?_⟩
 refine⟨_,rfl,p,4,rfl,by decide,hk,fun m H1 h0 h1 D1=>⟨rfl,_,rfl,ite2 (fun _=>⟨_,rfl,p,2,rfl,by decide,D1.dH,fun y t H2 D2 ht hs=>q _ _ _ (D1.trans D2) ht hs⟩) (fun _=>⟨Nat.zero_le _,fun p1 hp1=>?_⟩)⟩⟩
 exact q _ _ _ (D1.same (same_new hp1 _)) (fO upd_same) ⟨⟨by rw [T.aR,T.cU]; lia,by rw [T.aN,T.aY]; decide⟩,BR⟩
theorem adi (eO:mg "range"=none) (dM:mg "tuple"=none) (Vt:mg "int"=none)
  {dJ:Addr}{dI:FuncData} (eY:Fun K "_law_next" "_law_next" iB dJ dI) (vN:FnOk P w K mg base CX0 31 dJ dI ["_law_deck_here","_law_many"] H_) (eX:Binds K dI ["_law_deck_here","_law_many"] []) (eU:mg "_law_next"=some (.ref dJ))
  {gM:Addr}{gJ:FuncData} (gk:Fun K "_law_tree" "_law_tree" iz gM gJ) (Y7:FnOk P w K mg base CX0 36 gM gJ ["_law_deck_here","_law_deep"] (Kc K 3)) (iD:Binds K gJ ["_law_deck_here","_law_deep"] []) (iC:mg "_law_tree"=some (.ref gM))
  {Dv:Addr}{Df:FuncData} (Z7:Fun K "_law_load" "_law_load" nJ Dv Df) (Y8:FnOk P w K mg base CX0 36 Dv Df ["_law_deck_here"] (aal K)) (ZM:Binds K Df ["_law_deck_here"] []) (Zz:mg "_law_load"=some (.ref Dv))
  {a_w:Addr}{d_w:FuncData} (DQ:Fun K "_law_word" "_law_word" pU a_w d_w) (ZJ:Binds K d_w ["_law_deck_here","_law_deep"] []) (Zw:mg "_law_word"=some (.ref a_w))
  {a_x:Addr}{d_x:FuncData} (kJ:Fun K "_law_text" "_law_text" j_ a_x d_x) (qb:Binds K d_x ["_law_deck_here","_law_deep","_law_many"] []) (p8:mg "_law_text"=some (.ref a_x)) :
  ∀ n:Nat,n≤2→FnOk P w K mg base CX0 (2 * n+36) a_w d_w ["_law_deck_here","_law_deep"] (aad K n)∧FnOk P w K mg base CX0 (2 * n+37) a_x d_x ["_law_deck_here","_law_deep","_law_many"] (aaf K n):=by
 intro n
 induction n with
 | zero =>
  intro _
  refine⟨okQ (k:=35) DQ lg (fun vs H Q E h=>?_) (fun cdv A outer s H vs Q E hr h=>?_),okQ (k:=36) kJ Ig (fun vs H Q E h=>?_) (fun cdv A outer s H vs Q E hr h=>?_)⟩
  ·obtain⟨p,d,rfl,_⟩:=h; rfl
  ·obtain⟨p,d,rfl,hd,_⟩:=h; exact absurd hd (Nat.not_lt_zero _)
  ·obtain⟨p,d,m,rfl,_⟩:=h; rfl
  ·obtain⟨p,d,m,rfl,hd,_⟩:=h; exact absurd hd (Nat.not_lt_zero _)
 | succ n ih =>
  intro hn4
  obtain⟨_,qg⟩:=ih (by lia)
  have p2:pbT 2=13:=rfl
  have p3:pbT 3=40:=rfl
  have wd:FnOk P w K mg base CX0 (2 * n+38) a_w d_w ["_law_deck_here","_law_deep"] (aad K (n+1)):=by
   have d7:=vN.mono (show 31≤2 * n+37 by lia)
   have iG:=Y7.mono (show 36≤2 * n+37 by lia)
   have Z0:=Y8.mono (show 36≤2 * n+37 by lia)
   refine okQ (k:=2 * n+37) DQ lg (fun vs H Q E h=>?_) (fun cdv A outer s H vs Q E hr h=>?_)
   ·obtain⟨p,d,rfl,_⟩:=h; rfl
   obtain⟨p,d,rfl,hd,hk,q⟩:=h
   refine⟨_,(aq (bA (i:=2) lg.nd rfl (Or.inl rfl) (aJ d7 hr rfl eU eY.kp eX .nil pass0 (aj (qv 0) (aj au ak))))
   (aq (bC (aQ op_eq (qv 2) au (nomark _)) (aA (aO (aJ iG hr rfl iC gk.kp iD .nil pass0 (aj (qv 0) (aj au ak))))) aX)
   (aq (bA (i:=3) lg.nd rfl (Or.inl rfl) (bK ix_list (pI (aj au (aj au (aj au (aj au (aj au (aj au (aj au (aj au (aj au (aj au (aj au (aj au (aj au ak)))))))))))))) (qv 2) (fun _ _=>rfl)))
   (aq (bA (i:=4) lg.nd rfl (Or.inl rfl) (aV o7 (aP (aj (aP ak) ak)) (aV op_add (qv 3) (aV Io (kI adK rfl Vt ajl (aj (Rm op_eq (qv 3) au (nomark _)) ak)) (aJ d7 hr rfl eU eY.kp eX .nil pass0 (aj (qv 0) (aj au ak)))))))
   (aq (bC (QW.pt (qI (aQ op_eq (aJ d7 hr rfl eU eY.kp eX .nil pass0 (aj (qv 0) (aj au ak))) au (nomark _)) (pY (aQ Fz (qv 3) au (nomark _))))) (aq (bA (i:=5) lg.nd rfl (Or.inl rfl) (aJ d7 hr rfl eU eY.kp eX .nil pass0 (aj (qv 0) (aj (qv 3) ak))))
   (aA (bA (i:=4) lg.nd rfl (Or.inl rfl) (aV bf (aV bf (bY cT (qv 4) cN (cM (qv 5))) (aP (aj (aJ iG hr rfl iC gk.kp iD .nil pass0 (aj (qv 0) (aj au ak))) ak))) (bY cT (qv 4) (cM (aV op_add (qv 5) au)) cN))))) aX)
   (aq (bC (aQ op_eq (qv 3) au (nomark _)) (aA (aO (aV bf (aP (aj (aP ak) ak)) (aJ iG hr rfl iC gk.kp iD .nil pass0 (aj (qv 0) (aj au ak)))))) aX)
   (aq (bC (QW.pt (qI (aQ op_eq (qv 3) au (nomark _)) (pY (aQ Fz (qv 1) au (nomark _))))) (aA (aO (aV bf (aP (aj (qv 4) (aj (aJ qg hr rfl p8 kJ.kp qb .nil pass0 (aj (qv 0) (aj (aV op_sub (qv 1) au) (aj au ak)))) ak))) (aJ qg hr rfl p8 kJ.kp qb .nil pass0 (aj (qv 0) (aj (aV op_sub (qv 1) au) (aj au ak))))))) aX)
   (aq (bC (QW.pt (qI (aQ op_eq (qv 3) au (nomark _)) (pY (aQ Fz (qv 1) au (nomark _))))) (aA (aO (aV bf (aP (aj (qv 4) ak)) (aJ qg hr rfl p8 kJ.kp qb .nil pass0 (aj (qv 0) (aj (aV op_sub (qv 1) au) (aj au ak))))))) aX)
   (aA (aO (aV bf (aP (aj (qv 4) ak)) (aJ Z0 hr rfl Zz Z7.kp ZM .nil pass0 (aj (qv 0) ak))))))))))))),?_⟩
   have pw:=ahF d
   refine⟨_,rfl,p,14,rfl,by decide,hk,fun m H1 hm0 hm1 D1=>?_⟩
   have hk1:=D1.dH
   refine⟨_,rfl,rfl,_,rfl,ite2 (fun hb=>⟨_,rfl,p,3,rfl,by decide,hk1,fun y t H3 D3 ht hs=>q _ _ _ (D1.trans D3) ht ⟨hs.1.b.le (by lia) (by lia),Qk 41 t (by have:=hs.1.b.2; lia) (by decide) hs.2⟩⟩) (fun aoT=>?_)⟩
   have arj:m<13:=by
    have:m≠13:=fun z=>aoT (by rw [z]; exact decide_eq_true rfl)
    lia
   refine⟨(by show 13≤sizeLine; decide),fun p3' hp3=>?_⟩
   obtain⟨c,hc,ec⟩:=ah8 (ns:=[0,0,1,2,3,4,4,5,5,6,7,8,9]) (k:=m.toNat) (by show _<13; lia)
   rw [show ((m.toNat:Nat):Int)=m by lia] at ec
   have hc9:c≤9:=(by decide:∀ c∈([0,0,1,2,3,4,4,5,5,6,7,8,9]:List Nat),c≤9) c hc
   refine⟨_,rfl,p3',_,_,_,rfl,rfl,SqL.of upd_same,ec,?_⟩
   refine⟨Nat.zero_le _,fun p4 g4=>⟨(by show 1≤sizeLine; decide),fun p5 g5=>?_⟩⟩
   obtain⟨S4,t4⟩:=bH (K:=K) (ts:=[]) g4 (bM.mpr rfl)
   obtain⟨S5,t5⟩:=bH (K:=K) g5 (cV t4)
   have D5:=((D1.same (same_new hp3 _)).same S4).same S5
   refine⟨_,rfl,_,rfl,rfl,.inr ⟨_,rfl,?_⟩⟩
   refine⟨_,rfl,p,4,rfl,by decide,D5.dH,fun i6 H6 i60 i61 D6=>?_⟩
   have hone:∃ o:Nat,(if decide (V.int (c:Int)=V.int 9)=true then (1:Int) else 0)=(o:Int)∧o≤1∧(c≠9→o=0):=by
    split
    ·rename_i hz
     have:=V.int.inj (of_decide_eq_true hz)
     exact⟨1,rfl,by lia,fun z=>by lia⟩
    ·exact⟨0,rfl,by lia,fun _=>rfl⟩
   obtain⟨o,eo,ho,ho9⟩:=hone
   rw [eo]
   refine⟨_,_,rfl,rfl,.inl ⟨by lia,by lia⟩,_,_,rfl,rfl,?_⟩
   have hle:∃ l:Nat,(c:Int)+(o:Int) * i6=(l:Int)∧l≤12∧c≤l∧(c≠9→l=c):=by
    rcases (by lia:o=0∨o=1) with rfl | rfl
    ·exact⟨c,by lia,by lia,by lia,fun _=>rfl⟩
    ·exact⟨(c+i6).toNat,by lia,by lia,by lia,fun z=>absurd (ho9 z) (by decide)⟩
   obtain⟨l,el,hl,hcl,hl9⟩:=hle
   refine Xg (k:=(c:Int)+(o:Int) * i6) l (t5.mono (D6.kt D5.dH)) rfl (by lia) (by lia) (by lia) (fun y7 H7 S7 t7=>?_)
   have D7:=(D5.trans D6).same S7
   have b7:B 1 13 (Ek l):=(afq l).le (by lia) (by lia)
   dsimp only [gName]
   refine adC (fun σ' H'=>∃ (as:List T) (y:V) (o5:Option V),σ'=[some (.ref p),some (.int (d:Int)),some (.int m),some (.int (c:Int)),some y,o5]∧Dr p H H'∧TR K H' (.node as) y∧B 3 26 (.node as)∧as.length=l) (fun σ8 H8 h8=>?_) (fun N hN=>?_)
   rotate_left
   ·dsimp only [tIfS]
    refine⟨_,rfl,p,6,rfl,by decide,D7.dH,fun i8 H8 _ _ D8=>⟨rfl,_,rfl,ite2 (fun _=>?_) (fun _=>?_)⟩⟩
    rotate_left
    ·exact iteF (hN _ _ ⟨_,y7,_,rfl,D7.trans D8,t7.mono (D8.kt D7.dH),b7.le (by lia) (by lia),List.length_replicate⟩)
    refine⟨_,rfl,_,_,rfl,rfl,_,rfl,ite2 (fun hb=>?_) (fun _=>?_)⟩
    rotate_left
    ·exact hN _ _ ⟨_,y7,_,rfl,D7.trans D8,t7.mono (D8.kt D7.dH),b7.le (by lia) (by lia),List.length_replicate⟩
    have hc0:0<c:=by have:=of_decide_eq_true hb; lia
    refine⟨_,rfl,_,rfl,p,c,rfl,by lia,D8.dH,fun i9 H9 i90 i91 D9=>?_⟩
    obtain⟨j,rfl⟩:∃ j:Nat,i9=(j:Int):=⟨i9.toNat,by lia⟩
    have D89:=D8.trans D9
    refine⟨_,rfl,_,rfl,_,rfl,nTo (t7.mono (D89.kt D7.dH)) j (fun y10 H10 S10 t10=>?_)⟩
    have D10:=D89.same S10
    refine⟨_,rfl,p,2,rfl,by decide,D10.dH,fun y11 u11 H11 D11 t11 s11=>⟨(by show 1≤sizeLine; decide),fun p12 g12=>?_⟩⟩
    obtain⟨S12,t12⟩:=bH (K:=K) g12 (cV t11)
    have D12:=(D10.trans D11).same S12
    refine bV (t10.mono ((D11.kt D10.dH).trans (.of S12))) t12 (small (by have:=b7.len; rw [List.length_take]; show _+1≤_; lia)) (fun y13 H13 S13 t13=>?_)
    have D13:=D12.same S13
    refine⟨_,rfl,_,rfl,_,_,rfl,rfl,_,rfl,gH (t7.mono (D13.kt D7.dH)) (j+1) (fun y14 H14 S14 t14=>?_)⟩
    refine bV (t13.mono (.of S14)) t14 (small (by have:=b7.len; rw [List.length_append,List.length_take,List.length_drop]; show _+1+_≤_; lia)) (fun y15 H15 S15 t15=>?_)
    exact hN _ _ ⟨_,y15,_,rfl,((D7.trans D13).same S14).same S15,t15,(ajB j b7 s11.1.b).le (by lia) (by lia),by rw [List.length_append,List.length_append,List.length_take,List.length_drop,List.length_singleton,List.length_replicate]; lia⟩
   obtain⟨as,y8,o5,rfl,D8,t8,b8,la⟩:=h8
   have hk8:=D8.dH
   refine⟨_,rfl,rfl,_,rfl,ite2 (fun hb=>?_) (fun hb4=>?_)⟩
   ·refine⟨Nat.zero_le _,fun p1 hp1=>⟨(by show 1≤sizeLine; decide),fun p2' hp2=>?_⟩⟩
    obtain⟨S1,t1⟩:=bH (K:=K) (ts:=[]) hp1 (bM.mpr rfl)
    obtain⟨S2,t2⟩:=bH (K:=K) hp2 (cV t1)
    have D2:=(D8.same S1).same S2
    refine⟨_,rfl,p,3,rfl,by decide,D2.dH,fun y t H3 D3 ht hs=>?_⟩
    cases t with
    | node us =>
     have b:=Kz hs.1.b (Qz Hf)
     refine bV (t2.mono (D3.kt D2.dH)) ht (small (by have:=hs.1.b.len; rw [List.length_singleton]; lia)) (fun z H4 S4 t4=>?_)
     exact q _ _ _ ((D2.trans D3).same S4) t4 ⟨b.le (by lia) (by lia),aio (us:=us) (by have:=hs.1.b.2; lia)⟩
   try dsimp only [tNext,tSeq,tIfS]
   refine acL (fun R r=>⟨_,rfl,rfl,_,rfl,r⟩) (fun R r=>⟨_,rfl,_,_,rfl,rfl,_,rfl,r⟩) ?_
   refine ite2 (fun hb=>?_) (fun _=>?_)
   ·have hd0:0<d:=by
     have:=of_decide_eq_true (Bool.and_eq_true _ _ ▸ hb).2
     lia
    obtain⟨e,rfl⟩:∃ e,d=e+1:=⟨d - 1,by lia⟩
    have pe:pw5 (e+1)=62+6 * pw5 e:=rfl
    refine⟨_,rfl,_,rfl,_,rfl,_,_,rfl,rfl,p,e,3,Tc p e,by lia,by decide,hk8,fun y3 u3 H3 D3 t3 s3 l3=>⟨(by show 2≤sizeLine; decide),fun p4 hp4=>?_⟩⟩
    obtain⟨S4,t4⟩:=bH (K:=K) hp4 (k_ (t8.mono (D3.kt hk8)) t3)
    have D4:=(D8.trans D3).same S4
    refine⟨_,rfl,_,rfl,_,_,rfl,rfl,p,e,3,Tc p e,by lia,by decide,D4.dH,fun y5 u5 H5 D5 t5 s5 l5=>?_⟩
    cases u5 with
    | node us =>
     have b3:B (4+2 * e+1) (1+3 * pw5 e) u3:=by rw [← h_ u3]; exact G9 (fun w hw=>(s3 w hw).1) l3
     have b5:B (4+2 * e+1) (1+3 * pw5 e) (.node us):=G9 (fun w hw=>(s5 w hw).1) l5
     have b:=Kz b5 (gj b8 (Qz b3))
     have hl:us.length≤3:=l5
     refine bV (t4.mono (D5.kt D4.dH)) t5 (small (by show 2+us.length≤_; lia)) (fun z H6 S6 t6=>?_)
     have c7:c=7:=by have:=V.int.inj (of_decide_eq_true (Bool.and_eq_true _ _ ▸ hb).1); lia
     exact q _ _ _ ((D4.trans D5).same S6) t6 ⟨b.le (by lia) (by lia),agL (by rw [la,hl9 (by lia)]; exact c7) (fun v hv=>(s3 v hv).2) (fun v hv=>(s5 v hv).2) l3 hl⟩
   try dsimp only [tNext,tSeq,tIfS]
   refine acL (fun R r=>⟨_,rfl,rfl,_,rfl,r⟩) (fun R r=>⟨_,rfl,_,_,rfl,rfl,_,rfl,r⟩) ?_
   refine ite2 (fun hb=>?_) (fun _=>?_)
   ·have hd0:0<d:=by
     have:=of_decide_eq_true (Bool.and_eq_true _ _ ▸ hb).2
     lia
    obtain⟨e,rfl⟩:∃ e,d=e+1:=⟨d - 1,by lia⟩
    have pe:pw5 (e+1)=62+6 * pw5 e:=rfl
    refine⟨_,rfl,(by show 1≤sizeLine; decide),fun p4 hp4=>?_⟩
    obtain⟨S4,t4⟩:=bH (K:=K) hp4 (cV t8)
    have D4:=D8.same S4
    refine⟨_,rfl,_,rfl,_,_,rfl,rfl,p,e,3,Tc p e,by lia,by decide,D4.dH,fun y5 u5 H5 D5 t5 s5 l5=>?_⟩
    cases u5 with
    | node us =>
     have b5:B (4+2 * e+1) (1+3 * pw5 e) (.node us):=G9 (fun w hw=>(s5 w hw).1) l5
     have b:=Kz b5 (Qz b8)
     have hl:us.length≤3:=l5
     refine bV (t4.mono (D5.kt D4.dH)) t5 (small (by show 1+us.length≤_; lia)) (fun z H6 S6 t6=>?_)
     have aoV:(T.node us).parts≤185:=by
      have e0:e=0:=by lia
      have h:=b5.2
      rw [e0] at h
      exact Nat.le_trans h (by decide)
     have c8:c=8:=by have:=V.int.inj (of_decide_eq_true (Bool.and_eq_true _ _ ▸ hb).1); lia
     exact q _ _ _ ((D4.trans D5).same S6) t6 ⟨b.le (by lia) (by lia),ae1 (us:=us) (by rw [la,hl9 (by lia)]; exact c8) (fun v hv=>(s5 v hv).2) hl aoV⟩
   refine⟨_,rfl,(by show 1≤sizeLine; decide),fun p4 hp4=>?_⟩
   obtain⟨S4,t4⟩:=bH (K:=K) hp4 (cV t8)
   have D4:=D8.same S4
   refine⟨_,rfl,p,rfl,D4.dH,fun y5 u5 H5 D5 t5 s5=>?_⟩
   cases u5 with
   | node us =>
    have b:=Kz s5.1.b (Qz b8)
    refine bV (t4.mono (D5.kt D4.dH)) t5 (small (by have:=s5.1.b.len; rw [List.length_singleton]; lia)) (fun z H6 S6 t6=>?_)
    have c0:c≠0:=fun z=>hb4 (by rw [z]; exact decide_eq_true rfl)
    exact q _ _ _ ((D4.trans D5).same S6) t6 ⟨b.le (by lia) (by lia),agK (us:=us) (by lia) (by have:=s5.1.b.2; lia) s5.2⟩
  refine⟨wd,?_⟩
  have ZV:=wd
  have d7:=vN.mono (show 31≤2 * n+38 by lia)
  refine okQ (k:=2 * n+38) kJ Ig (fun vs H Q E h=>?_) (fun cdv A outer s H vs Q E hr h=>?_)
  ·obtain⟨p,d,m,rfl,_⟩:=h; rfl
  obtain⟨p,d,m,rfl,hd,hm,hk,q⟩:=h
  refine⟨_,(aA (aO (kI gR rfl dM pA (aj (Ft rfl (rN (fr:=["_law_deck_here","_law_deep"]) (js:=[0,1]) (sc:=defScope j_) rfl rfl rfl (by decide +kernel) (by decide +kernel) (by decide +kernel) (by decide +kernel) (by exact⟨⟨rfl,rfl,rfl⟩,⟨⟨rfl,rfl,rfl⟩,trivial⟩⟩) (by decide +kernel) (fun y hy=>cell_has hy)) (qJ rfl eO (aj (aJ d7 hr rfl eU eY.kp eX .nil pass0 (aj (qv 0) (aj (aV op_add (qv 2) au) ak))) ak)) (fun _ _ _ _ _=>(aJ ZV hr rfl Zw DQ.kp ZJ .nil pass0 (aj (qv 1) (aj (qv 2) ak))))) ak)))),?_⟩
  refine⟨_,rfl,_,rfl,_,_,rfl,rfl,p,(m:Int)+1,rfl,by lia,hk,fun i H1 hm0 hm1 D1=>⟨i,rfl,by lia,by lia,?_⟩⟩
  refine R0 (K:=K) (acj d) D1.dH (small (by lia)) (fun i H' R hi Dh hR=>?_) (fun D ys ts H' Dh hl hlen htr hsh=>?_)
  ·exact⟨_,rfl,_,rfl,p,d,rfl,hd,Dh.dH,fun y t H3 D3 ht hs=>hR y t H3 D3 ht hs⟩
  refine⟨D,ys,rfl,.inl ⟨SqL.of hl,fun p5 hp5=>?_⟩⟩
  obtain⟨S5,t5⟩:=bH (K:=K) hp5 htr
  exact q _ _ _ ((D1.trans Dh).same S5) t5 hsh (by show ts.length≤m; lia)
end
section
variable {P:Program}{w:World}{K:PySem.W.Frag}{mg:Str→Option Value}{base:Heap}{f:Addr}{fd:FuncData}
def aaU (K:PySem.W.Frag) (H:Hp) (x:V) (n:Nat) (p:Addr):Nat→Sg→Hp→Prop:=fun m σ H'=>∃ (ys:List V) (ts:List T) (c:Nat),
 σ=[some x,some (.int (c:Int)),some (.ref p)]∧Same H H'∧H' p=some (.lst ys)∧TRs K H' ts ys∧c+T.aH ts=n∧m=T.aH ts
theorem YM {K:PySem.W.Frag}{H:Hp}{t u:T}{x:V} (h:TR K H (.node [t,u]) x):∃ a y z,x=.ref a∧SqT K H a [y,z]∧TR K H t y∧TR K H u z:=by
 obtain⟨a,xs,rfl,ha,ra⟩:=bW.mp h
 obtain⟨y,ys,rfl,hy,r2⟩:=cH.mp ra
 obtain⟨z,zs,rfl,hz,r3⟩:=cH.mp r2
 obtain rfl:=bM.mp r3
 exact⟨a,y,z,rfl,ha,hy,hz⟩
def aan (K:PySem.W.Frag):Sp:=fun vs H Q _=>∃ x tx s,vs=[x]∧TR K H (.node [.node tx,.node s]) x∧tx≠[]∧BX tx∧B 390 8000000 (.node s)∧∀ H',Same H H'→Q (.int (jf (tx,s):Nat)) H'
def aaj (K:PySem.W.Frag):Sp:=fun vs H Q _=>∃ x tx s,vs=[x]∧TR K H (.node [.node tx,.node s]) x∧BX tx∧B 390 8000000 (.node s)∧∀ H',Same H H'→Q (.int ((300+ig tx s:Nat):Int)) H'
theorem zY.bx {tx s:List T} (h:zY (tx,s)):BX tx∧B 390 8000000 (.node s):=by
 obtain⟨h1,h2,h3⟩:=h
 have h3:T.aH tx+T.aH s≤7900000:=h3
 exact⟨BX.of (a:=390) (b:=8000000) ⟨h1,by rw [T.aN]; lia⟩ (by lia) (by lia),⟨h2,by rw [T.aN]; lia⟩⟩
def Vq (K:PySem.W.Frag) (H:Hp) (e:Std) (v:V):Prop:=(e.1=[]∧v=.non)∨(ats e.1 0=.node bU∧e.1≠[]∧TR K H (.node (e.2.take 2)) v)
def V4 (K:PySem.W.Frag):Sp:=fun vs H Q _=>∃ (x:V) (tx s:List T) (room n c:Nat) (e:Std),vs=[x,.int (room:Int)]∧TR K H (.node [.node tx,.node s]) x∧tx≠[]∧zY (tx,s)∧Wlk (nx (tx,s)) n c e∧n≤110∧jf (tx,s)+c≤room∧iy 150 (nx (tx,s))∧wt (nx (tx,s))+3 * c≤7900000∧(e.1=[]∨ats e.1 0=.node bU∧e.1≠[]) ∧
 ∀ b y v H',Same H H'→SqT K H' b [y,v]→TR K H' (.node [.node e.1,.node e.2]) y→Vq K H' e v→Q (.ref b) H'
def afN (K:PySem.W.Frag) (H:Hp) (room:Nat) (tx0 s0:List T) (n0:Nat) (e:Std):Nat→Sg→Hp→Prop:=fun m σ H'=>∃ (x v:V) (st:Std) (k:Nat),
 σ=[some x,some (.int (room:Int)),some (.int (k:Int)),some v]∧Same H H'∧TR K H' (.node [.node st.1,.node st.2]) x∧zY st ∧
 ((st=(tx0,s0)∧st.1≠[]∧v=.non∧k=0∧m=n0+2∧∃ c,Wlk (nx st) n0 c e∧jf st+c≤room∧iy 150 (nx st)∧wt (nx st)+3 * c≤7900000) ∨ (∃ n c,Wlk st n c e∧1≤n∧xT st∧v=.non∧k+c≤room∧m=n+1∧n≤n0∧iy (150+2 * (n0 - n)) st∧wt st+3 * c≤7900000) ∨ (st=e∧k≤room∧Vq K H' e v∧m=0))
theorem Vu {tc:TT}{tb u:TS}{D:Ends}{σ:L2.St}{H:Hp} (c:Prop) (k:∀ H',Same H H'→¬ c→u D σ H') (h:∀ N:Hp→Prop,(∀ H',Same H H'→¬ c→N H')→tc σ H fun b H1=>if b=true then tb { D with nx:=u D } σ H1 else N H1):tSeq (tIfS tc tb tNext) u D σ H:=h (fun H1=>u D σ H1) k
theorem aea (w:T) (s:List T):uL (aB w) (aZ w) (pad s (many (aB w)))=behind w s:=by
 have h9:=vR w
 by_cases h0:aB w=0
 ·rw [Gy h0,h0,show many 0=0 from rfl,dj (Nat.zero_le _)]; rfl
 by_cases h7:7≤aB w
 ·rw [zm h7,j6 (by lia)]
 rcases (by lia:aB w=1∨aB w=2∨aB w=3∨aB w=4∨aB w=5∨aB w=6) with h | h | h | h | h | h
 ·rw [Yt h,h]; rfl
 ·rw [Ys h,h,show many 2=1 from rfl]
  show ats (pad s 1) 0::pad s 1=_
  rw [Mz]; rfl
 ·rw [Yr h,h]; rfl
 ·rw [Yq h,h]; rfl
 ·rw [Tr h,h]; rfl
 ·rw [Yp h,h]; rfl
theorem Yx (s:List T):ats (pad s 1) 0=ats s 0:=by rw [Mz]; rfl
theorem aa4 {s:List T} (h:1≤s.length):s.take 1++s=ats s 0::s:=by
 cases s with
 | nil=>exact absurd h (by decide)
 | cons a s=>rfl
theorem aaI {st:Std} (h:iy 100 st∧wt st≤1400000):zY st:=⟨by have:=h.1.1; lia,by have:=h.1.2; lia,by have:=h.2; lia⟩
theorem aoJ {c:Bool}{A B:Prop} (h:c=false) (k:B):if c=true then A else B:=by subst h; exact k
def Wc (K:PySem.W.Frag):Sp:=fun vs H Q _=>∃ (xs xd:V) (many:Nat) (cs us:List T) (st due:Std),vs=[xs,xd,.int (many:Int)]∧TR K H (.node [.node st.1,.node st.2]) xs∧TR K H (.node [.node due.1,.node due.2]) xd∧many≤4∧Und cs us∧uJ many due∧Ready 300 st (fH cs us due)∧∀ H',Same H H'→Q (.bl true) H'
theorem U7 (dF:mg "len"=none)
  (F:Fun K "_law_first" "_law_first" eG f fd):FnOk P w K mg base CX0 31 f fd ["_law_tree_here"] (tL K):=by
 refine okQ F Uz (fun vs H Q E h=>?_) (fun cdv A outer s H vs Q E hr h=>?_)
 ·obtain⟨x,t,rfl,_⟩:=h
  rfl
 obtain⟨x,t,rfl,ht,q⟩:=h
 refine⟨_,(aq (bC (aQ op_eq (cY call_len_seq rfl dF oH (aj (qv 0) ak)) au (nomark _)) (aA (aO (aP ak))) aX)
   (aA (aO (bK bF (qv 0) au (fun _ _=>rfl))))),?_⟩
 cases t with
 | node ts =>
 obtain⟨a,xs,rfl,ha,ra⟩:=bW.mp ht
 have hl:=ra.length
 refine⟨_,rfl,a,xs,rfl,.inr ha,rfl,_,rfl,ite2 (fun hb=>?_) (fun hb=>?_)⟩
 ·have h0:xs.length=0:=by have:=V.int.inj (of_decide_eq_true hb); lia
  have e:ts=[]:=List.length_eq_zero_iff.mp (by lia)
  subst e
  exact⟨Nat.zero_le _,fun p hp=>q _ _ (same_new hp _) (fO upd_same)⟩
 ·cases ts with
  | nil=>exact absurd (decide_eq_true (by rw [hl]; rfl)) hb
  | cons u us=>exact⟨_,rfl,cQ ht 0 rfl (fun z tz=>q _ _ (Same.refl _) tz)⟩
theorem U6 (dF:mg "len"=none)
  (F:Fun K "_law_parts" "_law_parts" jz f fd):FnOk P w K mg base CX0 31 f fd ["_law_tree_here"] (zK K):=by
 refine okQ F tG (fun vs H Q E h=>?_) (fun cdv A outer s H vs Q E hr h=>?_)
 ·obtain⟨x,t,rfl,_⟩:=h
  rfl
 obtain⟨x,t,rfl,ht,hz,q⟩:=h
 refine⟨_,(aq (bA (i:=1) tG.nd rfl (Or.inl rfl) au)
   (aq (bA (i:=2) tG.nd rfl (Or.inl rfl) (pI (aj (qv 0) ak)))
   (aq (tQ PassesOwn.never (aQ Fz (cY call_len_seq rfl dF oH (aj (qv 2) ak)) au (nomark _)) (aq (bA (i:=1) tG.nd rfl (Or.inl rfl) (aV op_add (qv 1) au))
   (aA (cZ (gQ PySem.F.plainAttrs_list PySem.F.slot_list_extend PySem.F.type_list_extend RL (qv 2) (aj (qM PySem.F.plainAttrs_list PySem.F.slot_list_pop PySem.F.type_list_pop sS (qv 2)) ak))))))
   (aA (aO (qv 1)))))),?_⟩
 refine⟨_,rfl,(by show 1≤sizeLine; decide),fun p hp=>?_⟩
 refine⟨aaU K H x t.parts p,⟨_,[x],[t],0,rfl,same_new hp _,upd_same,cH.mpr ⟨x,[],rfl,ht.mono (Kt.new hp),bM.mpr rfl⟩,by rw [T.aF,T.aY]; lia,rfl⟩,?_⟩
 rintro m σ H' ⟨ys,ts,c,rfl,S,hl,htr,hc,rfl⟩
 refine⟨_,rfl,p,ys,rfl,.inl (SqL.of hl),_,_,rfl,rfl,_,rfl,?_⟩
 refine ite2 (fun hb=>?_) (fun hb=>?_)
 ·have hne:ys≠[]:=by rintro rfl; exact absurd hb (by decide)
  obtain⟨y,hy⟩:=aaG hne
  obtain⟨u,hu,hyu⟩:=htr.get hy
  rw [htr.length] at hu
  obtain⟨a,zs,rfl,h1,h2⟩:=Ca hyu
  have hpl:=T.BK hu
  refine⟨fun σ' H'=>∃ m',m'<T.aH ts∧aaU K H x t.parts p m' σ' H',fun _ _ h=>h,?_⟩
  refine⟨_,rfl,_,_,rfl,rfl,?_⟩
  refine⟨_,rfl,.inl ⟨rfl,_,SqL.of hl⟩,_,rfl,.inl ⟨rfl,_,SqL.of hl⟩,p,ys,_,rfl,rfl,hl,hy,?_⟩
  have hk:=T.cI u
  have akb:=T.cL ts.dropLast
  have hlen2:=T.cL u.kids
  have e1:=htr.dropLast.length
  have e2:=h2.length
  refine⟨p,a,ys.dropLast,zs,rfl,rfl,upd_same,gW (Kt.lst hl) h1,cR (by lia),?_⟩
  refine⟨_,?_,ys.dropLast++zs,ts.dropLast++u.kids,c+1,rfl,?_,upd_same,?_,?_,rfl⟩
  ·rw [T.b_]
   lia
  ·rw [Ea]
   exact gB S hp
  ·rw [Ea]
   exact (htr.dropLast.append h2).mono (Kt.lst hl)
  ·rw [T.b_]
   lia
 ·have hys:ys=[]:=by
   cases ys with
   | nil=>rfl
   | cons y ys=>exact absurd (decide_eq_true (by show (0:Int)<(((y::ys).length:Nat):Int); rw [List.length_cons]; lia)) hb
  subst hys
  have hts:ts=[]:=List.length_eq_zero_iff.mp htr.length.symm
  subst hts
  rw [T.aY] at hc
  have e:(c:Int)=(t.parts:Int):=by lia
  refine⟨_,rfl,?_⟩
  show Q (.int (c:Int)) H'
  rw [e]
  exact q _ S
theorem WY (dF:mg "len"=none)
  (F:Fun K "_law_wide" "_law_wide" nH f fd):FnOk P w K mg base CX0 31 f fd ["_law_stack_here","_law_sort_here"] (aae K):=by
 refine okQ F Wr (fun vs H Q E h=>?_) (fun cdv A outer s H vs Q E hr h=>?_)
 ·obtain⟨x,s1,k,rfl,_⟩:=h
  rfl
 obtain⟨x,s1,k,rfl,hx,hl,hk,q⟩:=h
 refine⟨_,(aA (aO (aV bf (qv 0) (aV o7 (aP (aj (aP ak) ak)) (aV op_sub (bK ix_list (pI (aj au (aj au (aj au (aj au (aj au (aj au (aj au (aj au (aj au (aj au ak))))))))))) (qv 1) (fun _ _=>rfl)) (cY call_len_seq rfl dF oH (aj (qv 0) ak))))))),?_⟩
 refine⟨_,rfl,Nat.zero_le _,fun p1 g1=>⟨(by show 1≤sizeLine; decide),fun p2 g2=>?_⟩⟩
 obtain⟨S1,t1⟩:=bH (K:=K) (ts:=[]) g1 (bM.mpr rfl)
 obtain⟨S2,t2⟩:=bH (K:=K) g2 (cV t1)
 refine⟨(by show 10≤sizeLine; decide),fun p3 g3=>?_⟩
 have S3:=same_new g3 (.lst (([0,1,1,2,2,1,3,1,1,0]:List Nat).map fun n:Nat=>V.int (n:Int)))
 have S13:=S1.trans (S2.trans S3)
 have hx2:=hx.mono (.of S13)
 obtain⟨a,xs,rfl,ha,ra⟩:=bW.mp hx2
 have hrl:=ra.length
 have hm3:many k≤3:=(by decide:∀ k,k≤9→many k≤3) k hk
 refine⟨_,rfl,p3,_,_,_,rfl,rfl,(show SqL K _ p3 (([0,1,1,2,2,1,3,1,1,0]:List Nat).map fun n:Nat=>V.int (n:Int)) from SqL.of upd_same),aaD (ns:=[0,1,1,2,2,1,3,1,1,0]) (k:=k) (by show _<10; lia),_,rfl,a,xs,rfl,.inr ha,_,_,rfl,rfl,?_⟩
 rw [show ((([0,1,1,2,2,1,3,1,1,0]:List Nat).getD k 0:Nat):Int)=((many k:Nat):Int) from rfl]
 refine Xg (many k - s1.length) (t2.mono (.of S3)) rfl (by lia) (by lia) (by lia) (fun z H' S tz=>?_)
 exact bV (hx2.mono (.of S)) tz (cR (by rw [List.length_replicate]; lia)) (fun z4 H4 S4 t4=>q _ _ (S13.trans (S.trans S4)) t4)
theorem W0 (Kq:mg "min"=none) (dF:mg "len"=none)
  {bQ:Addr}{bO:FuncData} (dZ:Fun K "_law_first" "_law_first" eG bQ bO) (dY:FnOk P w K mg base CX0 31 bQ bO ["_law_tree_here"] (tL K)) (dX:Binds K bO ["_law_tree_here"] []) (dW:mg "_law_first"=some (.ref bQ))
  (F:Fun K "_law_sort" "_law_sort" jw f fd):FnOk P w K mg base CX0 32 f fd ["_law_stand"] (Kf K):=by
 refine okQ F Ws (fun vs H Q E h=>?_) (fun cdv A outer s H vs Q E hr h=>?_)
 ·obtain⟨x,w',ws,tx,sk,rfl,_⟩:=h
  rfl
 obtain⟨x,w',ws,tx,sk,rfl,hx,q⟩:=h
 refine⟨_,(aA (aO (cY (Us rfl) rfl Kq adM (aj (cY call_len_seq rfl dF oH (aj (aJ dY hr rfl dW dZ.kp dX .nil pass0 (aj (bK bF (bK bF (bK bF (qv 0) au (fun _ _=>rfl)) au (fun _ _=>rfl)) au (fun _ _=>rfl)) ak)) ak)) (aj au ak))))),?_⟩
 refine⟨_,rfl,cQ hx 0 rfl (fun v1 t1=>cQ t1 0 rfl (fun v2 t2=>cQ t2 0 rfl (fun v3 t3=>⟨v3,w',rfl,t3,fun y H1 S1 t4=>?_⟩)))⟩
 obtain⟨b,ys,rfl,hb',rb⟩:=bW.mp (jr t4)
 refine⟨b,ys,rfl,.inr hb',_,_,rfl,?_⟩
 rw [rb.length,show (if (9:Int)<((ats w'.kids 0).kids.length:Int) then (9:Int) else ((ats w'.kids 0).kids.length:Int))=((aB w':Nat):Int) by rw [Wd]; split <;> lia]
 exact q _ S1
theorem U5
  {bQ:Addr}{bO:FuncData} (dZ:Fun K "_law_first" "_law_first" eG bQ bO) (dY:FnOk P w K mg base CX0 31 bQ bO ["_law_tree_here"] (tL K)) (dX:Binds K bO ["_law_tree_here"] []) (dW:mg "_law_first"=some (.ref bQ))
  (F:Fun K "_law_stack" "_law_stack" lB f fd):FnOk P w K mg base CX0 32 f fd ["_law_sort_here","_law_load_here","_law_stack_here"] (V5 K):=by
 refine okQ F Uy (fun vs H Q E h=>?_) (fun cdv A outer s H vs Q E hr h=>?_)
 ·obtain⟨k,y,z,l,sk,rfl,_⟩:=h
  rfl
 obtain⟨k,y,z,l,sk,rfl,hy,hz,hk9,hl,hb,q⟩:=h
 refine⟨_,(aq (bC (aQ op_eq (qv 0) au (nomark _)) (aA (aO (aV bf (aP (aj (qv 1) ak)) (qv 2)))) aX)
   (aq (bC (aQ op_eq (qv 0) au (nomark _)) (aA (aO (bY cT (qv 2) (cM au) cN))) aX)
   (aq (bC (aQ op_eq (qv 0) au (nomark _)) (aA (aO (aV bf (bY cT (qv 2) cN (cM au)) (qv 2)))) aX)
   (aq (bC (aQ op_eq (qv 0) au (nomark _)) (aA (aO (aV bf (aP (aj (bK bF (qv 2) au (fun _ _=>rfl)) (aj (bK bF (qv 2) au (fun _ _=>rfl)) ak))) (bY cT (qv 2) (cM au) cN)))) aX)
   (aq (bC (aQ op_eq (qv 0) au (nomark _)) (aA (aO (aV bf (aP (aj (aV bf (aP (aj (bK bF (qv 2) au (fun _ _=>rfl)) ak)) (bK bF (qv 2) au (fun _ _=>rfl))) ak)) (bY cT (qv 2) (cM au) cN)))) aX)
   (aq (bC (aQ op_eq (qv 0) au (nomark _)) (aA (aO (aV bf (aP (aj (aJ dY hr rfl dW dZ.kp dX .nil pass0 (aj (bK bF (qv 2) au (fun _ _=>rfl)) ak)) (aj (bY cT (bK bF (qv 2) au (fun _ _=>rfl)) (cM au) cN) ak))) (bY cT (qv 2) (cM au) cN)))) aX)
   (aq (bC (aQ op_eq (qv 0) au (nomark _)) (aA (aO (aV bf (aP (aj (bK bF (qv 2) au (fun _ _=>rfl)) (aj (bK bF (qv 2) au (fun _ _=>rfl)) (aj (bK bF (qv 2) au (fun _ _=>rfl)) ak)))) (bY cT (qv 2) (cM au) cN)))) aX)
   (aA (aO (qv 2)))))))))),?_⟩
 have hlen:=hb.len
 refine⟨_,rfl,rfl,_,rfl,ite2 (fun h=>?_) (fun n0=>?_)⟩
 ·obtain rfl:k=0:=by have:=V.int.inj (of_decide_eq_true h); lia
  refine⟨_,rfl,(by show 1≤sizeLine; decide),fun p1 g1=>?_⟩
  obtain⟨S1,t1⟩:=bH (K:=K) g1 (cV hy)
  exact⟨_,rfl,bV t1 (hz.mono (.of S1)) (cR (by show 1+_≤_; lia)) (fun v H2 S2 t2=>q _ _ (S1.trans S2) t2)⟩
 have n0:k≠0:=fun z=>n0 (by rw [z]; exact decide_eq_true rfl)
 refine⟨_,rfl,rfl,_,rfl,ite2 (fun h=>?_) (fun n1=>?_)⟩
 ·obtain rfl:k=1:=by have:=V.int.inj (of_decide_eq_true h); lia
  exact⟨_,rfl,1,rfl,gH hz 1 (fun v H2 S2 t2=>q _ _ S2 t2)⟩
 have n1:k≠1:=fun z=>n1 (by rw [z]; exact decide_eq_true rfl)
 refine⟨_,rfl,rfl,_,rfl,ite2 (fun h=>?_) (fun n2=>?_)⟩
 ·obtain rfl:k=2:=by have:=V.int.inj (of_decide_eq_true h); lia
  have hl:1≤sk.length:=hl
  refine⟨_,rfl,1,rfl,nTo hz 1 (fun y1 H1 S1 t1=>⟨_,rfl,bV t1 (hz.mono (.of S1)) (cR (by rw [List.length_take]; lia)) (fun v H2 S2 t2=>q _ _ (S1.trans S2) ?_)⟩)⟩
  rw [aa4 hl] at t2
  exact t2
 have n2:k≠2:=fun z=>n2 (by rw [z]; exact decide_eq_true rfl)
 refine⟨_,rfl,rfl,_,rfl,ite2 (fun h=>?_) (fun n3=>?_)⟩
 ·obtain rfl:k=3:=by have:=V.int.inj (of_decide_eq_true h); lia
  have hl:2≤sk.length:=hl
  refine⟨_,rfl,cQ hz 1 (dO (by lia)) (fun v1 t1=>⟨_,rfl,cQ hz 0 (dO (by lia)) (fun v0 t0=>⟨(by show 2≤sizeLine; decide),fun p1 g1=>?_⟩)⟩)⟩
  obtain⟨S1,t2⟩:=bH (K:=K) g1 (k_ t1 t0)
  refine⟨_,rfl,2,rfl,gH (hz.mono (.of S1)) 2 (fun v4 H4 S4 t4=>bV (t2.mono (.of S4)) t4 (cR (by rw [List.length_drop]; show 2+_≤_; lia)) (fun v H2 S2 t5=>q _ _ (S1.trans (S4.trans S2)) ?_))⟩
  exact t5
 have n3:k≠3:=fun z=>n3 (by rw [z]; exact decide_eq_true rfl)
 refine⟨_,rfl,rfl,_,rfl,ite2 (fun h=>?_) (fun n4=>?_)⟩
 ·obtain rfl:k=4:=by have:=V.int.inj (of_decide_eq_true h); lia
  have hl:2≤sk.length:=hl
  have hk1:=(pP (gF hb 1)).len
  refine⟨_,rfl,cQ hz 0 (dO (by lia)) (fun v0 t0=>⟨(by show 1≤sizeLine; decide),fun p1 g1=>?_⟩)⟩
  obtain⟨S1,t1⟩:=bH (K:=K) g1 (cV t0)
  refine⟨_,rfl,cQ (hz.mono (.of S1)) 1 (dO (by lia)) (fun v1 t2=>bV t1 (jr t2) (cR (by show 1+_≤_; lia)) (fun v3 H3 S3 t3=>⟨(by show 1≤sizeLine; decide),fun p4 g4=>?_⟩))⟩
  obtain⟨S4,t4⟩:=bH (K:=K) g4 (cV t3)
  exact⟨_,rfl,2,rfl,gH (hz.mono (.of (S1.trans (S3.trans S4)))) 2 (fun v5 H5 S5 t5=>bV (t4.mono (.of S5)) t5 (cR (by rw [List.length_drop]; show 1+_≤_; lia)) (fun v H2 S2 t6=>q _ _ (S1.trans (S3.trans (S4.trans (S5.trans S2)))) t6))⟩
 have n4:k≠4:=fun z=>n4 (by rw [z]; exact decide_eq_true rfl)
 refine⟨_,rfl,rfl,_,rfl,ite2 (fun h=>?_) (fun n5=>?_)⟩
 ·obtain rfl:k=5:=by have:=V.int.inj (of_decide_eq_true h); lia
  have hl:1≤sk.length:=hl
  have bt:=gF hb 0
  refine⟨_,rfl,cQ hz 0 (dO (by lia)) (fun v0 t0=>⟨v0,ats sk 0,rfl,t0,fun y1 H1 S1 t1=>?_⟩)⟩
  refine⟨_,rfl,cQ (hz.mono (.of S1)) 0 (dO (by lia)) (fun v2 t2=>⟨1,rfl,gH (jr t2) 1 (fun y3 H3 S3 t3=>⟨(by show 2≤sizeLine; decide),fun p4 g4=>?_⟩)⟩)⟩
  obtain⟨S4,t4⟩:=bH (K:=K) g4 (k_ (t1.mono (.of S3)) t3)
  exact⟨_,rfl,1,rfl,gH (hz.mono (.of (S1.trans (S3.trans S4)))) 1 (fun v5 H5 S5 t5=>bV (t4.mono (.of S5)) t5 (cR (by rw [List.length_drop]; show 2+_≤_; lia)) (fun v H2 S2 t6=>q _ _ (S1.trans (S3.trans (S4.trans (S5.trans S2)))) t6))⟩
 have n5:k≠5:=fun z=>n5 (by rw [z]; exact decide_eq_true rfl)
 refine⟨_,rfl,rfl,_,rfl,ite2 (fun h=>?_) (fun n6=>?_)⟩
 ·obtain rfl:k=6:=by have:=V.int.inj (of_decide_eq_true h); lia
  have hl:3≤sk.length:=hl
  refine⟨_,rfl,cQ hz 2 (dO (by lia)) (fun v2 t2=>⟨_,rfl,cQ hz 0 (dO (by lia)) (fun v0 t0=>⟨_,rfl,cQ hz 1 (dO (by lia)) (fun v1 t1=>⟨(by show 3≤sizeLine; decide),fun p1 g1=>?_⟩)⟩)⟩)⟩
  obtain⟨S1,t3⟩:=bH (K:=K) g1 (ahb t2 t0 t1)
  exact⟨_,rfl,3,rfl,gH (hz.mono (.of S1)) 3 (fun v4 H4 S4 t4=>bV (t3.mono (.of S4)) t4 (cR (by rw [List.length_drop]; show 3+_≤_; lia)) (fun v H2 S2 t5=>q _ _ (S1.trans (S4.trans S2)) t5))⟩
 have n6:k≠6:=fun z=>n6 (by rw [z]; exact decide_eq_true rfl)
 rw [zm (show 7≤k by lia)] at q
 exact⟨_,rfl,q _ _ (Same.refl _) hz⟩
theorem RD
  {gO:Addr}{gK:FuncData} (tE:Fun K "_law_sort" "_law_sort" jw gO gK) (tD:FnOk P w K mg base CX0 33 gO gK ["_law_stand"] (Kf K)) (sZ:Binds K gK ["_law_stand"] []) (sU:mg "_law_sort"=some (.ref gO))
  {Dq:Addr}{CZ:FuncData} (Z5:Fun K "_law_wide" "_law_wide" nH Dq CZ) (ZW:FnOk P w K mg base CX0 33 Dq CZ ["_law_stack_here","_law_sort_here"] (aae K)) (ZK:Binds K CZ ["_law_stack_here","_law_sort_here"] []) (Zx:mg "_law_wide"=some (.ref Dq))
  {bQ:Addr}{bO:FuncData} (dZ:Fun K "_law_first" "_law_first" eG bQ bO) (dY:FnOk P w K mg base CX0 33 bQ bO ["_law_tree_here"] (tL K)) (dX:Binds K bO ["_law_tree_here"] []) (dW:mg "_law_first"=some (.ref bQ))
  {Bk:Addr}{Ar:FuncData} (Za:Fun K "_law_stack" "_law_stack" lB Bk Ar) (Y5:FnOk P w K mg base CX0 33 Bk Ar ["_law_sort_here","_law_load_here","_law_stack_here"] (V5 K)) (Yw:Binds K Ar ["_law_sort_here","_law_load_here","_law_stack_here"] []) (Xl:mg "_law_stack"=some (.ref Bk))
  (F:Fun K "_law_behind" "_law_behind" gP f fd):FnOk P w K mg base CX0 34 f fd ["_law_stand"] (xH K):=by
 refine okQ F jh (fun vs H Q E h=>?_) (fun cdv A outer s H vs Q E hr h=>?_)
 ·obtain⟨x,tx,sk,rfl,_⟩:=h
  rfl
 obtain⟨x,tx,sk,rfl,hx,hne,bx,bs,q⟩:=h
 have hE:=hr.un
 have hE:(A.deeper (envOfC "_law_behind" (defScope gP) s.heap.objs.size f cdv)).units+401<cLine:=by lia
 refine⟨_,(aq (Ik (qv 0) (PL rfl (qK (lZ (i:=1) jh.nd rfl (Or.inl rfl)) (qK (lZ (i:=2) jh.nd rfl (Or.inl rfl)) Kh))))
   (aq (bC (aQ (uE hE) (bK bF (qv 1) au (fun _ _=>rfl)) (aP ak) (nomark _)) (aA (aO (aP (aj (bY cT (qv 1) (cM au) cN) (aj (qv 2) ak))))) aX)
   (aq (bA (i:=3) jh.nd rfl (Or.inl rfl) (aJ tD hr rfl sU tE.kp sZ .nil pass0 (aj (qv 0) ak)))
   (aq (bA (i:=4) jh.nd rfl (Or.inl rfl) (bY cT (bK bF (bK bF (qv 1) au (fun _ _=>rfl)) au (fun _ _=>rfl)) (cM au) cN))
   (aq (bA (i:=2) jh.nd rfl (Or.inl rfl) (aJ ZW hr rfl Zx Z5.kp ZK .nil pass0 (aj (qv 2) (aj (qv 3) ak))))
   (aq (bA (i:=5) jh.nd rfl (Or.inl rfl) (aV bf (aP (aj (bY cT (bK bF (qv 1) au (fun _ _=>rfl)) (cM au) cN) ak)) (bY cT (qv 1) (cM au) cN)))
   (aq (bC (QW.pt (qI (aQ op_eq (qv 3) au (nomark _)) (pY (aQ (uD hE) (bK bF (qv 2) au (fun _ _=>rfl)) (aP ak) (nomark _))))) (aA (aO (aP (aj (aV bf (aP (aj (aJ dY hr rfl dW dZ.kp dX .nil pass0 (aj (qv 4) ak)) ak)) (qv 5)) (aj (qv 2) ak))))) aX)
   (aq (bC (aQ op_eq (qv 3) au (nomark _)) (aA (aO (aP (aj (aV bf (aP (aj (bY cT (qv 4) (cM au) cN) ak)) (qv 5)) (aj (qv 2) ak))))) aX)
   (aq (bC (QW.pt (qI (aQ op_eq (qv 3) au (nomark _)) (pY (aQ (uD hE) (bK bF (qv 2) au (fun _ _=>rfl)) (aP ak) (nomark _))))) (aA (aO (aP (aj (aV bf (aP (aj (qv 4) ak)) (qv 1)) (aj (qv 2) ak))))) aX)
   (aA (aO (aP (aj (qv 5) (aj (aJ Y5 hr rfl Xl Za.kp Yw .nil pass0 (aj (qv 3) (aj (qv 4) (aj (qv 2) ak)))) ak)))))))))))))),?_⟩
 obtain⟨ax,x1,x2,rfl,ha,t1,t2⟩:=YM hx
 have hsl:=bs.len
 have hxl:=bx.1
 have b0:=bx.ats
 have hpos:0<tx.length:=List.length_pos_iff.mpr hne
 refine⟨_,rfl,ax,[x1,x2],rfl,ha,rfl,_,_,rfl,_,_,rfl,rfl,?_⟩
 refine⟨_,rfl,cQ t1 0 (dO hpos) (fun v0 t0=>⟨Nat.zero_le _,fun p1 g1=>⟨ats tx 0,leaf,t0.mono (.new g1),fO upd_same,by have:=b0.1; lia,_,rfl,ite2 (fun hb=>?_) (fun hb=>?_)⟩⟩)⟩
 ·have e:=(T.beq_iff _ _).mp hb
  rw [agp (by rw [e]; rfl)] at q
  refine⟨_,rfl,1,rfl,gH (t1.mono (.new g1)) 1 (fun z H3 S3 t4=>⟨_,rfl,(by show 2≤sizeLine; decide),fun p5 g5=>?_⟩)⟩
  obtain⟨S5,t5⟩:=bH (K:=K) g5 (k_ t4 (t2.mono (.of ((same_new g1 _).trans S3))))
  exact q _ _ ((same_new g1 _).trans (S3.trans S5)) t5
 have S1:=same_new g1 (.tup [])
 cases tx with
 | nil=>exact absurd rfl hne
 | cons tq ts =>
 cases tq with
 | node us0 =>
 cases us0 with
 | nil=>exact absurd (T.pB _) hb
 | cons w' ws =>
 have bw:B 390 8000000 w':=Kw (pP b0) List.mem_cons_self
 refine⟨_,rfl,_,w',ws,ts,sk,rfl,hx.mono (.of S1),fun H2 S2=>?_⟩
 have S12:=S1.trans S2
 refine⟨_,rfl,cQ (t1.mono (.of S12)) 0 rfl (fun v3 t3=>cQ t3 0 rfl (fun v4 t4=>⟨1,rfl,gH (jr t4) 1 (fun v5 H5 S5 t5=>?_)⟩))⟩
 have S15:=S12.trans S5
 have hs9:=vR w'
 refine⟨_,rfl,_,rfl,x2,sk,aB w',rfl,t2.mono (.of S15),by lia,hs9,fun v6 H6 S6 t6=>?_⟩
 have S16:=S15.trans S6
 refine⟨_,rfl,cQ (t1.mono (.of S16)) 0 rfl (fun v7 t7=>⟨1,rfl,gH (jr t7) 1 (fun v8 H8 S8 t8=>⟨(by show 1≤sizeLine; decide),fun p9 g9=>?_⟩)⟩)⟩
 obtain⟨S9,t9⟩:=bH (K:=K) g9 (cV t8)
 have S19:=S16.trans (S8.trans S9)
 have arb:ts.length+1≤8000000:=hxl
 refine⟨_,rfl,1,rfl,gH (t1.mono (.of S19)) 1 (fun v10 H10 S10 t10=>bV (t9.mono (.of S10)) t10 (cR (by show 1+ts.length≤_; lia)) (fun v11 H11 S11 t11=>?_))⟩
 have afi:=S8.trans (S9.trans (S10.trans S11))
 have YS:=S16.trans afi
 have t5':=t5.mono (.of (S6.trans afi))
 have t6':=t6.mono (.of afi)
 have t11:TR K H11 (.node (.node ws::ts)) v11:=t11
 have ow:=gG (w:=w') (ws:=ws) (ts:=ts) (s:=sk)
 have bpd:=G_ (many (aB w')) ((by decide:∀ k,k≤9→many k≤3) _ hs9) (by lia) bs
 have wb:=aea w' sk
 dsimp only [gName]
 refine Vu (aB w'=7∧(ats sk 0).kids≠[]) (fun H12 yM c1=>?_) (fun N hN=>?_)
 rotate_left
 ·refine⟨_,rfl,rfl,_,rfl,ite2 (fun h7=>?_) (fun h7=>?_)⟩
  rotate_left
  ·exact iteF (hN _ (Same.refl _) (fun z=>h7 (by rw [z.1]; exact decide_eq_true rfl)))
  have h7:aB w'=7:=by have:=V.int.inj (of_decide_eq_true h7); lia
  have e0:many (aB w')=1:=by rw [h7]; rfl
  rw [e0] at t6' bpd
  refine⟨_,rfl,cQ t6' 0 (dO (zy _ _)) (fun v12 t12=>⟨Nat.zero_le _,fun p13 g13=>⟨_,leaf,t12.mono (.new g13),fO upd_same,by have:=(gF bpd 0).1; lia,_,rfl,?_⟩⟩)⟩
  rw [Yx,lE]
  by_cases ht:(ats sk 0).kids=[]
  ·rw [decide_eq_true ht]
   exact iteF (hN _ (same_new g13 _) (fun z=>z.2 ht))
  rw [decide_eq_false ht]
  refine iteT ?_
  have S13:=same_new g13 (.tup [])
  refine⟨_,rfl,v5,aZ w',rfl,t5'.mono (.of S13),fun v14 H14 S14 t14=>⟨(by show 1≤sizeLine; decide),fun p15 g15=>?_⟩⟩
  obtain⟨JT,t15⟩:=bH (K:=K) g15 (cV t14)
  have vL:=S13.trans (S14.trans JT)
  refine⟨_,rfl,bV t15 (t11.mono (.of vL)) (cR (by show 1+(ts.length+1)≤_; lia)) (fun v16 H16 JR t16=>⟨_,rfl,(by show 2≤sizeLine; decide),fun p17 g17=>?_⟩)⟩
  obtain⟨S17,t17⟩:=bH (K:=K) g17 (k_ t16 (t6'.mono (.of (vL.trans JR))))
  refine q _ _ (YS.trans (vL.trans (JR.trans S17))) ?_
  rw [ow,if_pos h7,if_pos ht,j6 (by lia),e0]
  exact t17
 refine Vu (aB w'=7) (fun H13 S13 c2=>?_) (fun N hN=>?_)
 rotate_left
 ·refine⟨_,rfl,rfl,_,rfl,ite2 (fun h7=>?_) (fun h7=>?_)⟩
  rotate_left
  ·exact hN _ (Same.refl _) (fun z=>h7 (by rw [z]; exact decide_eq_true rfl))
  have h7:aB w'=7:=by have:=V.int.inj (of_decide_eq_true h7); lia
  have e0:many (aB w')=1:=by rw [h7]; rfl
  have ht:¬ (ats sk 0).kids≠[]:=fun z=>c1 ⟨h7,z⟩
  refine⟨_,rfl,1,rfl,gH (t5'.mono (.of yM)) 1 (fun v14 H14 S14 t14=>⟨(by show 1≤sizeLine; decide),fun p15 g15=>?_⟩)⟩
  obtain⟨JT,t15⟩:=bH (K:=K) g15 (cV t14)
  have vL:=yM.trans (S14.trans JT)
  refine⟨_,rfl,bV t15 (t11.mono (.of vL)) (cR (by show 1+(ts.length+1)≤_; lia)) (fun v16 H16 JR t16=>⟨_,rfl,(by show 2≤sizeLine; decide),fun p17 g17=>?_⟩)⟩
  obtain⟨S17,t17⟩:=bH (K:=K) g17 (k_ t16 (t6'.mono (.of (vL.trans JR))))
  refine q _ _ (YS.trans (vL.trans (JR.trans S17))) ?_
  rw [ow,if_pos h7,if_neg ht,j6 (by lia)]
  rw [List.drop_drop] at t17
  exact t17
 have afj:=yM.trans S13
 refine Vu (aB w'=8∧(ats sk 0).kids≠[]) (fun H14 S14 c3=>?_) (fun N hN=>?_)
 rotate_left
 ·refine⟨_,rfl,rfl,_,rfl,ite2 (fun h7=>?_) (fun h7=>?_)⟩
  rotate_left
  ·exact iteF (hN _ (Same.refl _) (fun z=>h7 (by rw [z.1]; exact decide_eq_true rfl)))
  have h8:aB w'=8:=by have:=V.int.inj (of_decide_eq_true h7); lia
  have e0:many (aB w')=1:=by rw [h8]; rfl
  rw [e0] at t6' bpd
  refine⟨_,rfl,cQ (t6'.mono (.of afj)) 0 (dO (zy _ _)) (fun v12 t12=>⟨Nat.zero_le _,fun p13 g13=>⟨_,leaf,t12.mono (.new g13),fO upd_same,by have:=(gF bpd 0).1; lia,_,rfl,?_⟩⟩)⟩
  rw [Yx,lE]
  by_cases ht:(ats sk 0).kids=[]
  ·rw [decide_eq_true ht]
   exact iteF (hN _ (same_new g13 _) (fun z=>z.2 ht))
  rw [decide_eq_false ht]
  refine iteT ?_
  have S14:=afj.trans (same_new g13 (.tup []))
  refine⟨_,rfl,(by show 1≤sizeLine; decide),fun p15 g15=>?_⟩
  obtain⟨JT,t15⟩:=bH (K:=K) g15 (cV (t5'.mono (.of S14)))
  have vL:=S14.trans JT
  refine⟨_,rfl,bV t15 (t1.mono (.of (YS.trans vL))) (cR (by show 1+(ts.length+1)≤_; lia)) (fun v16 H16 JR t16=>⟨_,rfl,(by show 2≤sizeLine; decide),fun p17 g17=>?_⟩)⟩
  obtain⟨S17,t17⟩:=bH (K:=K) g17 (k_ t16 (t6'.mono (.of (vL.trans JR))))
  refine q _ _ (YS.trans (vL.trans (JR.trans S17))) ?_
  rw [ow,if_neg (by lia),if_pos h8,if_pos ht,j6 (by lia),e0]
  exact t17
 have aco:=afj.trans S14
 refine⟨_,rfl,_,rfl,_,rfl,_,rfl,aB w',v5,v6,aZ w',_,rfl,t5'.mono (.of aco),t6'.mono (.of aco),hs9,zy _ _,bpd.le (by lia) (by lia),fun v15 H15 JT t15=>⟨(by show 2≤sizeLine; decide),fun p17 g17=>?_⟩⟩
 obtain⟨S17,t17⟩:=bH (K:=K) g17 (k_ (t11.mono (.of (aco.trans JT))) t15)
 refine q _ _ (YS.trans (aco.trans (JT.trans S17))) ?_
 rw [wb] at t17
 rw [ow,if_neg c2]
 by_cases h8:aB w'=8
 ·rw [if_pos h8,if_neg (fun z=>c3 ⟨h8,z⟩)]
  exact t17
 ·rw [if_neg h8]
  split <;> exact t17
theorem U4
  {gO:Addr}{gK:FuncData} (tE:Fun K "_law_sort" "_law_sort" jw gO gK) (tD:FnOk P w K mg base CX0 33 gO gK ["_law_stand"] (Kf K)) (sZ:Binds K gK ["_law_stand"] []) (sU:mg "_law_sort"=some (.ref gO))
  {lV:Addr}{lM:FuncData} (vP:Fun K "_law_parts" "_law_parts" jz lV lM) (vM:FnOk P w K mg base CX0 33 lV lM ["_law_tree_here"] (zK K)) (vH:Binds K lM ["_law_tree_here"] []) (uW:mg "_law_parts"=some (.ref lV))
  {bQ:Addr}{bO:FuncData} (dZ:Fun K "_law_first" "_law_first" eG bQ bO) (dY:FnOk P w K mg base CX0 33 bQ bO ["_law_tree_here"] (tL K)) (dX:Binds K bO ["_law_tree_here"] []) (dW:mg "_law_first"=some (.ref bQ))
  (F:Fun K "_law_steps" "_law_steps" jy f fd):FnOk P w K mg base CX0 34 f fd ["_law_stand"] (aan K):=by
 refine okQ F yx (fun vs H Q E h=>?_) (fun cdv A outer s H vs Q E hr h=>?_)
 ·obtain⟨x,tx,sk,rfl,_⟩:=h
  rfl
 obtain⟨x,tx,sk,rfl,hx,hne,bx,bs,q⟩:=h
 have hE:=hr.un
 have hE:(A.deeper (envOfC "_law_steps" (defScope jy) s.heap.objs.size f cdv)).units+401<cLine:=by lia
 refine⟨_,(aq (Ik (qv 0) (PL rfl (qK (lZ (i:=1) yx.nd rfl (Or.inl rfl)) (qK (lZ (i:=2) yx.nd rfl (Or.inl rfl)) Kh))))
   (aq (bC (QW.pt (qI (aQ (uD hE) (bK bF (qv 1) au (fun _ _=>rfl)) (aP ak) (nomark _)) (pY (aQ op_eq (aJ tD hr rfl sU tE.kp sZ .nil pass0 (aj (qv 0) ak)) au (nomark _))))) (aA (aO (aJ vM hr rfl uW vP.kp vH .nil pass0 (aj (aJ dY hr rfl dW dZ.kp dX .nil pass0 (aj (qv 2) ak)) ak)))) aX)
   (aA (aO au)))),?_⟩
 obtain⟨ax,x1,x2,rfl,ha,t1,t2⟩:=YM hx
 have b0:=bx.ats
 refine⟨_,rfl,ax,[x1,x2],rfl,ha,rfl,_,_,rfl,_,_,rfl,rfl,?_⟩
 cases tx with
 | nil=>exact absurd rfl hne
 | cons tq ts =>
 cases tq with
 | node us0 =>
 cases us0 with
 | nil =>
  have d0:(T.node []).deep≤390:=b0.1
  have hc:jf (.node []::ts,sk)=1:=rfl
  rw [hc] at q
  refine⟨_,rfl,cQ t1 0 rfl (fun v0 t0=>⟨Nat.zero_le _,fun p1 g1=>⟨.node [],leaf,t0.mono (.new g1),fO upd_same,by lia,_,rfl,?_⟩⟩)⟩
  rw [lE,decide_eq_true (show (T.node []).kids=[] from rfl)]
  refine iteF (iteF ?_)
  exact q _ (same_new g1 _)
 | cons w' ws =>
  have d0:(T.node (w'::ws)).deep≤390:=b0.1
  refine⟨_,rfl,cQ t1 0 rfl (fun v0 t0=>⟨Nat.zero_le _,fun p1 g1=>⟨.node (w'::ws),leaf,t0.mono (.new g1),fO upd_same,by lia,_,rfl,?_⟩⟩)⟩
  rw [lE,decide_eq_false (show ¬ (T.node (w'::ws)).kids=[] by simp [T.kids])]
  refine iteT ?_
  have S1:=same_new g1 (.tup [])
  have hc:jf (.node (w'::ws)::ts,sk)=if aB w'=2 then (ats sk 0).parts else 1:=rfl
  refine⟨_,rfl,_,w',ws,ts,sk,rfl,hx.mono (.of S1),fun H2 S2=>⟨rfl,_,rfl,ite2 (fun h2=>?_) (fun h2=>?_)⟩⟩
  ·have h2:aB w'=2:=by have:=V.int.inj (of_decide_eq_true h2); lia
   rw [if_pos h2] at hc
   rw [hc] at q
   refine⟨_,rfl,x2,.node sk,rfl,t2.mono (.of (S1.trans S2)),fun y3 H3 S3 t3=>⟨y3,ats sk 0,rfl,t3,(gF bs 0).2,fun H4 S4=>q _ (S1.trans (S2.trans (S3.trans S4)))⟩⟩
  ·rw [if_neg (fun z=>h2 (by rw [z]; exact decide_eq_true rfl))] at hc
   rw [hc] at q
   exact q _ (S1.trans S2)
theorem W3
  {gO:Addr}{gK:FuncData} (tE:Fun K "_law_sort" "_law_sort" jw gO gK) (tD:FnOk P w K mg base CX0 33 gO gK ["_law_stand"] (Kf K)) (sZ:Binds K gK ["_law_stand"] []) (sU:mg "_law_sort"=some (.ref gO))
  {lV:Addr}{lM:FuncData} (vP:Fun K "_law_parts" "_law_parts" jz lV lM) (vM:FnOk P w K mg base CX0 33 lV lM ["_law_tree_here"] (zK K)) (vH:Binds K lM ["_law_tree_here"] []) (uW:mg "_law_parts"=some (.ref lV))
  {bQ:Addr}{bO:FuncData} (dZ:Fun K "_law_first" "_law_first" eG bQ bO) (dY:FnOk P w K mg base CX0 33 bQ bO ["_law_tree_here"] (tL K)) (dX:Binds K bO ["_law_tree_here"] []) (dW:mg "_law_first"=some (.ref bQ))
  (F:Fun K "_law_room" "_law_room" kh f fd):FnOk P w K mg base CX0 34 f fd ["_law_stand"] (aaj K):=by
 refine okQ F uP (fun vs H Q E h=>?_) (fun cdv A outer s H vs Q E hr h=>?_)
 ·obtain⟨x,tx,sk,rfl,_⟩:=h
  rfl
 obtain⟨x,tx,sk,rfl,hx,bx,bs,q⟩:=h
 have hE:=hr.un
 have hE:(A.deeper (envOfC "_law_room" (defScope kh) s.heap.objs.size f cdv)).units+401<cLine:=by lia
 refine⟨_,(aq (Ik (qv 0) (PL rfl (qK (lZ (i:=1) uP.nd rfl (Or.inl rfl)) (qK (lZ (i:=2) uP.nd rfl (Or.inl rfl)) Kh))))
   (aq (bC (QW.pt (afz (aQ (uE hE) (qv 1) (aP ak) (nomark _)) (ac6 (aQ (uE hE) (bK bF (qv 1) au (fun _ _=>rfl)) (aP ak) (nomark _))))) (aA (aO au)) aX)
   (aq (bA (i:=3) uP.nd rfl (Or.inl rfl) (aJ tD hr rfl sU tE.kp sZ .nil pass0 (aj (qv 0) ak)))
   (aq (bC (aQ op_eq (qv 3) au (nomark _)) (aA (aO (aV op_add au (aJ vM hr rfl uW vP.kp vH .nil pass0 (aj (aJ dY hr rfl dW dZ.kp dX .nil pass0 (aj (qv 2) ak)) ak))))) aX)
   (aq (bC (QW.pt (qI (aQ op_eq (qv 3) au (nomark _)) (pY (aQ (uD hE) (aJ dY hr rfl dW dZ.kp dX .nil pass0 (aj (qv 2) ak)) (aP ak) (nomark _))))) (aA (aO (aV op_add au (aJ vM hr rfl uW vP.kp vH .nil pass0 (aj (bY cT (bK bF (bK bF (qv 1) au (fun _ _=>rfl)) au (fun _ _=>rfl)) (cM au) cN) ak))))) aX)
   (aA (aO au))))))),?_⟩
 obtain⟨ax,x1,x2,rfl,ha,t1,t2⟩:=YM hx
 have b0:=bx.ats
 have dx:=bx.deep
 refine⟨_,rfl,ax,[x1,x2],rfl,ha,rfl,_,_,rfl,_,_,rfl,rfl,?_⟩
 refine⟨_,rfl,Nat.zero_le _,fun p1 g1=>⟨.node tx,leaf,t1.mono (.new g1),fO upd_same,by lia,_,rfl,?_⟩⟩
 have S1:=same_new g1 (.tup [])
 rw [lE]
 match tx with
 | [] =>
  rw [decide_eq_true (show (T.node []).kids=[] from rfl)]
  have he:ig [] sk=0:=rfl
  rw [he] at q
  refine iteT (iteT ?_)
  exact q _ S1
 | .node []::ts =>
  rw [decide_eq_false (show ¬ (T.node (.node []::ts)).kids=[] by simp [T.kids])]
  have d0:(T.node []).deep≤390:=b0.1
  refine iteF ⟨_,rfl,cQ (t1.mono (.of S1)) 0 rfl (fun v0 t0=>⟨Nat.zero_le _,fun p2 g2=>⟨.node [],leaf,t0.mono (.new g2),fO upd_same,by lia,_,rfl,?_⟩⟩)⟩
  rw [lE,decide_eq_true (show (T.node []).kids=[] from rfl)]
  have he:ig (.node []::ts) sk=0:=rfl
  rw [he] at q
  refine iteT ?_
  exact q _ (S1.trans (same_new g2 _))
 | .node (w'::ws)::ts =>
  rw [decide_eq_false (show ¬ (T.node (.node (w'::ws)::ts)).kids=[] by simp [T.kids])]
  have d0:(T.node (w'::ws)).deep≤390:=b0.1
  refine iteF ⟨_,rfl,cQ (t1.mono (.of S1)) 0 rfl (fun v0 t0=>⟨Nat.zero_le _,fun p2 g2=>⟨.node (w'::ws),leaf,t0.mono (.new g2),fO upd_same,by lia,_,rfl,?_⟩⟩)⟩
  rw [lE,decide_eq_false (show ¬ (T.node (w'::ws)).kids=[] by simp [T.kids])]
  refine iteF ?_
  have S2:=S1.trans (same_new g2 (.tup []))
  have he:ig (.node (w'::ws)::ts) sk=if aB w'=2 then (ats sk 0).parts else if aB w'=8∧(ats sk 0).kids≠[] then (aZ w').parts else 0:=rfl
  have bw:B 390 8000000 w':=Kw (pP b0) List.mem_cons_self
  refine⟨_,rfl,_,w',ws,ts,sk,rfl,hx.mono (.of S2),fun H3 S3=>?_⟩
  have S23:=S2.trans S3
  refine⟨_,rfl,rfl,_,rfl,ite2 (fun h2=>?_) (fun h2=>?_)⟩
  ·have h2:aB w'=2:=by have:=V.int.inj (of_decide_eq_true h2); lia
   rw [if_pos h2] at he
   rw [he] at q
   refine⟨_,rfl,x2,.node sk,rfl,t2.mono (.of S23),fun y4 H4 S4 t4=>⟨y4,ats sk 0,rfl,t4,(gF bs 0).2,fun H5 S5=>⟨_,_,rfl,rfl,?_⟩⟩⟩
   have:=q _ (S23.trans (S4.trans S5))
   rw [Int.natCast_add] at this
   exact this
  have h2:aB w'≠2:=fun z=>h2 (by rw [z]; exact decide_eq_true rfl)
  rw [if_neg h2] at he
  dsimp only [tNext]
  refine Vu (aB w'=8∧(ats sk 0).kids≠[]) (fun H4 S4 c1=>?_) (fun N hN=>?_)
  ·rw [if_neg c1] at he
   rw [he] at q
   exact q _ (S23.trans S4)
  ·refine⟨_,rfl,rfl,_,rfl,ite2 (fun h8=>?_) (fun h8=>?_)⟩
   rotate_left
   ·exact iteF (hN _ (Same.refl _) (fun z=>h8 (by rw [z.1]; exact decide_eq_true rfl)))
   have h8:aB w'=8:=by have:=V.int.inj (of_decide_eq_true h8); lia
   refine⟨_,rfl,x2,.node sk,rfl,t2.mono (.of S23),fun y4 H4 S4 t4=>⟨Nat.zero_le _,fun p5 g5=>⟨ats sk 0,leaf,(show TR K H4 (ats sk 0) y4 from t4).mono (.new g5),fO upd_same,by have:=(gF bs 0).1; lia,_,rfl,?_⟩⟩⟩
   rw [lE]
   by_cases ht:(ats sk 0).kids=[]
   ·rw [decide_eq_true ht]
    exact iteF (hN _ (S4.trans (same_new g5 _)) (fun z=>z.2 ht))
   rw [decide_eq_false ht]
   refine iteT ?_
   rw [if_pos ⟨h8,ht⟩] at he
   rw [he] at q
   have S45:=S23.trans (S4.trans (same_new g5 (.tup [])))
   refine⟨_,rfl,cQ (t1.mono (.of S45)) 0 rfl (fun v6 t6=>cQ t6 0 rfl (fun v7 t7=>⟨1,rfl,gH (jr t7) 1 (fun y8 H8 S8 t8=>⟨y8,aZ w',rfl,t8,(Ky bw).2,fun H9 S9=>⟨_,_,rfl,rfl,?_⟩⟩)⟩))⟩
   have:=q _ (S45.trans (S8.trans S9))
   rw [Int.natCast_add] at this
   exact this
theorem P_
  {TX:Addr}{Tj:FuncData} (ag8:Fun K "ended" "ended" ux TX Tj) (ag4:FnOk P w K mg base CX0 39 TX Tj ["stand"] (Wb K)) (agY:Binds K Tj ["stand"] []) (agD:mg "ended"=some (.ref TX))
  {Bj:Addr}{Aq:FuncData} (Y_:Fun K "_law_steps" "_law_steps" jy Bj Aq) (Y4:FnOk P w K mg base CX0 39 Bj Aq ["_law_stand"] (aan K)) (Yv:Binds K Aq ["_law_stand"] []) (Xk:mg "_law_steps"=some (.ref Bj))
  {JM:Addr}{Jq:FuncData} (ad8:Fun K "next_of" "next_of" qD JM Jq) (ad1:FnOk P w K mg base CX0 39 JM Jq ["stand"] (xH K)) (adR:Binds K Jq ["stand"] []) (ady:mg "next_of"=some (.ref JM))
  {TF:Addr}{Te:FuncData} (ag5:Fun K "shown" "shown" uw TF Te) (ag1:FnOk P w K mg base CX0 39 TF Te ["stand"] (aai K)) (agV:Binds K Te ["stand"] []) (agA:mg "shown"=some (.ref TF))
  (F:Fun K "_law_to_head" "_law_to_head" jj f fd):FnOk P w K mg base CX0 40 f fd ["_law_stand","_law_room_here"] (V4 K):=by
 refine okQ F jH (fun vs H Q E h=>?_) (fun cdv A outer s H vs Q E hr h=>?_)
 ·obtain⟨x,tx,sk,room,n,c,e,rfl,_⟩:=h
  rfl
 obtain⟨x,tx,sk,room,n,c,e,rfl,hx,hne,hok,hw,ara,hc,hd,hwt,he,q⟩:=h
 refine⟨_,(aq (bA (i:=2) jH.nd rfl (Or.inl rfl) au)
   (aq (bA (i:=3) jH.nd rfl (Or.inl rfl) qL)
   (aq (tQ PassesOwn.never (QW.pt (qI (aQ WQ (qv 3) qL (nomark _)) (qI (PJ (oA (aJ ag4 hr rfl agD ag8.kp agY .nil pass0 (aj (qv 0) ak)))) (pY (aQ afB (qv 2) (qv 1) (nomark _)))))) (aq (bA (i:=2) jH.nd rfl (Or.inl rfl) (aV op_add (qv 2) (aJ Y4 hr rfl Xk Y_.kp Yv .nil pass0 (aj (qv 0) ak))))
   (aq (bA (i:=0) jH.nd rfl (Or.inl rfl) (aJ ad1 hr rfl ady ad8.kp adR .nil pass0 (aj (qv 0) ak)))
   (aA (bA (i:=3) jH.nd rfl (Or.inl rfl) (aJ ag1 hr rfl agA ag5.kp agV .nil pass0 (aj (qv 0) ak)))))))
   (aq (bC (aQ Fz (qv 2) (qv 1) (nomark _)) (aA (aO (aP (aj (qv 0) (aj qL ak))))) aX)
   (aA (aO (aP (aj (qv 0) (aj (qv 3) ak))))))))),?_⟩
 refine⟨afN K H room tx sk n e,⟨_,x,.non,(tx,sk),0,rfl,Same.refl _,hx,hok,.inl ⟨rfl,hne,rfl,rfl,rfl,c,hw,hc,hd,hwt⟩⟩,?_⟩
 rintro m σ H' ⟨x',v,st,k,rfl,S,ht,ok,hh⟩
 obtain⟨bx,bs⟩:=zY.bx (tx:=st.1) (s:=st.2) ok
 have hh':(st.1≠[]∧v=.non∧k≤room∧∃ n' c',Wlk (nx st) n' c' e∧n'+1<m∧n'≤n∧k+jf st+c'≤room∧iy (150+2 * (n - n')) (nx st)∧wt (nx st)+3 * c'≤7900000)∨(st=e∧k≤room∧Vq K H' e v):=by
  rcases hh with⟨e1,hne',e2,e3,e4,c',g,h1,h2,h3⟩ | ⟨n',c',g,h1,h2,e2,h3,e4,h5,h6,h7⟩ | ⟨e1,h1,h2,e4⟩
  ·exact .inl ⟨hne',e2,by lia,n,c',g,by lia,Nat.le_refl _,by lia,by rw [Nat.sub_self]; exact h2,h3⟩
  ·cases g with
   | nil=>exact absurd h1 (by decide)
   | @cons _ _ n2 c2 XC hnh g' =>
    have d:=Vy (by lia) h6
    have w2:=aa2 hnh
    exact .inl ⟨XC,e2,by lia,n2,c2,g',by lia,by lia,by lia,by rw [show 150+2 * (n - n2)=150+2 * (n - (n2+1))+2 by lia]; exact d,by lia⟩
  ·exact .inr ⟨e1,h1,h2⟩
 clear hh
 rcases hh' with⟨XC,rfl,hk,n',c',g,hm,hn',hkc,hdp,aoM⟩ | ⟨rfl,hk,aic⟩
 ·refine⟨_,rfl,rfl,_,rfl,?_⟩
  rw [decide_eq_true (rfl:V.non=V.non)]
  refine iteT ⟨_,rfl,x',st.1,st.2,rfl,ht,bx,bs,fun H1 S1=>⟨_,rfl,?_⟩⟩
  rw [decide_eq_false (fun z=>XC (List.length_eq_zero_iff.mp z))]
  refine iteT ⟨_,rfl,_,rfl,_,_,rfl,rfl,_,rfl,?_⟩
  rw [decide_eq_true (show (k:Int)≤(room:Int) by lia)]
  refine iteT ⟨fun σ' H'=>∃ m',m'<m∧afN K H room tx sk n e m' σ' H',fun _ _ h=>h,?_⟩
  refine⟨_,rfl,_,rfl,x',st.1,st.2,rfl,ht.mono (.of S1),XC,bx,bs,fun H2 S2=>⟨_,_,rfl,rfl,?_⟩⟩
  refine⟨_,rfl,x',st.1,st.2,rfl,ht.mono (.of (S1.trans S2)),XC,bx,bs,fun y3 H3 S3 t3=>?_⟩
  have okn:zY (nx st):=⟨by have:=hdp.1; lia,by have:=hdp.2; lia,by lia⟩
  have S03:=S.trans (S1.trans (S2.trans S3))
  refine⟨_,rfl,y3,(nx st).1,(nx st).2,rfl,t3,okn.1,?_⟩
  cases g with
  | nil =>
   rcases he with h0 | ⟨h1,h2⟩
   ·refine .inl ⟨by unfold xT; rw [h0]; decide,fun H4 S4=>⟨0,by lia,y3,.non,nx st,k+jf st,rfl,S03.trans S4,t3.mono (.of S4),okn,.inr (.inr ⟨rfl,by lia,.inl ⟨h0,rfl⟩,rfl⟩)⟩⟩
   ·refine .inr ⟨h1,fun y4 H4 S4 t4=>⟨0,by lia,y3,y4,nx st,k+jf st,rfl,S03.trans S4,t3.mono (.of S4),okn,.inr (.inr ⟨rfl,by lia,.inr ⟨h1,h2,t4⟩,rfl⟩)⟩⟩
  | @cons _ _ n2 c2 aoQ aeX g3 =>
   refine .inl ⟨aeX,fun H4 S4=>⟨n2+1+1,by lia,y3,.non,nx st,k+jf st,rfl,S03.trans S4,t3.mono (.of S4),okn,.inr (.inl ⟨n2+1,_,Wlk.cons aoQ aeX g3,by lia,aeX,rfl,by lia,rfl,hn',hdp,aoM⟩)⟩⟩
 ·have fin:∀ H2,Same H' H2→∀ R:V→Hp→Prop,(∀ b y v H',Same H H'→SqT K H' b [y,v]→TR K H' (.node [.node st.1,.node st.2]) y→Vq K H' st v→R (.ref b) H')→∀ p:Addr,H2 p=none→R (.ref p) (upd H2 p (.tup [x',v])):=fun H2 S2 R r p hp=>by
   have S3:=S2.trans (same_new hp (.tup [x',v]))
   refine r p x' v _ (S.trans S3) (SqT.of upd_same) (ht.mono (.of S3)) ?_
   rcases aic with z | ⟨z1,z2,z3⟩
   ·exact .inl z
   ·exact .inr ⟨z1,z2,z3.mono (.of S3)⟩
  have hle:¬ ((k:Int) > (room:Int)):=by lia
  rcases id aic with⟨h0,rfl⟩ | ⟨h1,h2,tv⟩
  ·refine⟨_,rfl,rfl,_,rfl,?_⟩
   rw [decide_eq_true (rfl:V.non=V.non)]
   refine iteT ⟨_,rfl,x',st.1,st.2,rfl,ht,bx,bs,fun H1 S1=>⟨_,rfl,?_⟩⟩
   rw [decide_eq_true (show st.1.length=0 by rw [h0]; rfl)]
   refine iteF (iteF ?_)
   refine⟨_,rfl,_,rfl,_,_,rfl,rfl,_,rfl,ite2 (fun hb=>absurd (of_decide_eq_true hb) hle) (fun _=>?_)⟩
   exact⟨_,rfl,_,rfl,(by show 2≤sizeLine; decide),fun p hp=>fin H1 S1 _ q p hp⟩
  ·obtain⟨b,ys,rfl,_,_⟩:=bW.mp tv
   refine⟨_,rfl,rfl,_,rfl,?_⟩
   rw [decide_eq_false (show ¬ V.ref b=V.non from fun z=>by cases z)]
   refine iteF (iteF ?_)
   refine⟨_,rfl,_,rfl,_,_,rfl,rfl,_,rfl,ite2 (fun hb=>absurd (of_decide_eq_true hb) hle) (fun _=>?_)⟩
   exact⟨_,rfl,_,rfl,(by show 2≤sizeLine; decide),fun p hp=>fin H' (Same.refl _) _ q p hp⟩
theorem Hu (eO:mg "range"=none)
  {wL:Addr}{wF:FuncData} (Ud:Fun K "_law_to_head" "_law_to_head" jj wL wF) (T_:FnOk P w K mg base CX0 41 wL wF ["_law_stand","_law_room_here"] (V4 K)) (Tw:Binds K wF ["_law_stand","_law_room_here"] []) (RX:mg "_law_to_head"=some (.ref wL))
  {Du:Addr}{Dc:FuncData} (Z6:Fun K "_law_room" "_law_room" kh Du Dc) (ZX:FnOk P w K mg base CX0 41 Du Dc ["_law_stand"] (aaj K)) (ZL:Binds K Dc ["_law_stand"] []) (Zy:mg "_law_room"=some (.ref Du))
  {jU:Addr}{jR:FuncData} (yQ:Fun K "_law_behind" "_law_behind" gP jU jR) (yO:FnOk P w K mg base CX0 41 jU jR ["_law_stand"] (xH K)) (yL:Binds K jR ["_law_stand"] []) (yG:mg "_law_behind"=some (.ref jU))
  (F:Fun K "_law_heads_alike" "_law_heads_alike" d8 f fd):FnOk P w K mg base CX0 42 f fd ["_law_stand","_law_due","_law_many"] (Wc K):=by
 refine okQ F eZ (fun vs H Q E h=>?_) (fun cdv A outer s H vs Q E hr h=>?_)
 ·obtain⟨xs,xd,many,cs,us,st,due,rfl,_⟩:=h
  rfl
 obtain⟨xs,xd,many,cs,us,st,due,rfl,ts,td,hm,und,hg,rdy,q⟩:=h
 have hE:=hr.un
 have hE:(A.deeper (envOfC "_law_heads_alike" (defScope d8) s.heap.objs.size f cdv)).units+401<cLine:=by lia
 refine⟨_,(aq (bA (i:=3) eZ.nd rfl (Or.inl rfl) au)
   (aq (PK PassesOwn.never rfl (qJ rfl eO (aj (qv 2) ak)) (lZ (i:=4) eZ.nd rfl (Or.inl rfl)) (aq (Ik (aJ T_ hr rfl RX Ud.kp Tw .nil pass0 (aj (qv 0) (aj (qv 3) ak))) (PL rfl (qK (lZ (i:=0) eZ.nd rfl (Or.inl rfl)) (qK (lZ (i:=5) eZ.nd rfl (Or.inl rfl)) Kh))))
   (aq (bC (aQ (uD hE) (qv 5) (qv 1) (nomark _)) (aA (aO yX)) aX)
   (aq (bC (aQ (uE hE) (bK bF (qv 1) au (fun _ _=>rfl)) (aP ak) (nomark _)) (aA (aO yX)) aX)
   (aq (bA (i:=3) eZ.nd rfl (Or.inl rfl) (aJ ZX hr rfl Zy Z6.kp ZL .nil pass0 (aj (qv 1) ak)))
   (aA (bA (i:=1) eZ.nd rfl (Or.inl rfl) (aJ yO hr rfl yG yQ.kp yL .nil pass0 (aj (qv 1) ak)))))))))
   (aA (aO yX)))),?_⟩
 refine jY (fun v=>[some xs,some xd,some (.int (many:Int)),some v,none,none]) (fun _=>rfl) (fun v H'=>v=.int ((300:Nat):Int)∧H'=H) (fun R r=>r _ _ ⟨rfl,rfl⟩) (fun v3 H3 h3=>?_)
 obtain⟨rfl,rfl⟩:=h3
 refine⟨_,rfl,(many:Int),rfl,by lia,by lia,?_⟩
 refine Jd (n:=many) (fun i σ' H'=>∃ (vs vd:V) (room:Nat) (st:Std) (o4 o5:Option V),σ'=[some vs,some vd,some (.int (many:Int)),some (.int (room:Int)),o4,o5]∧Same H3 H'∧TR K H' (.node [.node (stN i due).1,.node (stN i due).2]) vd∧TR K H' (.node [.node st.1,.node st.2]) vs∧Ready room st (fH cs us (stN i due))) ?_ ?_ ?_
 ·exact⟨xs,xd,300,st,_,_,rfl,Same.refl _,td,ts,rdy⟩
 ·rintro i σ' H' hi ⟨vs,vd,room,st',o4,o5,rfl,S,tdv,tsv,hne,hok,n2,c2,g,hn2,hc2,hd2,hw2⟩
  dsimp only [gName]
  obtain⟨gd,gw⟩:=hg i (by lia)
  rw [show stN (i+1) due=nx (stN i due) from rfl]
  generalize stN i due=d at gd gw g tdv ⊢
  have okd:zY d:=⟨by have:=gd.1; lia,by have:=gd.2; lia,by lia⟩
  obtain⟨bx,bs⟩:=zY.bx (tx:=d.1) (s:=d.2) okd
  refine⟨_,rfl,_,rfl,vs,st'.1,st'.2,room,n2,c2,fH cs us d,rfl,tsv,hne,hok,g,hn2,hc2,hd2,hw2,.inr ⟨rfl,by simp [fH]⟩,fun b y v H2 S2 hb ty hv=>⟨b,[y,v],rfl,hb,rfl,_,_,rfl,_,_,rfl,rfl,?_⟩⟩
  have tv:TR K H2 (.node [.node d.1,.node d.2]) v:=by
   rcases hv with⟨z,_⟩ | ⟨_,_,z⟩
   ·cases z
   ·exact z
  have td2:=tdv.mono (K:=K) (.of S2)
  have dd:(T.node [.node d.1,.node d.2]).deep≤400:=by
   have h1:=gd.1
   have h2:=gd.2
   rw [T.aR] at h1 h2
   rw [akc]; lia
  refine⟨_,rfl,_,rfl,_,_,tv,td2,dd,_,rfl,?_⟩
  rw [T.pB]
  refine iteF ?_
  dsimp only [tNext]
  refine⟨_,rfl,cQ td2 0 rfl (fun v9 t9=>⟨Nat.zero_le _,fun p10 g10=>⟨_,leaf,t9.mono (.new g10),fO upd_same,by have:=gd.1; lia,_,rfl,?_⟩⟩)⟩
  have S10:=same_new g10 (.tup [])
  rw [lE,show (T.node d.1).kids=d.1 from rfl]
  by_cases h0:d.1=[]
  ·rw [decide_eq_true h0]
   exact iteT (q _ (S.trans (S2.trans S10)))
  rw [decide_eq_false h0]
  refine iteF ?_
  dsimp only [tNext]
  have ahc:=td2.mono (K:=K) (.of S10)
  have akl:=ty.mono (K:=K) (.of S10)
  refine jY (fun z=>[some y,some vd,some (.int (many:Int)),some z,some (.int (0+(i:Int))),some v]) (fun _=>rfl) (fun z H'=>z=.int ((300+ig d.1 d.2:Nat):Int)∧Same _ H') (fun R r=>⟨_,rfl,vd,d.1,d.2,rfl,ahc,bx,bs,fun H3 S3=>r _ _ ⟨rfl,S3⟩⟩) (fun v8 H4 h4=>?_)
  obtain⟨rfl,S4⟩:=h4
  obtain⟨r1,r2,r3⟩:=Zj und gd gw h0
  refine⟨_,rfl,vd,d.1,d.2,rfl,ahc.mono (.of S4),h0,bx,bs,fun y5 H5 S5 t5=>?_⟩
  exact⟨y,y5,300+ig d.1 d.2,fH cs us d,_,_,rfl,S.trans (S2.trans (S10.trans (S4.trans S5))),t5,akl.mono (.of (S4.trans S5)),r1,r2,r3⟩
 ·rintro σ' H' ⟨vs,vd,room,st',o4,o5,rfl,S,_⟩
  exact q _ S
end
section
variable {P:Program}{w:World}{K:PySem.W.Frag}{mg:Str→Option Value}{base:Heap}{f:Addr}{fd:FuncData}
theorem acO:∀ (n:Nat) {st:Std},(∀ i,i<n→(stN i st).1≠[])→∃ τ,Wo cP st τ (stN n st)
 | 0,st,_=>⟨0,.nil⟩
 | n+1,st,h=>by
  obtain⟨τ,w⟩:=acO n (st:=nx st) fun i hi=>by rw [← jP]; exact h (i+1) (by lia)
  exact⟨_,.cons (h 0 (by lia)) (by rw [jP]; exact w)⟩
theorem ada {n:Nat}{st:Std} (he:(stN n st).1=[]) (hne:∀ i,i<n→(stN i st).1≠[]):∃ ns:List Nat,ns.length=15∧∀ ω,Wo ω st (bh ω 0 ns) ([],(stN n st).2):=by
 obtain⟨τ,w⟩:=acO n hne
 obtain⟨h1,_⟩:=DX w he τ (Nat.le_refl _)
 have h2:=(nD w he τ h1).2
 refine⟨_,vp τ st.1 st.2,fun ω=>?_⟩
 have:=air h1 ω
 rw [h2] at this
 exact this
theorem Uo:∀ (n:Nat) {st:Std},(stN n st).1=[]→∃ m,m≤n∧(stN m st).1=[]∧(∀ i,i<m→(stN i st).1≠[])∧stN n st=stN m st
 | 0,st,h=>⟨0,Nat.le_refl _,h,fun i hi=>by lia,rfl⟩
 | n+1,st,h=>by
  by_cases c:(stN n st).1=[]
  ·obtain⟨m,h1,h2,h3,h4⟩:=Uo n c
   refine⟨m,by lia,h2,h3,?_⟩
   rw [Q0 n 1,Ka 1 c]; exact h4
  ·refine⟨n+1,Nat.le_refl _,h,fun i hi z=>?_,rfl⟩
   by_cases e:i=n
   ·rw [e] at z; exact c z
   ·apply c
    have:=Q0 i (n - i) st
    rw [show i+(n - i)=n by lia,Ka _ z] at this
    rw [this]; exact z
theorem ok_law (dM:mg "tuple"=none) (eO:mg "range"=none)
  {Dw:Addr}{Dg:FuncData} (Z8:Fun K "_law_deck" "_law_deck" kj Dw Dg) (Z1:FnOk P w K mg base CX0 59 Dw Dg ["_law_script"] (acU K)) (ZP:Binds K Dg ["_law_script"] []) (ZC:mg "_law_deck"=some (.ref Dw))
  {Ds:Addr}{C_:FuncData} (kJ:Fun K "_law_text" "_law_text" j_ Ds C_) (qg:FnOk P w K mg base CX0 59 Ds C_ ["_law_deck_here","_law_deep","_law_many"] (aaf K 2)) (qb:Binds K C_ ["_law_deck_here","_law_deep","_law_many"] []) (p8:mg "_law_text"=some (.ref Ds))
  {gM:Addr}{gJ:FuncData} (gk:Fun K "_law_tree" "_law_tree" iz gM gJ) (iG:FnOk P w K mg base CX0 59 gM gJ ["_law_deck_here","_law_deep"] (Kc K 3)) (iD:Binds K gJ ["_law_deck_here","_law_deep"] []) (iC:mg "_law_tree"=some (.ref gM))
  {dJ:Addr}{dI:FuncData} (eY:Fun K "_law_next" "_law_next" iB dJ dI) (d7:FnOk P w K mg base CX0 59 dJ dI ["_law_deck_here","_law_many"] H_) (eX:Binds K dI ["_law_deck_here","_law_many"] []) (eU:mg "_law_next"=some (.ref dJ))
  {Bh:Addr}{Ao:FuncData} (Bs:Fun K "selfrunner" "selfrunner" lA Bh Ao) (Bq:FnOk P w K mg base CX0 59 Bh Ao [] (oU K dh)) (Bd:Binds K Ao [] []) (Ac:mg "selfrunner"=some (.ref Bh))
  {rC:Addr}{qY:FuncData} (J4:Fun K "_law_heads_alike" "_law_heads_alike" d8 rC qY) (J0:FnOk P w K mg base CX0 59 rC qY ["_law_stand","_law_due","_law_many"] (Wc K)) (JC:Binds K qY ["_law_stand","_law_due","_law_many"] []) (IW:mg "_law_heads_alike"=some (.ref rC))
  {jU:Addr}{jR:FuncData} (yQ:Fun K "_law_behind" "_law_behind" gP jU jR) (yO:FnOk P w K mg base CX0 59 jU jR ["_law_stand"] (xH K)) (yL:Binds K jR ["_law_stand"] []) (yG:mg "_law_behind"=some (.ref jU))
  {ach:Addr}{abZ:FuncData} (akh:Fun K "run" "run" Fl ach abZ) (akf:FnOk P w K mg base CX0 59 ach abZ ["text","tree","budget"] (afx K)) (akd:Binds K abZ ["text","tree","budget"] []) (aj8:mg "run"=some (.ref ach))
  {bQ:Addr}{bO:FuncData} (dZ:Fun K "_law_first" "_law_first" eG bQ bO) (dY:FnOk P w K mg base CX0 59 bQ bO ["_law_tree_here"] (tL K)) (dX:Binds K bO ["_law_tree_here"] []) (dW:mg "_law_first"=some (.ref bQ))
  {GC:Addr}{Gp:FuncData} (acu:Fun K "tally_of" "tally_of" oX GC Gp) (acr:FnOk P w K mg base CX0 59 GC Gp ["text","tree","budget"] (Ue K)) (ab9:Binds K Gp ["text","tree","budget"] []) (abH:mg "tally_of"=some (.ref GC))
  {YH:Addr}{Yi:FuncData} (ajz:Fun K "gone" "gone" zQ YH Yi) (aju:FnOk P w K mg base CX0 59 YH Yi ["stand","budget"] (acT K)) (ajp:Binds K Yi ["stand","budget"] []) (ah5:mg "gone"=some (.ref YH))
  (F:Fun K "law" "law" tH f fd):FnOk P w K mg base CX0 60 f fd ["_law_script"] (spLaw K):=by
 refine okQ F mR (fun vs H Q E h=>?_) (fun cdv A outer s H vs Q E hr h=>?_)
 ·obtain⟨a,ns,rfl,_⟩:=h
  rfl
 obtain⟨a,ns,rfl,hl,h63,q⟩:=h
 have hE:=hr.un
 have hE:(A.deeper (envOfC "law" (defScope tH) s.heap.objs.size f cdv)).units+401<cLine:=by lia
 refine⟨_,(aq (bA (i:=1) mR.nd rfl (Or.inr rfl) (aJ Z1 hr rfl ZC Z8.kp ZP .nil pass0 (aj (qv 0) ak)))
   (aq (bA (i:=2) mR.nd rfl (Or.inl rfl) (aJ qg hr rfl p8 kJ.kp qb .nil pass0 (aj (qv 1) (aj au (aj au ak)))))
   (aq (bA (i:=3) mR.nd rfl (Or.inl rfl) (aJ iG hr rfl iC gk.kp iD .nil pass0 (aj (qv 1) (aj au ak))))
   (aq (bA (i:=4) mR.nd rfl (Or.inl rfl) (kI gR rfl dM pA (aj (Ft rfl (rN (fr:=["_law_deck_here"]) (js:=[1]) (sc:=defScope tH) rfl rfl rfl (by decide +kernel) (by decide +kernel) (by decide +kernel) (by decide +kernel) (by exact⟨⟨rfl,rfl,rfl⟩,trivial⟩) (by decide +kernel) (fun y hy=>cell_has hy)) (qJ rfl eO (aj (aJ d7 hr rfl eU eY.kp eX .nil pass0 (aj (qv 1) (aj au ak))) ak)) (fun _ _ _ _ _=>(aJ qg hr rfl p8 kJ.kp qb .nil pass0 (aj (qv 1) (aj au (aj au ak)))))) ak)))
   (aq (bA (i:=5) mR.nd rfl (Or.inl rfl) (kI gR rfl dM pA (aj (Ft rfl (rN (fr:=["_law_deck_here"]) (js:=[1]) (sc:=defScope tH) rfl rfl rfl (by decide +kernel) (by decide +kernel) (by decide +kernel) (by decide +kernel) (by exact⟨⟨rfl,rfl,rfl⟩,trivial⟩) (by decide +kernel) (fun y hy=>cell_has hy)) (qJ rfl eO (aj (aJ d7 hr rfl eU eY.kp eX .nil pass0 (aj (qv 1) (aj au ak))) ak)) (fun _ _ _ _ _=>(aJ iG hr rfl iC gk.kp iD .nil pass0 (aj (qv 1) (aj au ak))))) ak)))
   (aq (bA (i:=6) mR.nd rfl (Or.inl rfl) (aV bf (aP (aj (qv 2) ak)) (qv 3)))
   (aq (bA (i:=7) mR.nd rfl (Or.inl rfl) (aP (aj (aV bf (aP (aj (nO Bq hr rfl Ac Bs.kp Bd .nil pass0) ak)) (qv 4)) (aj (aV bf (aP (aj (qv 6) ak)) (qv 5)) ak))))
   (aq (bC (PJ (oA (aJ J0 hr rfl IW J4.kp JC .nil pass0 (aj (qv 7) (aj (aP (aj (aP (aj (qv 2) ak)) (aj (aP (aj (qv 3) ak)) ak))) (aj (aV op_add au (aJ d7 hr rfl eU eY.kp eX .nil pass0 (aj (qv 1) (aj au ak)))) ak)))))) (aA (aO yX)) aX)
   (aq (bA (i:=8) mR.nd rfl (Or.inl rfl) (aP (aj (aP (aj (qv 2) ak)) (aj (aP (aj (qv 3) ak)) ak))))
   (aq (PK PassesOwn.never rfl (qJ rfl eO (aj au ak)) (lZ (i:=9) mR.nd rfl (Or.inl rfl)) (aA (bC (aQ (uD hE) (bK bF (qv 8) au (fun _ _=>rfl)) (aP ak) (nomark _)) (aA (bA (i:=8) mR.nd rfl (Or.inl rfl) (aJ yO hr rfl yG yQ.kp yL .nil pass0 (aj (qv 8) ak)))) aX)))
   (aq (bC (aQ (uD hE) (bK bF (qv 8) au (fun _ _=>rfl)) (aP ak) (nomark _)) (aA (aO yX)) aX)
   (aq (bA (i:=10) mR.nd rfl (Or.inl rfl) (aJ akf hr rfl aj8 akh.kp akd .nil pass0 (aj (nO Bq hr rfl Ac Bs.kp Bd .nil pass0) (aj (qv 6) (aj au ak)))))
   (aq (bC (aQ (ahT hE) (bY cT (qv 10) cN (cM au)) (aP (aj jW (aj (aJ dY hr rfl dW dZ.kp dX .nil pass0 (aj (bK bF (qv 8) au (fun _ _=>rfl)) ak)) ak))) (nomark _)) (aA (aO yX)) aX)
   (aq (bA (i:=11) mR.nd rfl (Or.inl rfl) (aJ acr hr rfl abH acu.kp ab9 .nil pass0 (aj (nO Bq hr rfl Ac Bs.kp Bd .nil pass0) (aj (qv 6) (aj (bK bF (qv 10) au (fun _ _=>rfl)) ak)))))
   (aq (bA (i:=12) mR.nd rfl (Or.inl rfl) (aJ aju hr rfl ah5 ajz.kp ajp .nil pass0 (aj (qv 7) (aj (bK bF (qv 10) au (fun _ _=>rfl)) ak))))
   (aA (aO (Rm (ahU hE) (qv 12) (aP (aj (aP (aj (qv 4) (aj (aV bf (aP (aj (aJ dY hr rfl dW dZ.kp dX .nil pass0 (aj (bK bF (qv 8) au (fun _ _=>rfl)) ak)) ak)) (qv 5)) ak))) (aj (qv 11) ak))) (nomark _))))))))))))))))))),?_⟩
 refine jY (fun v=>[some (.ref a),some (v),none,none,none,none,none,none,none,none,none,none,none]) (fun _=>rfl) (fun v H'=>∃ p,v=.ref p∧Bv H' p) (fun R r=>⟨_,rfl,a,ns,rfl,hl,h63,fun p H1 S1 hp0 hk=>r _ _ ⟨p,rfl,hk⟩⟩) (fun v1 H1 h1=>?_)
 obtain⟨p,rfl,hk⟩:=h1
 have q3:pbT 3=40:=rfl
 have q2:pbT 2=13:=rfl
 have pw1:pw5 1=422:=rfl
 refine jY (fun v=>[some (.ref a),some (.ref p),some (v),none,none,none,none,none,none,none,none,none,none]) (fun _=>rfl) (fun v H'=>∃ ws,Dr p H1 H'∧TR K H' (.node ws) v∧(∀ w∈ws,acj 1 w)∧ws.length≤4) (fun R r=>⟨_,rfl,p,1,4,rfl,by decide,by decide,hk,fun y t H2 D2 ht hs hl2=>?_⟩) (fun v2 H2 h2=>?_)
 ·cases t with
  | node ws=>exact r _ _ ⟨ws,D2,ht,hs,hl2⟩
 obtain⟨ws,D2,t2,hws,hwl⟩:=h2
 refine jY (fun v=>[some (.ref a),some (.ref p),some (v2),some (v),none,none,none,none,none,none,none,none,none]) (fun _=>rfl) (fun v H'=>∃ its,Dr p H1 H'∧TR K H' (.node ws) v2∧TR K H' (.node its) v∧ShT 3 (.node its)) (fun R r=>⟨_,rfl,p,3,rfl,by decide,D2.dH,fun y t H3 D3 ht hs=>?_⟩) (fun v3 H3 h3=>?_)
 ·cases t with
  | node its=>exact r _ _ ⟨its,D2.trans D3,t2.mono (D3.kt D2.dH),ht,hs.1⟩
 obtain⟨its,D3,t23,t33,hts⟩:=h3
 refine jY (fun v=>[some (.ref a),some (.ref p),some (v2),some (v3),some (v),none,none,none,none,none,none,none,none]) (fun _=>rfl) (fun v H'=>∃ cs,Dr p H1 H'∧Kt H3 H'∧TR K H' (.node cs) v∧(∀ t∈cs,B 8 900 t)∧cs.length≤3) (fun R r=>⟨_,rfl,p,4,rfl,by decide,D3.dH,fun i H4 i0 i1 D4=>⟨i,rfl,by lia,by lia,R0 (K:=K) (fun t=>B 8 900 t) D4.dH (small (by lia)) (fun j H' R' hj Dh hR=>⟨_,rfl,p,1,2,rfl,by decide,by decide,Dh.dH,fun y t H5 D5 ht hs hl5=>hR y t H5 D5 ht ?_⟩) (fun D ys ts H5 Dh hD hlen hT hsh=>⟨D,ys,rfl,.inl ⟨SqL.of hD,fun p6 g6=>?_⟩⟩)⟩⟩) (fun v4 H4 h4=>?_)
 ·have b:=G9 (n:=2) (a:=6) (b:=422) (ts:=t.kids) (fun w hw=>⟨(hs w hw).1.1,by have:=(hs w hw).1.2; lia⟩) hl5
  rw [h_] at b
  exact b.le (by decide) (by decide)
 ·obtain⟨S6,t6⟩:=bH (K:=K) g6 hT
  have Dx:=(D4.trans Dh).same S6
  exact r _ _ ⟨ts,D3.trans Dx,Dx.kt D3.dH,t6,hsh,by lia⟩
 obtain⟨cs,D4,k4,t44,hcs,hcl⟩:=h4
 refine jY (fun v=>[some (.ref a),some (.ref p),some (v2),some (v3),some (v4),some (v),none,none,none,none,none,none,none]) (fun _=>rfl) (fun v H'=>∃ us,Dr p H1 H'∧Kt H4 H'∧TR K H' (.node us) v∧(∀ t∈us,B 8 900 t)∧us.length≤4) (fun R r=>⟨_,rfl,p,5,rfl,by decide,D4.dH,fun i H5 i0 i1 D5=>⟨i,rfl,by lia,by lia,R0 (K:=K) (fun t=>B 8 900 t) D5.dH (small (by lia)) (fun j H' R' hj Dh hR=>⟨_,rfl,p,2,rfl,by decide,Dh.dH,fun y t H6 D6 ht hs=>hR y t H6 D6 ht (hs.1.b.le (by decide) (by decide))⟩) (fun D ys ts H6 Dh hD hlen hT hsh=>⟨D,ys,rfl,.inl ⟨SqL.of hD,fun p7 g7=>?_⟩⟩)⟩⟩) (fun v5 H5 h5=>?_)
 ·obtain⟨S7,t7⟩:=bH (K:=K) g7 hT
  have Dx:=(D5.trans Dh).same S7
  exact r _ _ ⟨ts,D4.trans Dx,Dx.kt D4.dH,t7,hsh,by lia⟩
 obtain⟨us,D5,k5,t55,hus,hul⟩:=h5
 have t45:=t44.mono k5
 have t25:=t23.mono (k4.trans k5)
 have t35:=t33.mono (k4.trans k5)
 have hti:=hts.1
 have htp:=hts.2
 rw [T.aR] at hti
 rw [T.aN,q3] at htp
 have hil:=T.cL its
 have hwp:∀ w∈ws,w.parts≤422∧w.deep≤6:=fun w hw=>⟨by have:=(hws w hw).1.2; lia,(hws w hw).1.1⟩
 have hpw:T.aH ws≤4 * 422:=BJ hwl fun w hw=>(hwp w hw).1
 have hdw:T.bD ws≤7:=T.sX fun w hw=>by have:=(hwp w hw).2; lia
 have hd0:iy 40 ([.node ws],[.node its]):=⟨by show (T.node [.node ws]).deep≤40; rw [ab0]; lia,by show (T.node [.node its]).deep≤40; rw [ab0]; lia⟩
 have hw0:wt ([.node ws],[.node its])≤20000:=by show T.aH [.node ws]+T.aH [.node its]≤_; rw [Kl,Kl]; lia
 have hg:uJ 14 ([.node ws],[.node its]):=af2 hd0 (fun t ht w hw=>by rw [List.mem_singleton.mp ht] at hw; have:=(hwp w hw).1; lia) (by rw [Kl]; lia) (by rw [Kl]; lia)
 have hgx:GX [.node ws]:=fun t ht w hw=>by rw [List.mem_singleton.mp ht] at hw; exact (hws w hw).2
 have hpc:T.aH cs≤3 * 900:=BJ hcl fun w hw=>(hcs w hw).2
 have hpu:T.aH us≤4 * 900:=BJ hul fun w hw=>(hus w hw).2
 have hdc:T.bD cs≤9:=T.sX fun w hw=>by have:=(hcs w hw).1; lia
 have hdu:T.bD us≤9:=T.sX fun w hw=>by have:=(hus w hw).1; lia
 have und:Und cs us:=⟨by lia,by lia,by lia⟩
 refine jY (fun v=>[some (.ref a),some (.ref p),some (v2),some (v3),some (v4),some (v5),some (v),none,none,none,none,none,none]) (fun _=>rfl) (fun v H'=>Same H5 H'∧TR K H' (.node (.node ws::its)) v) (fun R r=>⟨_,rfl,(by show 1≤sizeLine; decide),fun p1 g1=>?_⟩) (fun v6 H6 h6=>?_)
 ·obtain⟨S1,t1⟩:=bH (K:=K) g1 (cV t25)
  exact⟨_,rfl,bV t1 (t35.mono (.of S1)) (small (by show 1+its.length≤_; lia)) (fun y2 H6 S2 t2=>r _ _ ⟨S1.trans S2,t2⟩)⟩
 obtain⟨S6,t66⟩:=h6
 have t46:=t45.mono (K:=K) (.of S6)
 have t56:=t55.mono (K:=K) (.of S6)
 have D6:=D5.same S6
 refine jY (fun v=>[some (.ref a),some (.ref p),some (v2),some (v3),some (v4),some (v5),some (v6),some (v),none,none,none,none,none]) (fun _=>rfl) (fun v H'=>Same H6 H'∧TR K H' (.node [.node (.node dh::cs),.node (.node (.node ws::its)::us)]) v) (fun R r=>⟨rfl,fun y1 H7 S1 t1=>⟨(by show 1≤sizeLine; decide),fun p2 g2=>?_⟩⟩) (fun v7 H7 h7=>?_)
 ·obtain⟨S2,t2'⟩:=bH (K:=K) g2 (cV t1)
  refine⟨_,rfl,bV t2' (t46.mono (.of (S1.trans S2))) (small (by show 1+cs.length≤_; lia)) (fun y3 H8 S3 t3=>⟨_,rfl,(by show 1≤sizeLine; decide),fun p4 g4=>?_⟩)⟩
  have S13:=S1.trans (S2.trans S3)
  obtain⟨S4,t4'⟩:=bH (K:=K) g4 (cV (t66.mono (.of S13)))
  refine⟨_,rfl,bV t4' (t56.mono (.of (S13.trans S4))) (small (by show 1+us.length≤_; lia)) (fun y5 H9 S5 t5=>⟨(by show 2≤sizeLine; decide),fun p6 g6'=>?_⟩)⟩
  obtain⟨S6',t6'⟩:=bH (K:=K) g6' (k_ (t3.mono (.of (S4.trans S5))) t5)
  exact r _ _ ⟨S13.trans (S4.trans (S5.trans S6')),t6'⟩
 obtain⟨S7,t77⟩:=h7
 have S57:=S6.trans S7
 have t27:=t25.mono (K:=K) (.of S57)
 have t37:=t35.mono (K:=K) (.of S57)
 have D7:=D6.same S7
 refine⟨_,rfl,_,rfl,(by show 1≤sizeLine; decide),fun p1 g1=>⟨_,rfl,(by show 1≤sizeLine; decide),fun p2 g2=>⟨(by show 2≤sizeLine; decide),fun p3 g3=>?_⟩⟩⟩
 obtain⟨S1,t1⟩:=bH (K:=K) g1 (cV t27)
 obtain⟨S2,t2'⟩:=bH (K:=K) g2 (cV (t37.mono (.of S1)))
 obtain⟨S3,t3⟩:=bH (K:=K) g3 (k_ (t1.mono (.of S2)) t2')
 have S13:=S1.trans (S2.trans S3)
 have D8:=D7.same S13
 refine⟨_,rfl,p,4,rfl,by decide,D8.dH,fun i H9 i0 i1 D9=>⟨_,_,rfl,rfl,?_⟩⟩
 have k9:=(Kt.of S13).trans (D9.kt D8.dH)
 refine⟨v7,_,(1+i).toNat,cs,us,(.node dh::cs,.node (.node ws::its)::us),([.node ws],[.node its]),?_,t77.mono k9,t3.mono (D9.kt D8.dH),by lia,und,fun j hj=>hg j (by lia),Wz und hd0 hw0,fun H10 S10=>⟨_,rfl,iteF ?_⟩⟩
 ·exact congrArg (fun z=>[v7,_,V.int z]) (by lia)
 dsimp only [tNext]
 have k10:=k9.trans (Kt.of S10)
 have akz:=t27.mono k10
 have aky:=t37.mono k10
 have akr:=t77.mono k10
 have aks:=(t66.mono (K:=K) (.of S7)).mono k10
 have aku:=(t46.mono (K:=K) (.of S7)).mono k10
 have akt:=(t56.mono (K:=K) (.of S7)).mono k10
 refine jY (fun v=>[some (.ref a),some (.ref p),some v2,some v3,some v4,some v5,some v6,some v7,some v,none,none,none,none]) (fun _=>rfl) (fun v H'=>Same H10 H'∧TR K H' (.node [.node [.node ws],.node [.node its]]) v) (fun R r=>⟨_,rfl,(by show 1≤sizeLine; decide),fun p1 g1=>⟨_,rfl,(by show 1≤sizeLine; decide),fun p2 g2=>⟨(by show 2≤sizeLine; decide),fun p3 g3=>?_⟩⟩⟩) (fun v8 H11 h11=>?_)
 ·obtain⟨S1,t1⟩:=bH (K:=K) g1 (cV akz)
  obtain⟨S2,t2'⟩:=bH (K:=K) g2 (cV (aky.mono (.of S1)))
  obtain⟨S3,t3⟩:=bH (K:=K) g3 (k_ (t1.mono (.of S2)) t2')
  exact r _ _ ⟨S1.trans (S2.trans S3),t3⟩
 obtain⟨S11,t88⟩:=h11
 have fact:∀ e,e=stN 10 ([.node ws],[.node its])→(iy 100 e∧wt e≤1400000)∧(e.1=[]→∃ m,m≤10∧(stN m ([.node ws],[.node its])).1=[]∧(∀ i,i<m→(stN i ([.node ws],[.node its])).1≠[])∧e=stN m ([.node ws],[.node its])):=fun e he=>⟨by rw [he]; exact hg 10 (by lia),fun z=>by
  rw [he] at z
  obtain⟨m,a1,a2,a3,a4⟩:=Uo 10 z
  exact⟨m,a1,a2,a3,he.trans a4⟩⟩
 refine⟨10,rfl,by decide,by decide,?_⟩
 refine Jd (n:=10) (fun i σ' H'=>∃ (v:V) (o9:Option V),σ'=[some (.ref a),some (.ref p),some v2,some v3,some v4,some v5,some v6,some v7,some v,o9,none,none,none]∧Same H11 H'∧TR K H' (.node [.node (stN i ([.node ws],[.node its])).1,.node (stN i ([.node ws],[.node its])).2]) v) ?_ ?_ ?_
 ·exact⟨v8,_,rfl,Same.refl _,t88⟩
 ·rintro i σ' H' hi ⟨v,o9,rfl,S,tv⟩
  dsimp only [gName]
  have hgj:=hg i (by lia)
  obtain⟨bx,bs⟩:=aaA (tx:=(stN i ([.node ws],[.node its])).1) (s:=(stN i ([.node ws],[.node its])).2) (aaI hgj)
  have dx:=bx.deep
  refine⟨_,rfl,cQ tv 0 rfl (fun v0 t0=>⟨Nat.zero_le _,fun p1 g1=>⟨.node (stN i ([.node ws],[.node its])).1,leaf,t0.mono (.new g1),fO upd_same,by lia,_,rfl,?_⟩⟩)⟩
  have S1:=same_new g1 (.tup [])
  rw [lE]
  by_cases hnil:(stN i ([.node ws],[.node its])).1=[]
  ·rw [decide_eq_true (show (T.node (stN i ([.node ws],[.node its])).1).kids=[] from hnil)]
   refine iteF ⟨v,_,rfl,S.trans S1,?_⟩
   rw [show stN (i+1) ([.node ws],[.node its])=stN i ([.node ws],[.node its]) from by rw [Q0 i 1]; exact Ka 1 hnil]
   exact tv.mono (.of S1)
  ·rw [decide_eq_false (show ¬ (T.node (stN i ([.node ws],[.node its])).1).kids=[] from hnil)]
   exact iteT ⟨_,rfl,v,_,_,rfl,tv.mono (.of S1),hnil,bx,bs,fun y H2 S2 t2=>⟨y,_,rfl,S.trans (S1.trans S2),t2⟩⟩
 rintro σ' H12 ⟨v,o9,rfl,S12,tv⟩
 obtain⟨e10,aeY⟩:∃ e,e=stN 10 ([.node ws],[.node its]):=⟨_,rfl⟩
 rw [← aeY] at tv
 obtain⟨ail,hfe⟩:=fact e10 aeY
 clear aeY fact
 dsimp only
 obtain⟨bx,bs⟩:=aaA (tx:=e10.1) (s:=e10.2) (aaI ail)
 have dx:=bx.deep
 refine⟨_,rfl,cQ tv 0 rfl (fun v0 t0=>⟨Nat.zero_le _,fun p1 g1=>⟨.node e10.1,leaf,t0.mono (.new g1),fO upd_same,by lia,_,rfl,?_⟩⟩)⟩
 have S14:=same_new g1 (.tup [])
 rw [lE]
 by_cases hnil:e10.1=[]
 rotate_left
 ·rw [decide_eq_false (show ¬ (T.node e10.1).kids=[] from hnil)]
  exact iteT (q _)
 rw [decide_eq_true (show (T.node e10.1).kids=[] from hnil)]
 refine iteF ?_
 dsimp only [tNext]
 obtain⟨n,aoR,hend,hne,heq⟩:=hfe hnil
 have hgn:uJ n ([.node ws],[.node its]):=fun i hi=>hg i (by lia)
 obtain⟨C,hC,wC⟩:=Ze aoR hend hne hwl hgx (by rw [Kl]; lia)
 obtain⟨ns',hn',hw'⟩:=ada hend hne
 have r0:=Fe (cs:=[]) (us:=[]) hn' hw'
 obtain⟨gsn,ggo⟩:=aip und hd0 hw0 hgn hend hne hn' hw'
 have sn:=abd hd0 hw0 hgn hend hne hn' hw'
 rw [← heq] at wC r0 ggo
 have ark:(ats e10.2 0).deep≤99:=by
  have z:=ail.1.2
  rw [T.aR] at z
  exact qm _ 0 z
 generalize ain:ats e10.2 0=due at *
 obtain⟨he,hsp⟩:=DX wC rfl 6000 hC
 have he:(goT 6000 [.node dh] [.node (.node ws::its)]).1=[]:=he
 have hsp:spT 6000 [.node dh] [.node (.node ws::its)]=C:=hsp
 have htl:(goT 6000 [.node dh] [.node (.node ws::its)]).2.1=[due]:=(nD wC rfl 6000 he).2
 have hCC:C=bh cP 0 (turnT ns'):=by
  have e1:=(nD wC rfl 6000 he).1
  have e2:=(nD (r0 cP) rfl 6000 he).1
  exact e1.symm.trans e2
 have hgo:=(afQ (VF ns') r0 rfl (Nat.le_refl _)).1
 have hgo:goT (bh cP 0 (turnT ns')) [.node dh] [.node (.node ws::its)]=([],[due],turnT ns'):=hgo
 rw [← hCC] at gsn ggo hgo sn
 have VB:=S11.trans (S12.trans S14)
 have aef:=aks.mono (K:=K) (.of VB)
 have ahi:=akr.mono (K:=K) (.of VB)
 have ahn:=aku.mono (K:=K) (.of VB)
 have ahl:=akt.mono (K:=K) (.of VB)
 have aee:=tv.mono (K:=K) (.of S14)
 generalize upd _ p1 (.tup [])=H14 at aef ahi ahn ahl aee ⊢
 refine jY (fun z=>[some (.ref a),some (.ref p),some v2,some v3,some v4,some v5,some v6,some v7,some v,o9,some z,none,none]) (fun _=>rfl) (fun z H'=>∃ q8 y8,z=.ref q8∧Same H14 H'∧SqT K H' q8 [.str J9,y8,nv C]∧TR K H' due y8) (fun R r=>⟨rfl,fun y1 H1 S1 t1=>⟨_,rfl,y1,v6,.node dh,.node (.node ws::its),6000,rfl,t1,aef.mono (.of S1),sn _ hC,fun q8 y8 H2 S2 hp tz=>r _ _ ⟨q8,y8,rfl,S1.trans S2,?_,?_⟩⟩⟩) (fun z8 H15 h15=>?_)
 ·rw [show Vn 6000 [.node dh] [.node (.node ws::its)]=J9 from if_pos he,hsp] at hp
  exact hp
 ·rw [show Vp 6000 [.node dh] [.node (.node ws::its)]=ats (goT 6000 [.node dh] [.node (.node ws::its)]).2.1 0 from if_pos he,htl] at tz
  exact tz
 obtain⟨q8,y8,rfl,S15,aif,akk⟩:=h15
 refine⟨_,rfl,2,rfl,q8,_,rfl,aif,fun a16 H16 S16 h16=>⟨_,rfl,cQ (aee.mono (.of (S15.trans S16))) 1 rfl (fun v17 t17=>⟨v17,.node e10.2,rfl,t17,fun y18 H18 S18 t18=>⟨(by show 2≤sizeLine; decide),fun p19 g19=>?_⟩⟩)⟩⟩
 have h16:SqT K H16 a16 [.str J9,y8]:=h16
 have S19:=same_new g19 (.tup [.str (PySem.Str.ofString "told"),y18])
 have t18:TR K H18 (ats e10.2 0) y18:=t18
 rw [ain] at t18
 have acn:=S18.trans S19
 have dA:DR K _ (.t [.s J9,ofT due]) (.ref a16):=DR2 (gW (.of acn) h16) (Bw.mpr rfl) (akk.mono (.of (S16.trans acn))).dr
 have dB:DR K _ (.t [.s J9,ofT due]) (.ref p19):=DR2 (SqT.of upd_same) (Bw.mpr rfl) (t18.mono (.of S19)).dr
 refine⟨_,_,dA,dB,?_,_,rfl,aoJ (by rw [Dt.pB]; rfl) ?_⟩
 ·rw [Dt.deep,Dt.bD,Dt.bD,Dt.bD,MP,Dt.deep]
  lia
 dsimp only [tNext]
 have afP:=S16.trans acn
 have Sx:=S15.trans afP
 have aeW:=gW (.of afP) aif
 have ahj:=aef.mono (K:=K) (.of Sx)
 have ahh:=ahi.mono (K:=K) (.of Sx)
 have ahm:=ahn.mono (K:=K) (.of Sx)
 have ahk:=ahl.mono (K:=K) (.of Sx)
 have aha:=aee.mono (K:=K) (.of Sx)
 generalize upd _ p19 (.tup [.str (PySem.Str.ofString "told"),y18])=H19 at aeW ahj ahh ahm ahk aha ⊢
 refine jY (fun z=>[some (.ref a),some (.ref p),some v2,some v3,some v4,some v5,some v6,some v7,some v,o9,some (.ref q8),some z,none]) (fun _=>rfl) (fun z H'=>∃ c1,z=.ref c1∧Same H19 H'∧SqT K H' c1 ((turnT ns').map nv)) (fun R r=>⟨rfl,fun y1 H1 S1 t1=>⟨_,rfl,_,rfl,q8,_,_,_,rfl,rfl,gW (.of S1) aeW,rfl,y1,v6,.node dh,.node (.node ws::its),C,rfl,t1,ahj.mono (.of S1),sn _ (Nat.le_refl _),fun c1 H2 S2 hc1=>r _ _ ⟨c1,rfl,S1.trans S2,?_⟩⟩⟩) (fun z9 H20 h20=>?_)
 ·rw [hgo] at hc1
  exact hc1
 obtain⟨c1,rfl,S20,hc1⟩:=h20
 refine jY (fun z=>[some (.ref a),some (.ref p),some v2,some v3,some v4,some v5,some v6,some v7,some v,o9,some (.ref q8),some (.ref c1),some z]) (fun _=>rfl) (fun z H'=>∃ q9 y9 c9,z=.ref q9∧Same H20 H'∧SqT K H' q9 [y9,.ref c9]∧TR K H' (uU cs (due::us)) y9∧SqT K H' c9 ((turnT ns').map nv)) (fun R r=>⟨_,rfl,_,rfl,q8,_,_,_,rfl,rfl,gW (.of S20) aeW,rfl,v7,.node dh::cs,.node (.node ws::its)::us,C,rfl,ahh.mono (.of S20),gsn,fun q9 y9 c9 H2 S2 h1 h2 h3=>r _ _ ⟨q9,y9,c9,rfl,S2,h1,?_,?_⟩⟩) (fun z10 H21 h21=>?_)
 ·rw [ggo] at h2
  exact h2
 ·rw [ggo] at h3
  exact h3
 obtain⟨q9,y9,c9,rfl,S21,h1,h2,h3⟩:=h21
 have afO:=S20.trans S21
 refine⟨_,rfl,_,rfl,_,rfl,cQ (aha.mono (.of afO)) 1 rfl (fun v33 t33=>⟨v33,.node e10.2,rfl,t33,fun y34 H34 S34 t34=>⟨(by show 1≤sizeLine; decide),fun p35 g35=>?_⟩⟩)⟩
 have t34:TR K H34 (ats e10.2 0) y34:=t34
 rw [ain] at t34
 obtain⟨S35,akx⟩:=bH (K:=K) g35 (cV t34)
 have Sy:=afO.trans (S34.trans S35)
 refine⟨_,rfl,bV akx (ahk.mono (.of Sy)) (small (by show 1+us.length≤_; lia)) (fun y36 H36 S36 t36=>⟨(by show 2≤sizeLine; decide),fun p37 g37=>⟨_,rfl,(by show 2≤sizeLine; decide),fun p38 g38=>?_⟩⟩)⟩
 have Sz:=Sy.trans S36
 obtain⟨S37,akv⟩:=bH (K:=K) g37 (k_ (ahm.mono (.of Sz)) t36)
 have S38:=same_new g38 (.tup [.ref p37,.ref c1])
 have Sw':=S34.trans (S35.trans (S36.trans (S37.trans S38)))
 have dA':DR K _ (.t [ofT (uU cs (due::us)),Vs (turnT ns')]) (.ref q9):=DR2 (gW (.of Sw') h1) (h2.mono (.of Sw')).dr (aaX (gW (.of Sw') h3))
 have dB':DR K _ (.t [ofT (uU cs (due::us)),Vs (turnT ns')]) (.ref p38):=DR2 (SqT.of upd_same) (akv.mono (.of S38)).dr (aaX (gW (.of (S21.trans Sw')) hc1))
 refine⟨_,_,dA',dB',?_,?_⟩
 ·rw [Dt.deep,Dt.bD,Dt.bD,Dt.bD,MP]
  have h4:=adG (turnT ns')
  have h5:(uU cs (due::us)).deep≤150:=by
   unfold uU
   rw [T.aR,T.aU,T.aU,T.cU,T.aR,T.aR,T.aU]
   lia
  lia
 rw [Dt.pB]
 exact q _
end
abbrev g_:Stmt:=inClass (top 5) 0
abbrev jk:Stmt:=inClass (top 6) 0
abbrev jK:Stmt:=inClass (top 56) 0
abbrev iW:Stmt:=inClass (top 56) 1
abbrev jL:Stmt:=inClass (top 57) 0
abbrev kO:Stmt:=inClass (top 57) 1
abbrev jl:Stmt:=inClass (top 58) 0
abbrev iK:Stmt:=inClass (top 59) 0
abbrev lY:Stmt:=inClass (top 59) 1
abbrev rJ:Stmt:=inClass (top 59) 2
abbrev oh:Stmt:=inClass (top 59) 3
abbrev jA:Stmt:=inClass (top 59) 4
abbrev pW:Stmt:=inClass (top 59) 5
abbrev pX:Stmt:=inClass (top 59) 6
theorem Hr:FnScope ["self","item","behind"] ["self","item","behind"] (defScope g_):=⟨rfl,rfl,rfl,by decide +kernel,rfl,by decide +kernel,by decide +kernel⟩
theorem KH:FnScope ["self","tree","place"] ["self","tree","place"] (defScope jk):=⟨rfl,rfl,rfl,by decide +kernel,rfl,by decide +kernel,by decide +kernel⟩
theorem Mf:FnScope ["self","tree"] ["self","tree"] (defScope jK):=⟨rfl,rfl,rfl,by decide +kernel,rfl,by decide +kernel,by decide +kernel⟩
theorem Ih:FnScope ["self"] ["self"] (defScope iW):=⟨rfl,rfl,rfl,by decide +kernel,rfl,by decide +kernel,by decide +kernel⟩
theorem Mh:FnScope ["self","tree"] ["self","tree"] (defScope jL):=⟨rfl,rfl,rfl,by decide +kernel,rfl,by decide +kernel,by decide +kernel⟩
theorem Pz:FnScope ["self","place"] ["self","place"] (defScope kO):=⟨rfl,rfl,rfl,by decide +kernel,rfl,by decide +kernel,by decide +kernel⟩
theorem KJ:FnScope ["self","text"] ["self","text"] (defScope jl):=⟨rfl,rfl,rfl,by decide +kernel,rfl,by decide +kernel,by decide +kernel⟩
theorem Mg:FnScope ["self","stand","budget"] ["self","stand","budget"] (defScope iK):=⟨rfl,rfl,rfl,by decide +kernel,rfl,by decide +kernel,by decide +kernel⟩
theorem Rf:FnScope ["self"] ["self"] (defScope lY):=⟨rfl,rfl,rfl,by decide +kernel,rfl,by decide +kernel,by decide +kernel⟩
theorem Zi:FnScope ["self"] ["self"] (defScope rJ):=⟨rfl,rfl,rfl,by decide +kernel,rfl,by decide +kernel,by decide +kernel⟩
theorem UG:FnScope ["self"] ["self"] (defScope oh):=⟨rfl,rfl,rfl,by decide +kernel,rfl,by decide +kernel,by decide +kernel⟩
theorem Hh:FnScope ["self","texts"] ["self"] (defScope jA):=⟨rfl,rfl,rfl,by decide +kernel,rfl,by decide +kernel,by decide +kernel⟩
theorem qx:FnScope ["self","going","word","step","taken"] ["self"] (defScope pW):=⟨rfl,rfl,rfl,by decide +kernel,rfl,by decide +kernel,by decide +kernel⟩
theorem Wv:FnScope ["self","step","going","word"] ["self","step","going","word"] (defScope pX):=⟨rfl,rfl,rfl,by decide +kernel,rfl,by decide +kernel,by decide +kernel⟩
section
variable {P:Program}{w:World}{K:PySem.W.Frag}{mg:Str→Option Value}{base:Heap}{f:Addr}{fd:FuncData}{ao aD aG aL aM aK:Addr}
theorem Hv (O:Own K ao aD aG aL aM aK)
  (F:Fun K "__init__" "Fronted.__init__" g_ f fd):FnOk P w K mg base CX0 31 f fd ["self","item","behind"] (V_ ao):=by
 refine okQ F Hr (fun vs H Q E h=>?_) (fun cdv A outer s H vs Q E hr h=>?_)
 ·obtain⟨o,dx,y,z,rfl,_⟩:=h
  rfl
 obtain⟨o,dx,y,z,rfl,ho,q⟩:=h
 refine⟨_,(aq (gA (qv 0) (qv 1) rfl)
   (aA (gA (qv 0) (qv 2) rfl))),?_⟩
 refine⟨_,rfl,_,rfl,o,ao,dx,_,rfl,ho,O.rF.cl,O.fi,by show 0<1000; decide,?_⟩
 refine⟨_,rfl,_,rfl,o,ao,dx,_,rfl,upd_same,O.rF.cl,O.fb,by show 1<1000; decide,?_⟩
 have e:upd (upd H o (.ins ao dx (putF "item" y []))) o (.ins ao dx (putF "behind" z (putF "item" y [])))=upd H o (.ins ao dx (fF y z)):=by
  rw [nF,PN (by decide +kernel)]
  rfl
 exact e ▸ q
theorem KR (O:Own K ao aD aG aL aM aK)
  (F:Fun K "__init__" "Later.__init__" jk f fd):FnOk P w K mg base CX0 31 f fd ["self","tree","place"] (V8 aD):=by
 refine okQ F KH (fun vs H Q E h=>?_) (fun cdv A outer s H vs Q E hr h=>?_)
 ·obtain⟨o,dx,v,p,rfl,_⟩:=h
  rfl
 obtain⟨o,dx,v,p,rfl,ho,q⟩:=h
 refine⟨_,(aq (gA (qv 0) (qv 1) rfl)
   (aA (gA (qv 0) (qv 2) rfl))),?_⟩
 refine⟨_,rfl,_,rfl,o,aD,dx,_,rfl,ho,O.rL.cl,O.lt,by show 0<1000; decide,?_⟩
 refine⟨_,rfl,_,rfl,o,aD,dx,_,rfl,upd_same,O.rL.cl,O.lp,by show 1<1000; decide,?_⟩
 have e:upd (upd H o (.ins aD dx (putF "tree" v []))) o (.ins aD dx (putF "place" (.int (p:Int)) (putF "tree" v [])))=upd H o (.ins aD dx (fL v p)):=by
  rw [nF,PN (by decide +kernel)]
  rfl
 exact e ▸ q
theorem KY (O:Own K ao aD aG aL aM aK)
  (F:Fun K "__init__" "Going.__init__" jl f fd):FnOk P w K mg base CX0 31 f fd ["self","text"] (Lz aM):=by
 refine okQ F KJ (fun vs H Q E h=>?_) (fun cdv A outer s H vs Q E hr h=>?_)
 ·obtain⟨o,dx,a,rfl,_⟩:=h
  rfl
 obtain⟨o,dx,a,rfl,ho,q⟩:=h
 refine⟨_,(aq (gA (qv 0) (qv 1) rfl)
   (aA (gA (qv 0) au rfl))),?_⟩
 refine⟨_,rfl,_,rfl,o,aM,dx,_,rfl,ho,O.Ba,O.gt,by show 0<1000; decide,?_⟩
 refine⟨_,rfl,o,aM,dx,_,rfl,upd_same,O.Ba,O.gp,by show 1<1000; decide,?_⟩
 have e:upd (upd H o (.ins aM dx (putF "text" (.ref a) []))) o (.ins aM dx (putF "place" (.int 0) (putF "text" (.ref a) [])))=upd H o (.ins aM dx (fG a 0)):=by
  rw [nF,PN (by decide +kernel)]
  rfl
 exact e ▸ q
theorem MN (O:Own K ao aD aG aL aM aK)
  (F:Fun K "__init__" "Text.__init__" jL f fd):FnOk P w K mg base CX0 31 f fd ["self","tree"] (Ly aL):=by
 refine okQ F Mh (fun vs H Q E h=>?_) (fun cdv A outer s H vs Q E hr h=>?_)
 ·obtain⟨o,dx,v,rfl,_⟩:=h
  rfl
 obtain⟨o,dx,v,rfl,ho,q⟩:=h
 refine⟨_,(aq (gA (qv 0) (qv 1) rfl)
   (aA (gA (qv 0) (pI ak) rfl))),?_⟩
 refine⟨_,rfl,_,rfl,o,aL,dx,_,rfl,ho,O.cText,O.tt,by show 0<1000; decide,?_⟩
 refine⟨Nat.zero_le _,fun W g=>⟨_,rfl,o,aL,dx,putF "tree" v [],rfl,?_,O.cText,O.tw,by show 1<1000; decide,?_⟩⟩
 ·have nW:o≠W:=ne_of_none (h:=upd_same) g
  rw [upd_ne nW,upd_same]
 ·have nW:o≠W:=ne_of_none (h:=upd_same) g
  have hW:H W=none:=by rw [upd_ne (Ne.symm nW)] at g; exact g
  have e:upd (upd (upd H o (.ins aL dx (putF "tree" v []))) W (.lst [])) o (.ins aL dx (putF "words" (.ref W) (putF "tree" v [])))=upd (upd H W (.lst [])) o (.ins aL dx (fT v W)):=by
   rw [akj nW (H:=H),nF,PN (by decide +kernel)]
   rfl
  exact e ▸ q W hW
theorem Zr (O:Own K ao aD aG aL aM aK) (cJ:mg "isinstance"=none)
  {cX:Addr}{cW:FuncData} (ju:Fun K "first" "first" jJ cX cW) (jt:FnOk P w K mg base CX0 31 cX cW ["tree"] (ur K)) (jo:Binds K cW ["tree"] []) (jm:mg "first"=some (.ref cX))
  (fZ:mg "Fronted"=some (.ref ao))
  (mC:mg "Later"=some (.ref aD))
  (F:Fun K "first_of" "first_of" oY f fd):FnOk P w K mg base CX0 32 f fd ["row"] (Ug K ao aD aG aL):=by
 refine okQ F Zh (fun vs H Q E h=>?_) (fun cdv A outer s H vs Q E hr h=>?_)
 ·obtain⟨x,t,M,H₀,rfl,_⟩:=h
  rfl
 obtain⟨x,t,M,H₀,rfl,g,hx,hd,q⟩:=h
 refine⟨_,(aq (bC (oA (cY lO rfl cJ jT (aj (qv 0) (aj (aW (v:=.ref ao) rfl fZ rfl) ak)))) (aA (aO (bN (qv 0) rfl))) aX)
   (aq (bC (oA (cY lO rfl cJ jT (aj (qv 0) (aj (aW (v:=.ref aD) rfl mC rfl) ak)))) (aA (aO (bK bF (bN (qv 0) rfl) (bN (qv 0) rfl) (fun _ _=>rfl)))) aX)
   (aA (aO (aJ jt hr rfl jm ju.kp jo .nil pass0 (aj (qv 0) ak)))))),?_⟩
 rcases hx.cases g with hu | ⟨a,dx,y,z,u,ts,rfl,ha,rfl,hy,hz⟩
 ·rcases hu with ht | ⟨a,dx,v,ts,p,rfl,ha,hv,hp,hl,rfl⟩
  ·obtain⟨b,ys,rfl,hb,_⟩:=uo ht
   refine⟨_,rfl,_,ao,false,rfl,.inr ⟨b,ys,rfl,hb,O.iTF⟩,_,rfl,iteF ?_⟩
   refine⟨_,rfl,_,aD,false,rfl,.inr ⟨b,ys,rfl,hb,O.iTL⟩,_,rfl,iteF ?_⟩
   exact⟨_,rfl,_,t,rfl,ht,hd,fun y H' S h=>q y H' S (.inl h)⟩
  ·refine⟨_,rfl,_,ao,false,rfl,.inl ⟨_,O.rL.ty ha,O.iLF⟩,_,rfl,iteF ?_⟩
   refine⟨_,rfl,_,aD,true,rfl,.inl ⟨_,O.rL.ty ha,O.iLL⟩,_,rfl,iteT ?_⟩
   obtain⟨b,ys,rfl,hb,hys⟩:=bW.mp hv
   obtain⟨w',ew⟩:∃ w',ts[p]?=some w':=⟨_,List.getElem?_eq_getElem hp⟩
   obtain⟨x',ex,tx'⟩:=hys.at ew
   refine⟨_,rfl,a,aD,dx,_,_,rfl,ha,O.rL.cl,O.lt,fQ _ _ _,_,rfl,a,aD,dx,_,_,rfl,ha,O.rL.cl,O.lp,(cO (by decide +kernel) _ _).trans (fQ _ _ _),b,ys,p,x',rfl,rfl,hb,atI_nat ex,q _ _ (Same.refl _) (.inl ?_)⟩
   have:ats (T.node (ts.drop p)).kids 0=w':=by
    show ((ts.drop p)[0]?).getD leaf=w'
    rw [List.getElem?_drop,Nat.add_zero,ew]
    rfl
   rw [this]
   exact tx'
 ·refine⟨_,rfl,_,ao,true,rfl,.inl ⟨_,O.rF.ty ha,O.iFF⟩,_,rfl,iteT ?_⟩
  exact⟨_,rfl,a,ao,dx,_,_,rfl,ha,O.rF.cl,O.fi,fQ _ _ _,q _ _ (Same.refl _) hy⟩
theorem aeJ (O:Own K ao aD aG aL aM aK) (dF:mg "len"=none)
  (mC:mg "Later"=some (.ref aD))
  {jq:Addr}{Av:FuncData} (Pg:Mk K aD jq) (Ph:FnOk P w K mg base CX0 31 jq Av ["self","tree","place"] (V8 aD)) (um:Binds K Av ["self","tree","place"] [])
  (F:Fun K "later" "later" vW f fd):FnOk P w K mg base CX0 33 f fd ["tree","place"] (aam K ao aD aG aL):=by
 refine okQ F ael (fun vs H Q E h=>?_) (fun cdv A outer s H vs Q E hr h=>?_)
 ·obtain⟨x,ts,p,M,H₀,rfl,_⟩:=h
  rfl
 obtain⟨x,ts,p,M,H₀,rfl,g,ht,hl,q⟩:=h
 refine⟨_,(aA (aO (tR (aQ afA (qv 1) (cY call_len_seq rfl dF oH (aj (qv 0) ak)) (nomark _)) (mj Pg Ph hr rfl mC um .nil pass0 (aj (qv 0) (aj (qv 1) ak))) (aP ak)))),?_⟩
 obtain⟨b,ys,rfl,hb,hys⟩:=bW.mp ht
 have hyl:=hys.length
 refine⟨_,rfl,_,rfl,b,ys,rfl,.inr hb,_,_,rfl,rfl,_,rfl,ite2 (fun h=>?_) (fun h=>?_)⟩
 ·have hp:p<ts.length:=by have:=of_decide_eq_true h; lia
  refine⟨_,rfl,_,rfl,fun o dx ho hd ne=>⟨o,dx,_,p,rfl,jM,?_⟩⟩
  have S:=kW (C:=aD) (fs:=fL (.ref b) p) ho hd ne
  have e:upd (mkO H o dx aD []) o (.ins aD dx (fL (.ref b) p))=mkO H o dx aD (fL (.ref b) p):=adt
  have fin:Q (.ref o) (mkO H o dx aD (fL (.ref b) p)):=q _ (setM M o (.row (.node (ts.drop p)))) _ S (.role g S ho ⟨_,jM⟩ (.inr ⟨dx,_,ts,p,jM,ht.mono (.of S),hp,hl,rfl⟩)) (.inr ⟨o,rfl,fV⟩)
  exact⟨rfl,e ▸ fin⟩
 ·have hp:ts.length≤p:=by
   have:¬ ((p:Int)<(ys.length:Int)):=fun z=>h (decide_eq_true z)
   lia
  refine⟨Nat.zero_le _,fun p1 g1=>?_⟩
  obtain⟨S1,t1⟩:=bH (K:=K) (ts:=[]) g1 (bM.mpr rfl)
  refine q _ M _ S1 (.grow g S1) (.inl ?_)
  rw [List.drop_eq_nil_of_le hp]
  exact t1
theorem abu (O:Own K ao aD aG aL aM aK) (cJ:mg "isinstance"=none)
  {TV:Addr}{Ti:FuncData} (aaW:Fun K "later" "later" vW TV Ti) (aaV:FnOk P w K mg base CX0 33 TV Ti ["tree","place"] (aam K ao aD aG aL)) (aaP:Binds K Ti ["tree","place"] []) (aaC:mg "later"=some (.ref TV))
  (fZ:mg "Fronted"=some (.ref ao))
  (mC:mg "Later"=some (.ref aD))
  (F:Fun K "rest_of" "rest_of" qz f fd):FnOk P w K mg base CX0 34 f fd ["row"] (V6 K ao aD aG aL):=by
 refine okQ F abg (fun vs H Q E h=>?_) (fun cdv A outer s H vs Q E hr h=>?_)
 ·obtain⟨x,t,M,H₀,rfl,_⟩:=h
  rfl
 obtain⟨x,t,M,H₀,rfl,g,hx,hd,hk,q⟩:=h
 refine⟨_,(aq (bC (oA (cY lO rfl cJ jT (aj (qv 0) (aj (aW (v:=.ref ao) rfl fZ rfl) ak)))) (aA (aO (bN (qv 0) rfl))) aX)
   (aq (bC (oA (cY lO rfl cJ jT (aj (qv 0) (aj (aW (v:=.ref aD) rfl mC rfl) ak)))) (aA (aO (aJ aaV hr rfl aaC aaW.kp aaP .nil pass0 (aj (bN (qv 0) rfl) (aj (aV op_add (bN (qv 0) rfl) au) ak))))) aX)
   (aA (aO (aJ aaV hr rfl aaC aaW.kp aaP .nil pass0 (aj (qv 0) (aj au ak))))))),?_⟩
 rcases hx.cases g with hu | ⟨a,dx,y,z,u,ts,rfl,ha,rfl,hy,hz⟩
 ·rcases hu with ht | ⟨a,dx,v,ts,p,rfl,ha,hv,hp,hl,rfl⟩
  ·obtain⟨b,ys,rfl,hb,_⟩:=uo ht
   refine⟨_,rfl,_,ao,false,rfl,.inr ⟨b,ys,rfl,hb,O.iTF⟩,_,rfl,iteF ?_⟩
   refine⟨_,rfl,_,aD,false,rfl,.inr ⟨b,ys,rfl,hb,O.iTL⟩,_,rfl,iteF ?_⟩
   exact⟨_,rfl,_,t.kids,1,M,H₀,rfl,g,jr ht,hk,fun y M' H' S G h=>q y M' H' S G h⟩
  ·refine⟨_,rfl,_,ao,false,rfl,.inl ⟨_,O.rL.ty ha,O.iLF⟩,_,rfl,iteF ?_⟩
   refine⟨_,rfl,_,aD,true,rfl,.inl ⟨_,O.rL.ty ha,O.iLL⟩,_,rfl,iteT ?_⟩
   refine⟨_,rfl,a,aD,dx,_,_,rfl,ha,O.rL.cl,O.lt,fQ _ _ _,_,rfl,a,aD,dx,_,_,rfl,ha,O.rL.cl,O.lp,(cO (by decide +kernel) _ _).trans (fQ _ _ _),_,_,rfl,rfl,v,ts,p+1,M,H₀,rfl,g,hv,hl,fun y M' H' S G h=>q y M' H' S G ?_⟩
   have:aZ (T.node (ts.drop p))=.node (ts.drop (p+1)):=by
    show T.node ((ts.drop p).drop 1)=_
    rw [List.drop_drop]
   rw [this]
   exact h
 ·refine⟨_,rfl,_,ao,true,rfl,.inl ⟨_,O.rF.ty ha,O.iFF⟩,_,rfl,iteT ?_⟩
  exact⟨_,rfl,a,ao,dx,_,_,rfl,ha,O.rF.cl,O.fb,(cO (by decide +kernel) _ _).trans (fQ _ _ _),q _ M _ (Same.refl _) (.refl g) hz⟩
theorem WW (O:Own K ao aD aG aL aM aK) (cJ:mg "isinstance"=none)
  (mC:mg "Later"=some (.ref aD))
  (F:Fun K "unfronted" "unfronted" j8 f fd):FnOk P w K mg base CX0 31 f fd ["row"] (V3 K aD):=by
 refine okQ F Wj (fun vs H Q E h=>?_) (fun cdv A outer s H vs Q E hr h=>?_)
 ·obtain⟨x,t,rfl,_⟩:=h
  rfl
 obtain⟨x,t,rfl,hu,q⟩:=h
 refine⟨_,(aq (bC (oA (cY lO rfl cJ jT (aj (qv 0) (aj (aW (v:=.ref aD) rfl mC rfl) ak)))) (aA (aO (bY cT (bN (qv 0) rfl) (cM (bN (qv 0) rfl)) cN))) aX)
   (aA (aO (qv 0)))),?_⟩
 rcases hu with ht | ⟨a,dx,v,ts,p,rfl,ha,hv,hp,hl,rfl⟩
 ·obtain⟨b,ys,rfl,hb,_⟩:=uo ht
  refine⟨_,rfl,_,aD,false,rfl,.inr ⟨b,ys,rfl,hb,O.iTL⟩,_,rfl,iteF ?_⟩
  exact⟨_,rfl,q _ _ (Same.refl _) ht⟩
 ·refine⟨_,rfl,_,aD,true,rfl,.inl ⟨_,O.rL.ty ha,O.iLL⟩,_,rfl,iteT ?_⟩
  obtain⟨b,ys,rfl,hb,hys⟩:=bW.mp hv
  refine⟨_,rfl,a,aD,dx,_,_,rfl,ha,O.rL.cl,O.lt,fQ _ _ _,_,rfl,a,aD,dx,_,_,rfl,ha,O.rL.cl,O.lp,(cO (by decide +kernel) _ _).trans (fQ _ _ _),(p:Int),rfl,b,ys,rfl,hb,fun p1 H1 S1 h1=>q _ _ S1 (wV h1 ?_)⟩
  rw [Oj]
  exact (hys.drop p).mono (.of S1)
theorem P0 (O:Own K ao aD aG aL aM aK) (cJ:mg "isinstance"=none)
  {nT:Addr}{nQ:FuncData} (DN:Fun K "unfronted" "unfronted" j8 nT nQ) (DG:FnOk P w K mg base CX0 31 nT nQ ["row"] (V3 K aD)) (Dk:Binds K nQ ["row"] []) (Cv:mg "unfronted"=some (.ref nT))
  (fZ:mg "Fronted"=some (.ref ao))
  (F:Fun K "parts_within" "parts_within" ji f fd):FnOk P w K mg base CX0 32 f fd ["row","most"] (V7 K ao aD aG aL):=by
 refine okQ F mQ (fun vs H Q E h=>?_) (fun cdv A outer s H vs Q E hr h=>?_)
 ·obtain⟨x,t,M,H₀,m,rfl,_⟩:=h
  rfl
 obtain⟨x,t,M,H₀,m,rfl,g,hx,hz,q⟩:=h
 refine⟨_,(aq (bA (i:=2) mQ.nd rfl (Or.inl rfl) (pI (aj (qv 0) ak)))
   (aq (bA (i:=3) mQ.nd rfl (Or.inl rfl) au)
   (aq (tQ PassesOwn.never (QW.pt (qI (Fq (qv 2) (fun _=>rfl)) (pY (aQ afB (qv 3) (qv 1) (nomark _))))) (aq (bA (i:=4) mQ.nd rfl (Or.inl rfl) (qM PySem.F.plainAttrs_list PySem.F.slot_list_pop PySem.F.type_list_pop sS (qv 2)))
   (aA (bC (oA (cY lO rfl cJ jT (aj (qv 4) (aj (aW (v:=.ref ao) rfl fZ rfl) ak)))) (aq (cZ (gQ PySem.F.plainAttrs_list PySem.F.slot_list_append PySem.F.type_list_append dD (qv 2) (aj (bN (qv 4) rfl) ak)))
   (aA (cZ (gQ PySem.F.plainAttrs_list PySem.F.slot_list_append PySem.F.type_list_append dD (qv 2) (aj (bN (qv 4) rfl) ak))))) (aq (ac7 (i:=3) mQ.nd rfl (Or.inl rfl) au Jc)
   (aA (cZ (gQ PySem.F.plainAttrs_list PySem.F.slot_list_extend PySem.F.type_list_extend RL (qv 2) (aj (aJ DG hr rfl Cv DN.kp Dk .nil pass0 (aj (qv 4) ak)) ak)))))))))
   (aA (aO (qv 3)))))),?_⟩
 refine⟨_,rfl,(by show 1≤sizeLine; decide),fun p hp=>?_⟩
 refine⟨WPW K M H x m t.parts p,⟨_,[x],[t],0,none,rfl,same_new hp _,upd_same,bB.one (hx.mono (Kt.new hp) fun _ _ z=>z),by rw [T.aF,T.aY]; lia,rfl⟩,?_⟩
 rintro μ σ H' ⟨ys,ts,c,o,rfl,S,hl,ha,hc,rfl⟩
 refine⟨_,rfl,!ys.isEmpty,.inl ⟨ys,SqL.of hl,rfl⟩,ite2 (fun hb=>?_) (fun hb=>?_)⟩
 ·refine⟨_,rfl,_,rfl,_,_,rfl,rfl,_,rfl,ite2 (fun hle=>?_) (fun hle=>?_)⟩
  ·have hne:ys≠[]:=by rintro rfl; exact absurd hb (by decide)
   obtain⟨u,ts0,y,rfl,hy,ha0,hu⟩:=adU ha hne
   have hyl:=ha0.length
   rw [List.length_reverse] at hyl
   have hpp:=T.aF u ts0
   have hlp:=T.cL ts0
   have hup:=T.gC u
   refine⟨fun σ' H'=>∃ m',m'<2 * T.aH (u::ts0) - (u::ts0).length∧WPW K M H x m t.parts p m' σ' H',fun _ _ h=>h,?_⟩
   refine⟨_,rfl,.inl ⟨rfl,_,SqL.of hl⟩,p,ys,y,rfl,rfl,hl,hy,?_⟩
   have k1:=Ki.lst (o:=.lst ys.dropLast) hl
   have g1:=g.grow S
   rcases hu.cases g1 with hu | ⟨a,dx,y1,z1,u1,ts1,rfl,ha1,rfl,hy1,hz1⟩
   ·have hu1:=hu.mono k1
    refine⟨_,rfl,y,ao,false,rfl,hu1.ah0 O,_,rfl,iteF ?_⟩
    refine⟨_,rfl,_,_,rfl,rfl,?_⟩
    refine⟨_,rfl,.inl ⟨rfl,_,SqL.of upd_same⟩,_,rfl,y,u,rfl,hu1,fun y2 H2 S2 t2=>?_⟩
    obtain⟨b2,zs2,rfl,hb2,hz2⟩:=uo t2
    have hzl:=hz2.length
    have hk:=T.cI u
    have hlk:=T.cL u.kids
    have h2:=S2 _ _ (upd_same (H:=H') (a:=p) (o:=.lst ys.dropLast))
    refine⟨p,b2,ys.dropLast,zs2,rfl,rfl,h2,hb2,cR (by lia),?_⟩
    refine⟨_,?_,ys.dropLast++zs2,u.kids.reverse++ts0,c+1,_,rfl,?_,upd_same,?_,?_,rfl⟩
    ·rw [T.b_,Fx,List.length_append,List.length_reverse,hpp]
     show _<2 * _ - (ts0.length+1)
     lia
    ·exact gB ((gB S hp).trans S2) hp
    ·rw [List.reverse_append,List.reverse_reverse]
     exact bB.append (iY (k1.kt.trans ((Kt.of S2).trans (Kt.lst h2))) ha0) (iY (Kt.lst h2) (QJ hz2))
    ·rw [T.b_,Fx]
     lia
   ·refine⟨_,rfl,_,ao,true,rfl,.inl ⟨_,O.rF.ty (k1.ins _ _ _ _ ha1),O.iFF⟩,_,rfl,iteT ?_⟩
    refine⟨_,rfl,.inl ⟨rfl,_,SqL.of upd_same⟩,_,rfl,a,ao,dx,_,_,rfl,k1.ins _ _ _ _ ha1,O.rF.cl,O.fi,fQ _ _ _,p,_,_,rfl,rfl,upd_same,g8 (by lia),?_⟩
    rw [nF]
    have k2:=Ki.lst (o:=.lst (ys.dropLast++[y1])) hl
    refine⟨_,rfl,.inl ⟨rfl,_,SqL.of upd_same⟩,_,rfl,a,ao,dx,_,_,rfl,k2.ins _ _ _ _ ha1,O.rF.cl,O.fb,(cO (by decide +kernel) _ _).trans (fQ _ _ _),p,_,_,rfl,rfl,upd_same,g8 (by rw [List.length_append,List.length_singleton]; lia),?_⟩
    rw [nF]
    have k3:=Ki.lst (o:=.lst (ys.dropLast++[y1]++[z1])) hl
    have e1:=T.aN (u1::ts1)
    have e2:=T.aF u1 ts1
    have e3:=T.aN ts1
    refine⟨_,?_,ys.dropLast++[y1]++[z1],.node ts1::u1::ts0,c,_,rfl,gB S hp,upd_same,?_,?_,rfl⟩
    ·rw [T.aF,T.aF,hpp]
     show _ - (ts0.length+1+1)<_ - (ts0.length+1)
     lia
    ·rw [List.reverse_cons,List.reverse_cons]
     exact bB.append (bB.append (iY k3.kt ha0) (bB.one (hy1.mono k3.kt fun _ _ z=>z))) (bB.one (hz1.mono k3.kt fun _ _ z=>z))
    ·rw [T.aF,T.aF]
     lia
  ·have hle':m<c:=by
    have:¬ ((c:Int)≤(m:Int)):=fun z=>hle (decide_eq_true z)
    lia
   exact⟨_,rfl,q c _ S (fun z=>by lia) (fun _=>hle')⟩
 ·have hys:ys=[]:=by
   cases ys with
   | nil=>rfl
   | cons _ _=>exact absurd rfl hb
  subst hys
  have hts:=all_nil ha
  subst hts
  rw [T.aY] at hc
  exact iteF ⟨_,rfl,q c _ S (fun _=>by lia) (fun _=>by lia)⟩
theorem abA (O:Own K ao aD aG aL aM aK) (cJ:mg "isinstance"=none) (dM:mg "tuple"=none)
  {nT:Addr}{nQ:FuncData} (DN:Fun K "unfronted" "unfronted" j8 nT nQ) (DG:FnOk P w K mg base CX0 31 nT nQ ["row"] (V3 K aD)) (Dk:Binds K nQ ["row"] []) (Cv:mg "unfronted"=some (.ref nT))
  (fZ:mg "Fronted"=some (.ref ao))
  (F:Fun K "as_tree" "as_tree" oN f fd):FnOk P w K mg base CX0 32 f fd ["row"] (LC K ao aD aG aL):=by
 refine okQ F uO (fun vs H Q E h=>?_) (fun cdv A outer s H vs Q E hr h=>?_)
 ·obtain⟨x,t,M,H₀,rfl,_⟩:=h
  rfl
 obtain⟨x,t,M,H₀,rfl,g,hx,hz,q⟩:=h
 refine⟨_,(aq (bA (i:=1) uO.nd rfl (Or.inl rfl) (pI (aj (qv 0) ak)))
   (aq (bA (i:=2) uO.nd rfl (Or.inl rfl) (pI (aj (pI ak) ak)))
   (aA (tQ PassesOwn.never (oA yX) (aq (bA (i:=3) uO.nd rfl (Or.inl rfl) (bK ix_list (qv 1) (Bx wW au) (fun _ _=>rfl)))
   (aq (bC (oA (cY lO rfl cJ jT (aj (qv 3) (aj (aW (v:=.ref ao) rfl fZ rfl) ak)))) (aq (Ik (bN (qv 3) rfl) (ahB (qv 1) (Bx wW au) set_list))
   (aq (cZ (gQ PySem.F.plainAttrs_list PySem.F.slot_list_append PySem.F.type_list_append dD (qv 1) (aj (bN (qv 3) rfl) ak)))
   (aq (cZ (gQ PySem.F.plainAttrs_list PySem.F.slot_list_append PySem.F.type_list_append dD (qv 2) (aj (pI ak) ak)))
   (aA Zk)))) aX)
   (aq (cZ (qM PySem.F.plainAttrs_list PySem.F.slot_list_pop PySem.F.type_list_pop sS (qv 1)))
   (aq (bA (i:=4) uO.nd rfl (Or.inl rfl) (aV bf (kI gR rfl dM pA (aj (qM PySem.F.plainAttrs_list PySem.F.slot_list_pop PySem.F.type_list_pop sS (qv 2)) ak)) (aJ DG hr rfl Cv DN.kp Dk .nil pass0 (aj (qv 3) ak))))
   (aq (bC (PJ (Fq (qv 1) (fun _=>rfl))) (aA (aO (qv 4))) aX)
   (aA (cZ (gQ PySem.F.plainAttrs_list PySem.F.slot_list_append PySem.F.type_list_append dD (bK ix_list (qv 2) (Bx wW au) (fun _ _=>rfl)) (aj (qv 4) ak))))))))))))),?_⟩
 refine⟨_,rfl,(by show 1≤sizeLine; decide),fun pa ga=>?_⟩
 refine⟨Nat.zero_le _,fun pq gq=>⟨(by show 1≤sizeLine; decide),fun pt gt=>?_⟩⟩
 have Sa:=same_new ga (.lst [x])
 have Sq:=same_new gq (.lst [])
 have St:=same_new gt (.lst [V.ref pq])
 have n1:pa≠pq:=ne_of_none (h:=upd_same) gq
 have hpa:upd (upd H pa (.lst [x])) pq (.lst []) pa=some (.lst [x]):=by rw [upd_ne n1,upd_same]
 have n2:pa≠pt:=ne_of_none hpa gt
 have n3:pq≠pt:=ne_of_none (h:=upd_same) gt
 have a0:AsT K H (upd (upd (upd H pa (.lst [x])) pq (.lst [])) pt (.lst [V.ref pq])) pt pa [V.ref pq] [[]] [x]:=by
  have hq0:H pq=none:=Sa.free gq
  have ht0:H pt=none:=(Sa.trans Sq).free gt
  refine⟨⟨ht0,(Sa.trans Sq).trans St,upd_same,bB.one ⟨pq,[],rfl,hq0,by rw [upd_ne n3,upd_same],bM.mpr rfl⟩,?_⟩,ga,by rw [upd_ne n2]; exact hpa,?_⟩
  ·simp [Ne.symm n3]
  ·simp [n1,n2]
 have S0:=(Sa.trans Sq).trans St
 generalize upd (upd (upd H pa (.lst [x])) pq (.lst [])) pt (.lst [V.ref pq])=Hs at a0 S0
 refine⟨fun μ σ H'=>∃ (ys zs:List V) (st:List (List T)) (as:List T) (o3 o4:Option V),σ=[some x,some (.ref pa),some (.ref pt),o3,o4]∧AsT K H H' pt pa ys st zs∧bB (RV K M H') as.reverse zs∧as≠[]∧st.length=as.length∧EY st as=t∧T.aH as+(st.map List.length).sum≤t.parts∧μ=2 * T.aH as - as.length,⟨_,[.ref pq],[x],[[]],[t],none,none,rfl,a0,bB.one (hx.mono (.of S0) fun _ _ z=>z),by simp,rfl,by show T.node ([]++t.kids)=t; cases t; rfl,by rw [T.aF,T.aY]; show _+0≤_; lia,rfl⟩,?_⟩
 rintro μ σ H1 ⟨ys,zs,st,as,o3,o4,rfl,A1,ha,hne,hlen,hval,hsum,rfl⟩
 refine⟨_,rfl,iteT ?_⟩
 have aoK:zs≠[]:=by
  rintro rfl
  exact hne (all_nil ha)
 obtain⟨u,as0,zs0,y,rfl,rfl,ha0,hu⟩:=pD ha aoK
 have hzl:=ha0.length
 rw [List.length_reverse] at hzl
 have hpp:=T.aF u as0
 have hlp:=T.cL as0
 have hup:=T.gC u
 have g1:=g.grow A1.rows.same
 refine⟨fun σ' H'=>∃ m',m'<2 * T.aH (u::as0) - (u::as0).length∧∃ (ys zs:List V) (st:List (List T)) (as:List T) (o3 o4:Option V),σ'=[some x,some (.ref pa),some (.ref pt),o3,o4]∧AsT K H H' pt pa ys st zs∧bB (RV K M H') as.reverse zs∧as≠[]∧st.length=as.length∧EY st as=t∧T.aH as+(st.map List.length).sum≤t.parts∧m'=2 * T.aH as - as.length,fun _ _ h=>h,?_⟩
 refine⟨_,rfl,1,rfl,pa,_,_,_,rfl,rfl,SqL.of A1.at_,Et,?_⟩
 rcases hu.cases g1 with hu | ⟨a,dx,y1,z1,u1,ts1,rfl,ha1,rfl,hy1,hz1⟩
 ·refine⟨_,rfl,y,ao,false,rfl,hu.ah0 O,_,rfl,iteF ?_⟩
  have hk:=T.cI u
  refine⟨_,rfl,.inl ⟨rfl,_,SqL.of A1.at_⟩,pa,_,_,rfl,rfl,A1.at_,oO _ _,?_⟩
  rw [oR]
  have k1:=Ki.lst (o:=.lst zs0) A1.at_
  have A2:AsT K H (upd H1 pa (.lst zs0)) pt pa ys st zs0:=A1.place
  generalize upd H1 pa (.lst zs0)=H2 at k1 A2
  have hu2:=hu.mono k1
  have ha2:=iY k1.kt ha0
  obtain⟨l,st0,rfl⟩:∃ l st0,st=l::st0:=by
   cases st with
   | nil=>exact absurd hlen (by simp)
   | cons l st0=>exact⟨l,st0,rfl⟩
  obtain⟨ys0,b,xs,rfl,nRb,hb,hxs,A3⟩:=A2.shut
  refine⟨_,rfl,.inl ⟨rfl,_,SqL.of A2.rows.at_⟩,pt,_,_,rfl,rfl,A2.rows.at_,oO _ _,?_⟩
  rw [oR]
  have k3:=Ki.lst (o:=.lst ys0) A2.rows.at_
  have hb3:upd H2 pt (.lst ys0) b=some (.lst xs):=by rw [upd_ne (Ne.symm nRb)]; exact hb
  have aib:=hxs.mono k3.kt
  generalize upd H2 pt (.lst ys0)=H3 at k3 A3 hb3 aib
  refine⟨b,xs,rfl,.inl ⟨SqL.of hb3,fun p4 g4=>?_⟩⟩
  obtain⟨S4,t4⟩:=bH (K:=K) g4 aib
  have hu4:=(hu2.mono k3).mono (Ki.of S4)
  have hsl:(List.map List.length (l::st0)).sum=l.length+(List.map List.length st0).sum:=rfl
  refine⟨_,rfl,y,u,rfl,hu4,fun y5 H5 S5 t5=>?_⟩
  have t5':TR K H5 (.node u.kids) y5:=jr t5
  have hlk:=T.cL u.kids
  refine bV (t4.mono (.of S5)) t5' (cR (by lia)) (fun z6 H6 S6 t6=>?_)
  have S36:=S4.trans (S5.trans S6)
  have A6:=A3.grow S36
  refine⟨_,rfl,!zs0.isEmpty,.inl ⟨zs0,SqL.of A6.at_,rfl⟩,ite2 (fun he=>?_) (fun he=>?_)⟩
  ·have hz0:zs0=[]:=by
    cases zs0 with
    | nil=>rfl
    | cons _ _=>exact absurd he (by simp)
   subst hz0
   have:=all_nil ha0
   subst this
   have hs0:st0=[]:=by
    have:st0.length+1=0+1:=hlen
    exact List.length_eq_zero_iff.mp (by lia)
   subst hs0
   refine⟨_,rfl,q _ _ A6.rows.same ?_⟩
   rw [← hval]
   exact t6
  ·have hz0:zs0≠[]:=by rintro rfl; exact he rfl
   have ae0:as0≠[]:=by
    rintro rfl
    cases ha0
    exact hz0 rfl
   obtain⟨l',st1,rfl⟩:∃ l' st1,st0=l'::st1:=by
    cases st0 with
    | nil =>
     have h1:0+1=as0.length+1:=hlen
     exact absurd (List.length_eq_zero_iff.mp (by lia)) ae0
    | cons l' st1=>exact⟨l',st1,rfl⟩
   obtain⟨ys1,c,ws,rfl,hc,hwl,A7⟩:=A6.add t6
   have ard:(List.map List.length (l'::st1)).sum=l'.length+(List.map List.length st1).sum:=rfl
   refine⟨_,rfl,1,rfl,pt,_,_,_,rfl,rfl,SqL.of A6.rows.at_,Et,.inl ⟨rfl,_,SqL.of hc⟩,_,rfl,c,_,_,rfl,rfl,hc,g8 (by lia),?_⟩
   refine⟨_,?_,_,zs0,_,as0,_,_,rfl,A7,?_,ae0,?_,?_,?_,rfl⟩
   ·rw [hpp]
    show _<_ - (as0.length+1)
    lia
   ·exact iY (k3.kt.trans ((Kt.of S36).trans (Kt.lst hc))) ha2
   ·have h1:st1.length+1+1=as0.length+1:=hlen
    show st1.length+1=as0.length
    lia
   ·rw [← hval]
    cases as0 with
    | nil=>exact absurd rfl ae0
    | cons _ _=>rw [EY]
   ·show _+((l'++[_]).length+(List.map List.length st1).sum)≤_
    rw [List.length_append,List.length_singleton]
    lia
 ·have e1:=T.aN (u1::ts1)
  have e2:=T.aF u1 ts1
  have e3:=T.aN ts1
  refine⟨_,rfl,_,ao,true,rfl,.inl ⟨_,O.rF.ty ha1,O.iFF⟩,_,rfl,iteT ?_⟩
  refine⟨_,rfl,a,ao,dx,_,_,rfl,ha1,O.rF.cl,O.fb,(cO (by decide +kernel) _ _).trans (fQ _ _ _),_,rfl,1,rfl,pa,_,-1,_,rfl,rfl,A1.at_,agJ _ _,?_⟩
  rw [aei]
  have k1:=Ki.lst (o:=.lst (zs0++[z1])) A1.at_
  have A2:AsT K H (upd H1 pa (.lst (zs0++[z1]))) pt pa ys st (zs0++[z1]):=A1.place
  generalize upd H1 pa (.lst (zs0++[z1]))=H2 at k1 A2
  refine⟨_,rfl,.inl ⟨rfl,_,SqL.of A2.at_⟩,_,rfl,a,ao,dx,_,_,rfl,k1.ins _ _ _ _ ha1,O.rF.cl,O.fi,fQ _ _ _,pa,_,_,rfl,rfl,A2.at_,g8 (by rw [List.length_append,List.length_singleton]; lia),?_⟩
  have k2:=Ki.lst (o:=.lst (zs0++[z1]++[y1])) A2.at_
  have A3:AsT K H (upd H2 pa (.lst (zs0++[z1]++[y1]))) pt pa ys st (zs0++[z1]++[y1]):=A2.place
  generalize upd H2 pa (.lst (zs0++[z1]++[y1]))=H3 at k2 A3
  refine⟨_,rfl,.inl ⟨rfl,_,SqL.of A3.rows.at_⟩,Nat.zero_le _,fun pn gn=>⟨pt,_,_,rfl,rfl,same_new gn _ _ _ A3.rows.at_,?_,?_⟩⟩
  ·have hyl:=A3.rows.rows.length
   rw [List.length_reverse] at hyl
   exact g8 (by
    have h1:st.length=as0.length+1:=hlen
    lia)
  ·have A4:=A3.enter gn
   have k4:Kt H3 (upd (upd H3 pn (.lst [])) pt (.lst (ys++[.ref pn]))):=(Kt.new gn).trans (Kt.lst (same_new gn _ _ _ A3.rows.at_))
   have k:=k1.kt.trans (k2.kt.trans k4)
   obtain⟨l,st0,rfl⟩:∃ l st0,st=l::st0:=by
    cases st with
    | nil=>exact absurd hlen (by simp)
    | cons l st0=>exact⟨l,st0,rfl⟩
   refine⟨_,?_,_,_,_,u1::.node ts1::as0,_,_,rfl,A4,?_,by simp,?_,?_,?_,rfl⟩
   ·rw [T.aF,T.aF,hpp]
    show _ - (as0.length+1+1)<_ - (as0.length+1)
    lia
   ·rw [List.reverse_cons,List.reverse_cons]
    exact bB.append (bB.append (iY k ha0) (bB.one (hz1.mono k fun _ _ z=>z))) (bB.one (hy1.mono k fun _ _ z=>z))
   ·have h1:(l::st0).length=as0.length+1:=hlen
    show (l::st0).length+1=as0.length+1+1
    rw [h1]
   ·rw [aed]
    exact hval
   ·have e9:(List.map List.length ([]::l::st0)).sum=(List.map List.length (l::st0)).sum:=by simp
    rw [T.aF,T.aF,e9]
    lia
end
section
variable {P:Program}{w:World}{K:PySem.W.Frag}{mg:Str→Option Value}{base:Heap}{f:Addr}{fd:FuncData}{ao aD aG aL aM aK:Addr}
theorem Zq (O:Own K ao aD aG aL aM aK) {mO:Value} (pL:mg "FORK"=some mO) (mX:RelV (.int 7) mO) {jx:Value} (mY:mg "FORK_NO"=some jx) (jB:RelV (.int 8) jx) {iH:Value} (j4:mg "FORK_YES"=some iH) (iM:RelV (.int 7) iH) {dR:Value} (eV:mg "WHILE"=some dR) (dU:RelV (.int 8) dR) {qp:Value} (Ad:mg "WHILE_PAST"=some qp) (qH:RelV (.int 10) qp) {fU:Value} (iR:mg "WHILE_INTO"=some fU) (fX:RelV (.int 9) fU) {mL:Value} (rM:mg "NAMELESS"=some mL) (mW:RelV (.int 9) mL) {xg:Value} (I_:mg "NO_WORD"=some xg) (xP:RelV (.int 11) xg)
  (F:Fun K "place_of" "place_of" jZ f fd):FnOk P w K mg base CX0 31 f fd ["sort","top"] (Q7 K ao aD aG aL):=by
 refine okQ F Zg (fun vs H Q E h=>?_) (fun cdv A outer s H vs Q E hr h=>?_)
 ·obtain⟨k,x,t,M,H₀,rfl,_⟩:=h
  rfl
 obtain⟨k,x,t,M,H₀,rfl,g,hx,hd,q⟩:=h
 have hE:=hr.un
 have hE:(A.deeper (envOfC "place_of" (defScope jZ) s.heap.objs.size f cdv)).units+401<cLine:=by lia
 refine⟨_,(aq (bC (aQ op_eq (qv 0) (aW (v:=.int 7) rfl pL mX) (nomark _)) (aA (aO (tR (aQ (WR hE) (qv 1) (aP ak) (nomark _)) (aW (v:=.int 8) rfl mY jB) (aW (v:=.int 7) rfl j4 iM)))) aX)
   (aq (bC (aQ op_eq (qv 0) (aW (v:=.int 8) rfl eV dU) (nomark _)) (aA (aO (tR (aQ (WR hE) (qv 1) (aP ak) (nomark _)) (aW (v:=.int 10) rfl Ad qH) (aW (v:=.int 9) rfl iR fX)))) aX)
   (aA (aO (tR (aQ op_eq (qv 0) (aW (v:=.int 9) rfl rM mW) (nomark _)) (aW (v:=.int 11) rfl I_ xP) (qv 0)))))),?_⟩
 refine⟨_,rfl,rfl,_,rfl,ite2 (fun h7=>?_) (fun h7=>?_)⟩
 ·have h7:k=7:=by have:=V.int.inj (of_decide_eq_true h7); lia
  refine⟨_,rfl,Nat.zero_le _,fun p gp=>aaK O g hx (by lia) gp ⟨_,rfl,ite2 (fun he=>?_) (fun he=>?_)⟩⟩
  ·have:=q _ (same_new gp (.tup []))
   rw [uT,if_pos h7,if_pos (of_decide_eq_true he)] at this
   exact this
  ·have:=q _ (same_new gp (.tup []))
   rw [uT,if_pos h7,if_neg (fun z=>he (decide_eq_true z))] at this
   exact this
 have h7:¬ k=7:=fun z=>h7 (decide_eq_true (by rw [z]; rfl))
 refine⟨_,rfl,rfl,_,rfl,ite2 (fun h8=>?_) (fun h8=>?_)⟩
 ·have h8:k=8:=by have:=V.int.inj (of_decide_eq_true h8); lia
  refine⟨_,rfl,Nat.zero_le _,fun p gp=>aaK O g hx (by lia) gp ⟨_,rfl,ite2 (fun he=>?_) (fun he=>?_)⟩⟩
  ·have:=q _ (same_new gp (.tup []))
   rw [uT,if_neg h7,if_pos h8,if_pos (of_decide_eq_true he)] at this
   exact this
  ·have:=q _ (same_new gp (.tup []))
   rw [uT,if_neg h7,if_pos h8,if_neg (fun z=>he (decide_eq_true z))] at this
   exact this
 have h8:¬ k=8:=fun z=>h8 (decide_eq_true (by rw [z]; rfl))
 refine⟨_,rfl,rfl,_,rfl,ite2 (fun h9=>?_) (fun h9=>?_)⟩
 ·have h9:k=9:=by have:=V.int.inj (of_decide_eq_true h9); lia
  have:=q _ (Same.refl H)
  rw [uT,if_neg h7,if_neg h8,if_pos h9] at this
  exact this
 ·have h9:¬ k=9:=fun z=>h9 (decide_eq_true (by rw [z]; rfl))
  have:=q _ (Same.refl H)
  rw [uT,if_neg h7,if_neg h8,if_neg h9] at this
  exact⟨_,rfl,this⟩
theorem MJ (O:Own K ao aD aG aL aM aK) {mO:Value} (pL:mg "FORK"=some mO) (mX:RelV (.int 7) mO) {dR:Value} (eV:mg "WHILE"=some dR) (dU:RelV (.int 8) dR)
  {jF:Addr}{jD:FuncData} (yr:Fun K "sort_of" "sort_of" mU jF jD) (yj:FnOk P w K mg base CX0 33 jF jD ["word"] (Ke K)) (yd:Binds K jD ["word"] []) (xU:mg "sort_of"=some (.ref jF))
  {rA:Addr}{qW:FuncData} (J2:Fun K "load_of" "load_of" oM rA qW) (JX:FnOk P w K mg base CX0 33 rA qW ["word"] (xG K)) (Jz:Binds K qW ["word"] []) (IK:mg "load_of"=some (.ref rA))
  {cX:Addr}{cW:FuncData} (ju:Fun K "first" "first" jJ cX cW) (jt:FnOk P w K mg base CX0 33 cX cW ["tree"] (ur K)) (jo:Binds K cW ["tree"] []) (jm:mg "first"=some (.ref cX))
  {lR:Addr}{lJ:FuncData} (yt:Fun K "rest" "rest" sG lR lJ) (yp:FnOk P w K mg base CX0 33 lR lJ ["tree"] (xG K)) (yg:Binds K lJ ["tree"] []) (xV:mg "rest"=some (.ref lR))
  (xX:mg "Text"=some (.ref aL))
  {fJ:Addr}{nq:FuncData} (uI:Mk K aL fJ) (nA:FnOk P w K mg base CX0 32 fJ nq ["self","tree"] (Ly aL)) (gD:Binds K nq ["self","tree"] [])
  (F:Fun K "__init__" "Word.__init__" jK f fd):FnOk P w K mg base CX0 34 f fd ["self","tree"] (V2 K ao aD aG aL):=by
 refine okQ F Mf (fun vs H Q E h=>?_) (fun cdv A outer s H vs Q E hr h=>?_)
 ·obtain⟨o,dx,x,w',M,H₀,rfl,_⟩:=h
  rfl
 obtain⟨o,dx,x,w',M,H₀,rfl,g,hm,ho,hx,hd,q⟩:=h
 refine⟨_,(aq (gA (qv 0) (aJ yj hr rfl xU yr.kp yd .nil pass0 (aj (qv 1) ak)) rfl)
   (aq (gA (qv 0) (aJ JX hr rfl IK J2.kp Jz .nil pass0 (aj (qv 1) ak)) rfl)
   (aq (gA (qv 0) qL rfl)
   (aq (gA (qv 0) qL rfl)
   (aq (gA (qv 0) qL rfl)
   (aq (gA (qv 0) qL rfl)
   (aq (bC (aQ op_eq (bN (qv 0) rfl) (aW (v:=.int 7) rfl pL mX) (nomark _)) (aq (gA (qv 0) (mj uI nA hr rfl xX gD .nil pass0 (aj (aJ jt hr rfl jm ju.kp jo .nil pass0 (aj (bN (qv 0) rfl) ak)) ak)) rfl)
   (aA (gA (qv 0) (mj uI nA hr rfl xX gD .nil pass0 (aj (aJ yp hr rfl xV yt.kp yg .nil pass0 (aj (bN (qv 0) rfl) ak)) ak)) rfl))) aX)
   (aA (bC (aQ op_eq (bN (qv 0) rfl) (aW (v:=.int 8) rfl eV dU) (nomark _)) (aA (gA (qv 0) (mj uI nA hr rfl xX gD .nil pass0 (aj (bN (qv 0) rfl) ak)) rfl)) aX))))))))),?_⟩
 refine⟨_,rfl,x,w',rfl,hx,hd,fun H1 S1=>⟨_,rfl,o,aG,dx,[],rfl,S1 _ _ ho,O.iw,O.wk,by show 0<1000; decide,?_⟩⟩
 rw [pd1]
 have kt {u:HO}{Ha:Hp}{fs:List (Str×V)} (h:Ha o=some (.ins aG dx fs)):Kt Ha (upd Ha o u):=Kt.ins h
 have G1:Go K ao aD aG aL (fun a=>a=o) M M H₀ H (upd H1 o (.ins aG dx (d1 (.int (aB w':Nat))))):=Go.qO (.grow g S1) hm rfl (kt (S1 _ _ ho))
 have O1:∀ c u,H c=some u→c≠o→upd H1 o (.ins aG dx (d1 (.int (aB w':Nat)))) c=some u:=fun c u h n=>by rw [upd_ne n]; exact S1 _ _ h
 have h1:upd H1 o (.ins aG dx (d1 (.int (aB w':Nat)))) o=some (.ins aG dx (d1 (.int (aB w':Nat)))):=upd_same
 generalize upd H1 o (.ins aG dx (d1 (.int (aB w':Nat))))=H2 at G1 O1 h1
 refine⟨_,rfl,x,w',rfl,hx.mono G1.kt,fun v H3 S3 tv=>⟨_,rfl,o,aG,dx,_,rfl,S3 _ _ h1,O.iw,O.wl,by show 1<1000; decide,?_⟩⟩
 rw [pd2]
 have G3:Go K ao aD aG aL (fun a=>a=o) M M H₀ H (upd H3 o (.ins aG dx (d2 (.int (aB w':Nat)) v))):=Go.qO (G1.trans (.grow G1.gh S3)) hm rfl (kt (S3 _ _ h1))
 have O3:∀ c u,H c=some u→c≠o→upd H3 o (.ins aG dx (d2 (.int (aB w':Nat)) v)) c=some u:=fun c u h n=>by rw [upd_ne n]; exact S3 _ _ (O1 c u h n)
 have tv3:TR K (upd H3 o (.ins aG dx (d2 (.int (aB w':Nat)) v))) (aZ w') v:=tv.mono (kt (S3 _ _ h1))
 have h3:upd H3 o (.ins aG dx (d2 (.int (aB w':Nat)) v)) o=some (.ins aG dx (d2 (.int (aB w':Nat)) v)):=upd_same
 generalize upd H3 o (.ins aG dx (d2 (.int (aB w':Nat)) v))=H4 at G3 O3 tv3 h3
 refine⟨_,rfl,o,aG,dx,_,rfl,h3,O.iw,O.wy,by show 2<1000; decide,?_⟩
 rw [pd3]
 refine⟨_,rfl,o,aG,dx,_,rfl,upd_same,O.iw,O.wn,by show 3<1000; decide,?_⟩
 rw [pd4,nF]
 refine⟨_,rfl,o,aG,dx,_,rfl,upd_same,O.iw,O.wb,by show 4<1000; decide,?_⟩
 rw [pd5,nF]
 refine⟨_,rfl,o,aG,dx,_,rfl,upd_same,O.iw,O.ws,by show 5<1000; decide,?_⟩
 rw [pd6,nF]
 have G5:Go K ao aD aG aL (fun a=>a=o) M M H₀ H (upd H4 o (.ins aG dx (fD (aB w') v .non .non .non .non))):=Go.qO G3 hm rfl (kt h3)
 have O5:∀ c u,H c=some u→c≠o→upd H4 o (.ins aG dx (fD (aB w') v .non .non .non .non)) c=some u:=fun c u h n=>by rw [upd_ne n]; exact O3 c u h n
 have tv5:TR K (upd H4 o (.ins aG dx (fD (aB w') v .non .non .non .non))) (aZ w') v:=tv3.mono (kt h3)
 have h5:upd H4 o (.ins aG dx (fD (aB w') v .non .non .non .non)) o=some (.ins aG dx (fD (aB w') v .non .non .non .non)):=upd_same
 generalize upd H4 o (.ins aG dx (fD (aB w') v .non .non .non .non))=H5 at G5 O5 tv5 h5
 have hdl:(aZ w').deep≤400:=Nat.le_trans (adH w') hd
 dsimp only
 refine abN (fun σ' H'=>σ'=[some (.ref o),some x]∧∃ M' y n,Go K ao aD aG aL (fun a=>a=o) M M' H₀ H H'∧(∀ c u,H c=some u→c≠o→H' c=some u)∧H' o=some (.ins aG dx (fD (aB w') v y n .non .non))∧TR K H' (aZ w') v∧W7 M' w' y n) (fun σ' H6 h6=>?_) (fun A' B' hA hB=>⟨_,rfl,o,aG,dx,_,_,rfl,h5,O.iw,O.wk,ldK,rfl,_,rfl,ite2 (fun h=>hA _ fun N hN=>?_) (fun h=>hB _ ⟨rfl,M,.non,.non,G5,O5,h5,tv5,fun z=>absurd (decide_eq_true (by rw [z]; rfl)) h⟩)⟩)
 rotate_left
 ·refine⟨_,rfl,o,aG,dx,_,_,rfl,h5,O.iw,O.wl,ldL,v,aZ w',rfl,tv5,hdl,fun y1 H6 S6 t6=>fun a da ha hda ne=>⟨a,da,y1,rfl,jM,fun W hW=>⟨rfl,_,rfl,o,aG,dx,fD (aB w') v .non .non .non .non,rfl,?_,O.iw,O.wy,by show 6<1000; decide,?_⟩⟩⟩
  ·obtain⟨_,S7,_⟩:=Go.newText (X:=fun a=>a=o) (G5.trans (.grow G5.gh S6)).gh t6 ha hda ne hW
   exact S7 _ _ (S6 _ _ h5)
  obtain⟨G7,S7,tx7⟩:=Go.newText (X:=fun a=>a=o) (G5.trans (.grow G5.gh S6)).gh t6 ha hda ne hW
  have h7:=S7 _ _ (S6 _ _ h5)
  have tv7:=tv5.mono (.of (S6.trans S7))
  have O7:∀ c u,H c=some u→c≠o→_:=fun c u h n=>S7 _ _ (S6 _ _ (O5 c u h n))
  have G7':=(G5.trans (.grow G5.gh S6)).trans G7
  generalize setM (setM M W (.words (ats (aZ w').kids 0))) a (.text (ats (aZ w').kids 0) W)=M7 at G7' tx7
  generalize upd (upd (mkO H6 a da aL []) W (.lst [])) a (.ins aL da (fT y1 W))=H7 at S7 h7 tv7 O7 G7'
  rw [pdY]
  have hm7:=G7'.ext _ _ hm
  have G8:=G7'.qO (u:=.ins aG dx (fD (aB w') v (.ref a) .non .non .non)) hm7 rfl (kt h7)
  have O8:∀ c u,H c=some u→c≠o→upd H7 o (.ins aG dx (fD (aB w') v (.ref a) .non .non .non)) c=some u:=fun c u h n=>by rw [upd_ne n]; exact O7 c u h n
  have tv8:=tv7.mono (kt (u:=.ins aG dx (fD (aB w') v (.ref a) .non .non .non)) h7)
  have h8:upd H7 o (.ins aG dx (fD (aB w') v (.ref a) .non .non .non)) o=some (.ins aG dx (fD (aB w') v (.ref a) .non .non .non)):=upd_same
  generalize upd H7 o (.ins aG dx (fD (aB w') v (.ref a) .non .non .non))=H8 at G8 O8 tv8 h8
  refine⟨_,rfl,o,aG,dx,_,_,rfl,h8,O.iw,O.wl,ldL,v,aZ w',rfl,tv8,fun y9 H9 S9 t9=>fun c dc hc hdc ne9=>⟨c,dc,y9,rfl,jM,fun W9 hW9=>⟨rfl,_,rfl,o,aG,dx,fD (aB w') v (.ref a) .non .non .non,rfl,?_,O.iw,O.wn,by show 6<1000; decide,?_⟩⟩⟩
  ·obtain⟨_,S10,_⟩:=Go.newText (X:=fun a=>a=o) (G8.trans (.grow G8.gh S9)).gh t9 hc hdc ne9 hW9
   exact S10 _ _ (S9 _ _ h8)
  obtain⟨G10,S10,akn⟩:=Go.newText (X:=fun a=>a=o) (G8.trans (.grow G8.gh S9)).gh t9 hc hdc ne9 hW9
  have h10:=S10 _ _ (S9 _ _ h8)
  have ako:=tv8.mono (.of (S9.trans S10))
  have ajw:=(G8.trans (.grow G8.gh S9)).trans G10
  have akm:=tx7.ext G10
  rw [pdN]
  refine hN _ _ ⟨rfl,_,.ref a,.ref c,ajw.qO (ajw.ext _ _ hm) rfl (kt h10),fun c u h n=>by rw [upd_ne n]; exact S10 _ _ (S9 _ _ (O8 c u h n)),upd_same,ako.mono (kt h10),fun _=>⟨a,c,rfl,rfl,akm,akn⟩⟩
 obtain⟨rfl,M6,y6,n6,G6,O6,h6,tv6,w7⟩:=h6
 refine⟨_,rfl,o,aG,dx,_,_,rfl,h6,O.iw,O.wk,ldK,rfl,_,rfl,ite2 (fun h=>?_) (fun h=>?_)⟩
 ·refine⟨_,rfl,o,aG,dx,_,_,rfl,h6,O.iw,O.wl,ldL,fun a da ha hda ne=>⟨a,da,v,rfl,jM,fun W hW=>⟨rfl,_,rfl,o,aG,dx,fD (aB w') v y6 n6 .non .non,rfl,?_,O.iw,O.wb,by show 6<1000; decide,?_⟩⟩⟩
  ·obtain⟨_,S7,_⟩:=Go.newText (X:=fun a=>a=o) G6.gh tv6 ha hda ne hW
   exact S7 _ _ h6
  obtain⟨G7,S7,tx7⟩:=Go.newText (X:=fun a=>a=o) G6.gh tv6 ha hda ne hW
  have h7:=S7 _ _ h6
  have G7':=G6.trans G7
  rw [pdB]
  exact q _ _ v y6 n6 (.ref a) (G7'.qO (G7'.ext _ _ hm) rfl (kt h7)) (fun c u h n=>by rw [upd_ne n]; exact S7 _ _ (O6 c u h n)) upd_same ((tv6.mono (.of S7)).mono (kt h7)) (fun z=>by
   obtain⟨ay,an,e1,e2,e3,e4⟩:=w7 z
   exact⟨ay,an,e1,e2,e3.ext G7,e4.ext G7⟩) (fun _=>⟨a,rfl,tx7⟩)
 ·exact q M6 H6 v y6 n6 .non G6 O6 h6 tv6 w7 (fun z=>absurd (decide_eq_true (by rw [z]; rfl)) h)
theorem Ip (O:Own K ao aD aG aL aM aK)
  {TQ:Addr}{Tg:FuncData} (ag7:Fun K "parts" "parts" vV TQ Tg) (ag3:FnOk P w K mg base CX0 32 TQ Tg ["tree"] (zK K)) (agX:Binds K Tg ["tree"] []) (agC:mg "parts"=some (.ref TQ))
  (F:Fun K "body_parts" "Word.body_parts" iW f fd):FnOk P w K mg base CX0 33 f fd ["self"] (aao K ao aD aG aL):=by
 refine okQ F Ih (fun vs H Q E h=>?_) (fun cdv A outer s H vs Q E hr h=>?_)
 ·obtain⟨b,w',M,H₀,rfl,_⟩:=h
  rfl
 obtain⟨b,w',M,H₀,rfl,g,hm,hz,q⟩:=h
 refine⟨_,(aq (bC (aQ WQ (bN (qv 0) rfl) qL (nomark _)) (aA (gA (qv 0) (aJ ag3 hr rfl agC ag7.kp agX .nil pass0 (aj (bN (qv 0) rfl) ak)) rfl)) aX)
   (aA (aO (bN (qv 0) rfl)))),?_⟩
 obtain⟨dx,v,y,n,bd,sz,hb,tv,c7,c8,hs⟩:=g.ok b _ hm
 have fin:∀ H' sz',Go K ao aD aG aL (fun _=>False) M M H₀ H H'→H' b=some (.ins aG dx (fD (aB w') v y n bd sz'))→sz'=.int ((aZ w').parts:Nat)→tRet (tFld K (tVar 0) "size") { nx:=fun x H'=>Q .non H',rt:=Q,bk:=fun _ _=>False,ct:=fun _ _=>False } [some (.ref b)] H':=fun H' sz' G hb' e=>by
  subst e
  exact⟨_,rfl,b,aG,dx,_,_,rfl,hb',O.iw,O.ws,ldS,q _ G⟩
 refine⟨_,rfl,b,aG,dx,_,_,rfl,hb,O.iw,O.ws,ldS,rfl,_,rfl,ite2 (fun h=>?_) (fun h=>?_)⟩
 ·refine⟨_,rfl,b,aG,dx,_,_,rfl,hb,O.iw,O.wl,ldL,v,aZ w',rfl,tv,hz,fun H1 S1=>⟨_,rfl,b,aG,dx,_,rfl,S1 _ _ hb,O.iw,O.ws,by show 6<1000; decide,?_⟩⟩
  rw [pdS]
  have k1:Kt H1 (upd H1 b (.ins aG dx (fD (aB w') v y n bd (.int ((aZ w').parts:Nat))))):=Kt.ins (S1 _ _ hb)
  have g1:=g.grow S1
  have g2:=g1.put hm k1 ⟨dx,v,y,n,bd,_,upd_same,(tv.mono (.of S1)).mono k1,c7,c8,.inr rfl⟩
  refine fin _ _ ⟨fun _ _ z=>z,fun a ha _=>?_,(Kt.of S1).trans k1,g2,fun W t ws h1 h2=>⟨ws,?_,Nat.le_refl _⟩⟩ upd_same rfl
  ·have:a≠b:=fun z=>by rw [z,hm] at ha; cases ha
   rw [upd_ne this]
   obtain⟨u,e⟩:=g.has a _ ha
   exact (S1 _ _ e).trans e.symm
  ·have:W≠b:=fun z=>by rw [z,hm] at h1; cases h1
   rw [upd_ne this]
   exact S1 _ _ h2
 ·rcases hs with hs | hs
  ·exact absurd (by rw [hs]; rfl) h
  ·exact fin _ _ (.refl g) hb hs
theorem Qa (O:Own K ao aD aG aL aM aK) (dF:mg "len"=none)
  (Xm:mg "Word"=some (.ref aG))
  {jN:Addr}{BW:FuncData} (T6:Mk K aG jN) (Qv:FnOk P w K mg base CX0 34 jN BW ["self","tree"] (V2 K ao aD aG aL)) (vI:Binds K BW ["self","tree"] [])
  (F:Fun K "word_at" "Text.word_at" kO f fd):FnOk P w K mg base CX0 36 f fd ["self","place"] (V0 K ao aD aG aL):=by
 refine okQ F Pz (fun vs H Q E h=>?_) (fun cdv A outer s H vs Q E hr h=>?_)
 ·obtain⟨a,t,W,p,M,H₀,ws,rfl,_⟩:=h
  rfl
 obtain⟨a,t,W,p,M,H₀,ws,rfl,g,hm,hW,hpw,ari,hd,hkl,q0,q⟩:=h
 refine⟨_,(aq (bC (aQ op_eq (qv 1) (cY call_len_seq rfl dF oH (aj (bN (qv 0) rfl) ak)) (nomark _)) (aA (aO qL)) aX)
   (aq (bC (aQ op_eq (qv 1) (cY call_len_seq rfl dF oH (aj (bN (qv 0) rfl) ak)) (nomark _)) (aA (cZ (gQ PySem.F.plainAttrs_list PySem.F.slot_list_append PySem.F.type_list_append dD (bN (qv 0) rfl) (aj (mj T6 Qv hr rfl Xm vI .nil pass0 (aj (bK bF (bN (qv 0) rfl) (qv 1) (fun _ _=>rfl)) ak)) ak)))) aX)
   (aA (aO (bK ix_list (bN (qv 0) rfl) (qv 1) (fun _ _=>rfl)))))),?_⟩
 obtain⟨dx,v,ha,tv,hMW⟩:=g.ok a _ hm
 obtain⟨bt,ys,rfl,hbt,hys⟩:=uo tv
 have hyl:=hys.length
 obtain⟨xs0,hW0,hl0,hit⟩:=g.ok W _ hMW
 have e0:xs0=ws:=by rw [hW] at hW0; cases hW0; rfl
 subst e0
 refine⟨_,rfl,_,rfl,a,aL,dx,_,_,rfl,ha,O.cText,O.tt,fQ _ _ _,bt,ys,rfl,.inr hbt,rfl,_,rfl,ite2 (fun h=>?_) (fun h=>?_)⟩
 ·have h:=V.int.inj (of_decide_eq_true h)
  exact q0 (by lia)
 have hpk:p≠t.kids.length:=fun z=>h (decide_eq_true (by rw [z,← hyl]))
 obtain⟨w',ew⟩:∃ w',t.kids[p]?=some w':=⟨_,List.getElem?_eq_getElem (by lia)⟩
 obtain⟨x',ex,tx'⟩:=hys.at ew
 have lw:List.lookup ("words":Str) (fT (.ref bt) W)=some (.ref W):=(cO (by decide +kernel) _ _).trans (fQ _ _ _)
 dsimp only [tNext]
 refine abN (fun σ' H'=>σ'=[some (.ref a),some (.int (p:Int))]∧∃ M' b ws',Go K ao aD aG aL (fun _=>False) M M' H₀ H H'∧M' b=some (.word w')∧H' a=some (.ins aL dx (fT (.ref bt) W))∧H' W=some (.lst ws')∧ws'[p]?=some (.ref b)) (fun σ' H6 h6=>?_) (fun A' B' hA hB=>⟨_,rfl,_,rfl,a,aL,dx,_,_,rfl,ha,O.cText,O.tw,lw,W,xs0,rfl,.inl (SqL.of hW),rfl,_,rfl,ite2 (fun h=>hA _ fun N hN=>?_) (fun h=>hB _ ⟨rfl,?_⟩)⟩)
 ·obtain⟨rfl,M',b,ws',G,hb,ha',hW',hb'⟩:=h6
  refine⟨_,rfl,a,aL,dx,_,_,rfl,ha',O.cText,O.tw,lw,_,rfl,W,ws',p,.ref b,rfl,rfl,SqL.of hW',atI_nat hb',q w' ew b M' H6 G hb fun ws2 e2=>?_⟩
  rw [hW'] at e2
  cases e2
  exact (List.getElem?_eq_some_iff.mp hb').1
 ·have hpl:p=xs0.length:=by have:=V.int.inj (of_decide_eq_true h); lia
  have dw':w'.deep≤400:=by have:=ae9 ew; lia
  refine⟨_,rfl,a,aL,dx,_,_,rfl,ha,O.cText,O.tw,lw,.inl ⟨rfl,_,SqL.of hW⟩,_,rfl,a,aL,dx,_,_,rfl,ha,O.cText,O.tt,fQ _ _ _,_,rfl,bt,ys,p,x',rfl,rfl,hbt,atI_nat ex,fun b db hb hdb ne=>?_⟩
  have G1:=Go.made (X:=fun _=>False) (C:=aG) (fs:=[]) g hb hdb ne
  have S1:=kW (C:=aG) (fs:=[]) hb hdb ne
  refine⟨b,db,x',w',setM M b .mine,H₀,rfl,G1.gh,fV,jM,tx'.mono (.of S1),dw',fun M' H' v1 y n bd G2 O2 h2 tv2 c7 c8=>⟨rfl,W,xs0,_,rfl,rfl,?_,g8 (by lia),?_⟩⟩
  ·exact O2 W _ (S1 _ _ hW) (ne_of_none hW hb)
  have hbM:M' b=some .mine:=G2.ext _ _ fV
  have nbW:W≠b:=ne_of_none hW hb
  have hW2:=O2 W _ (S1 _ _ hW) nbW
  have ha2:=O2 a _ (S1 _ _ ha) (ne_of_none ha hb)
  have aoU:M' W=some (.words t):=G2.ext _ _ (G1.ext _ _ hMW)
  have nba:∀ c r,M c=some r→c≠b:=fun c r hc z=>by
   obtain⟨u,e⟩:=g.has c r hc
   rw [z,hb] at e
   cases e
  have ext':∀ c r,r≠.mine→M' c=some r→setM M' b (.word w') c=some r:=fun c r hr hc=>by
   rw [jg (fun z=>by rw [z,hbM] at hc; cases hc; exact hr rfl)]
   exact hc
  have g3:Gh K ao aD aG aL (setM M' b (.word w')) H₀ H':=G2.gh.role (.inr hbM) (G2.gh.new _ _ hbM) ⟨_,h2⟩ ⟨db,v1,y,n,bd,.non,h2,tv2,fun z=>by
   obtain⟨ay,an,e1,e2,⟨W1,e3⟩,W2,e4⟩:=c7 z
   exact⟨ay,an,e1,e2,⟨W1,ext' _ _ (by simp) e3⟩,W2,ext' _ _ (by simp) e4⟩,fun z=>by
   obtain⟨ab,e1,W1,e2⟩:=c8 z
   exact⟨ab,e1,W1,ext' _ _ (by simp) e2⟩,.inl rfl⟩
  have k4:Kt H' (upd H' W (.lst (xs0++[.ref b]))):=Kt.lst hW2
  have g4:=g3.put (ext' _ _ (by simp) aoU) k4 ⟨xs0++[.ref b],upd_same,by rw [List.length_append,List.length_singleton]; lia,fun j z hz=>by
   by_cases hj:j<xs0.length
   ·rw [List.getElem?_append_left hj] at hz
    obtain⟨c,w2,e1,e2,e3⟩:=hit j z hz
    exact⟨c,w2,e1,e2,ext' _ _ (by simp) (G2.ext _ _ (G1.ext _ _ e3))⟩
   ·have hj2:j<(xs0++[V.ref b]).length:=(List.getElem?_eq_some_iff.mp hz).1
    rw [List.length_append,List.length_singleton] at hj2
    have hj3:j=xs0.length:=by lia
    subst hj3
    rw [List.getElem?_append_right (Nat.le_refl _),Nat.sub_self] at hz
    cases hz
    exact⟨b,w',rfl,by rw [← hpl]; exact ew,fV⟩⟩
  refine hN _ _ ⟨rfl,setM M' b (.word w'),b,xs0++[.ref b],⟨fun c r hc=>?_,fun c hc _=>?_,(Kt.of S1).trans (G2.kt.trans k4),g4,fun W' t' ws' e1 e2=>?_⟩,fV,by rw [upd_ne (fun z=>by rw [z,hW] at ha; cases ha)]; exact ha2,upd_same,by rw [hpl]; simp⟩
  ·rw [jg (nba c r hc)]
   exact G2.ext _ _ (G1.ext _ _ hc)
  ·obtain⟨u,e⟩:=g.has c _ hc
   have ncW:c≠W:=fun z=>by rw [z,hMW] at hc; cases hc
   rw [upd_ne ncW,O2 c u (S1 _ _ e) (nba c _ hc)]
   exact e.symm
  ·have e3:=O2 W' _ (S1 _ _ e2) (nba W' _ e1)
   by_cases hWW:W'=W
   ·subst hWW
    rw [hW] at e2
    cases e2
    exact⟨_,upd_same,by rw [List.length_append,List.length_singleton]; lia⟩
   ·exact⟨ws',by rw [upd_ne hWW]; exact e3,Nat.le_refl _⟩
 ·have hpl:p≠xs0.length:=fun z=>h (decide_eq_true (by rw [z]))
  obtain⟨z,ez⟩:∃ z,xs0[p]?=some z:=⟨_,List.getElem?_eq_getElem (by lia)⟩
  obtain⟨b,w2,rfl,e2,e3⟩:=hit p z ez
  rw [ew] at e2
  cases e2
  exact⟨M,b,xs0,.refl g,e3,ha,hW,ez⟩
end
section
variable {P:Program}{w:World}{K:PySem.W.Frag}{mg:Str→Option Value}{base:Heap}{f:Addr}{fd:FuncData}{ao aD aG aL aM aK:Addr}
theorem agq (O:Own K ao aD aG aL aM aK) {uM:Value} (yZ:mg "LAY"=some uM) (uQ:RelV (.int 0) uM) {xr:Value} (Ej:mg "DROP"=some xr) (xR:RelV (.int 1) xr) {mJ:Value} (oF:mg "TWIN"=some mJ) (lC:RelV (.int 2) mJ) {wY:Value} (Eh:mg "SWAP"=some wY) (xM:RelV (.int 3) wY) {uq:Value} (zE:mg "FRONT"=some uq) (uz:RelV (.int 4) uq) {wZ:Value} (Ei:mg "PART"=some wZ) (xO:RelV (.int 5) wZ) {wX:Value} (Ef:mg "TURN"=some wX) (xJ:RelV (.int 6) wX)
  {JK:Addr}{Jo:FuncData} (ad6:Fun K "rest_of" "rest_of" qz JK Jo) (adZ:FnOk P w K mg base CX0 35 JK Jo ["row"] (V6 K ao aD aG aL)) (adP:Binds K Jo ["row"] []) (adw:mg "rest_of"=some (.ref JK))
  {GD:Addr}{Gu:FuncData} (acv:Fun K "first_of" "first_of" oY GD Gu) (acs:FnOk P w K mg base CX0 35 GD Gu ["row"] (Ug K ao aD aG aL)) (ab_:Binds K Gu ["row"] []) (abJ:mg "first_of"=some (.ref GD))
  (fZ:mg "Fronted"=some (.ref ao))
  {iu:Addr}{xY:FuncData} (GK:Mk K ao iu) (J1:FnOk P w K mg base CX0 34 iu xY ["self","item","behind"] (V_ ao)) (rm:Binds K xY ["self","item","behind"] [])
  (F:Fun K "work" "work" zO f fd):FnOk P w K mg base CX0 36 f fd ["step","load","stack"] (acP K ao aD aG aL):=by
 refine okQ F Rc (fun vs H Q E h=>?_) (fun cdv A outer s H vs Q E hr h=>?_)
 ·obtain⟨k,y,S,l,sk,rows,M,H₀,rfl,_⟩:=h
  rfl
 obtain⟨k,y,S,l,sk,rows,M,H₀,rfl,g,hm,hS,hrs,hy,hlk,hb,hkl,q⟩:=h
 refine⟨_,(aA (bC (aQ op_eq (qv 0) (aW (v:=.int 0) rfl yZ uQ) (nomark _)) (aA (cZ (gQ PySem.F.plainAttrs_list PySem.F.slot_list_append PySem.F.type_list_append dD (qv 2) (aj (qv 1) ak)))) (aA (bC (aQ op_eq (qv 0) (aW (v:=.int 1) rfl Ej xR) (nomark _)) (aA (cZ (qM PySem.F.plainAttrs_list PySem.F.slot_list_pop PySem.F.type_list_pop sS (qv 2)))) (aA (bC (aQ op_eq (qv 0) (aW (v:=.int 2) rfl oF lC) (nomark _)) (aA (cZ (gQ PySem.F.plainAttrs_list PySem.F.slot_list_append PySem.F.type_list_append dD (qv 2) (aj (bK ix_list (qv 2) (Bx wW au) (fun _ _=>rfl)) ak)))) (aA (bC (aQ op_eq (qv 0) (aW (v:=.int 3) rfl Eh xM) (nomark _)) (aA (cZ (gQ PySem.F.plainAttrs_list PySem.F.slot_list_append PySem.F.type_list_append dD (qv 2) (aj (gQ PySem.F.plainAttrs_list PySem.F.slot_list_pop PySem.F.type_list_pop Ni (qv 2) (aj (Bx wW au) ak)) ak)))) (aA (bC (aQ op_eq (qv 0) (aW (v:=.int 4) rfl zE uz) (nomark _)) (aq (bA (i:=3) Rc.nd rfl (Or.inl rfl) (qM PySem.F.plainAttrs_list PySem.F.slot_list_pop PySem.F.type_list_pop sS (qv 2)))
   (aA (cZ (gQ PySem.F.plainAttrs_list PySem.F.slot_list_append PySem.F.type_list_append dD (qv 2) (aj (mj GK J1 hr rfl fZ rm .nil pass0 (aj (qv 3) (aj (qM PySem.F.plainAttrs_list PySem.F.slot_list_pop PySem.F.type_list_pop sS (qv 2)) ak))) ak))))) (aA (bC (aQ op_eq (qv 0) (aW (v:=.int 5) rfl Ei xO) (nomark _)) (aq (bA (i:=4) Rc.nd rfl (Or.inl rfl) (qM PySem.F.plainAttrs_list PySem.F.slot_list_pop PySem.F.type_list_pop sS (qv 2)))
   (aq (cZ (gQ PySem.F.plainAttrs_list PySem.F.slot_list_append PySem.F.type_list_append dD (qv 2) (aj (aJ adZ hr rfl adw ad6.kp adP .nil pass0 (aj (qv 4) ak)) ak)))
   (aA (cZ (gQ PySem.F.plainAttrs_list PySem.F.slot_list_append PySem.F.type_list_append dD (qv 2) (aj (aJ acs hr rfl abJ acv.kp ab_ .nil pass0 (aj (qv 4) ak)) ak)))))) (aA (bC (aQ op_eq (qv 0) (aW (v:=.int 6) rfl Ef xJ) (nomark _)) (aA (cZ (gQ PySem.F.plainAttrs_list PySem.F.slot_list_append PySem.F.type_list_append dD (qv 2) (aj (gQ PySem.F.plainAttrs_list PySem.F.slot_list_pop PySem.F.type_list_pop Ni (qv 2) (aj (Bx wW au) ak)) ak)))) aX)))))))))))))),?_⟩
 have hrl:=hrs.length
 rw [List.length_reverse] at hrl
 have hsl:sk.length≤8000010:=by
  have h1:=hb.2
  rw [T.aN] at h1
  have:=T.cL sk
  lia
 refine⟨_,rfl,rfl,_,rfl,ite2 (fun h=>?_) (fun h0=>?_)⟩
 ·have h:k=0:=by have:=V.int.inj (of_decide_eq_true h); lia
  subst h
  refine⟨_,rfl,.inl ⟨rfl,_,SqL.of hS⟩,_,rfl,S,rows,y,rfl,rfl,hS,g8 (by lia),q M _ _ (Go.list g hm hS) upd_same ?_⟩
  show bB _ (l::sk).reverse _
  rw [List.reverse_cons]
  exact bB.append (iY (Kt.lst hS) hrs) (bB.one (.inl (hy.mono (Kt.lst hS))))
 have h0:¬ k=0:=fun z=>h0 (decide_eq_true (by rw [z]; rfl))
 refine⟨_,rfl,rfl,_,rfl,ite2 (fun h=>?_) (fun h1=>?_)⟩
 ·have h:k=1:=by have:=V.int.inj (of_decide_eq_true h); lia
  subst h
  obtain⟨a,sk0,r0,ya,rfl,rfl,h0,ha⟩:=pD hrs (by rintro rfl; have h1:1≤sk.length:=hlk; simp at hrl; lia)
  refine⟨_,rfl,.inl ⟨rfl,_,SqL.of hS⟩,S,_,_,rfl,rfl,hS,oO _ _,?_⟩
  rw [oR]
  exact q M _ _ (Go.list g hm hS) upd_same (iY (Kt.lst hS) h0)
 have h1:¬ k=1:=fun z=>h1 (decide_eq_true (by rw [z]; rfl))
 refine⟨_,rfl,rfl,_,rfl,ite2 (fun h=>?_) (fun h2=>?_)⟩
 ·have h:k=2:=by have:=V.int.inj (of_decide_eq_true h); lia
  subst h
  obtain⟨a,sk0,r0,ya,rfl,rfl,h0,ha⟩:=pD hrs (by rintro rfl; have h1:1≤sk.length:=hlk; simp at hrl; lia)
  refine⟨_,rfl,.inl ⟨rfl,_,SqL.of hS⟩,_,rfl,1,rfl,S,_,_,_,rfl,rfl,SqL.of hS,Et,S,_,ya,rfl,rfl,hS,g8 (by lia),q M _ _ (Go.list g hm hS) upd_same ?_⟩
  show bB _ (a::a::sk0).reverse _
  rw [List.reverse_cons]
  exact bB.append (iY (Kt.lst hS) hrs) (bB.one (ha.mono (Kt.lst hS) fun _ _ z=>z))
 have h2:¬ k=2:=fun z=>h2 (decide_eq_true (by rw [z]; rfl))
 refine⟨_,rfl,rfl,_,rfl,ite2 (fun h=>?_) (fun h3=>?_)⟩
 ·have h:k=3:=by have:=V.int.inj (of_decide_eq_true h); lia
  subst h
  obtain⟨a,c,sk0,r0,ya,yc,rfl,rfl,h0,ha,hc⟩:=JF hrs hlk
  refine⟨_,rfl,.inl ⟨rfl,_,SqL.of hS⟩,_,rfl,.inl ⟨rfl,_,SqL.of hS⟩,2,rfl,S,_,-2,_,_,rfl,rfl,hS,by decide,by decide,si2 _ _ _,gt2 _ _ _,?_⟩
  rw [er2]
  refine⟨S,_,yc,rfl,rfl,upd_same,g8 (by simp only [List.length_append,List.length_singleton] at hrl ⊢; lia),?_⟩
  rw [nF]
  refine q M _ _ (Go.list g hm hS) upd_same ?_
  have k:=Kt.lst (o:=.lst (r0++[ya]++[yc])) hS
  show bB _ (c::a::sk0).reverse _
  rw [List.reverse_cons,List.reverse_cons]
  exact bB.append (bB.append (iY k h0) (bB.one (ha.mono k fun _ _ z=>z))) (bB.one (hc.mono k fun _ _ z=>z))
 have h3:¬ k=3:=fun z=>h3 (decide_eq_true (by rw [z]; rfl))
 refine⟨_,rfl,rfl,_,rfl,ite2 (fun h=>?_) (fun h4=>?_)⟩
 ·have h:k=4:=by have:=V.int.inj (of_decide_eq_true h); lia
  subst h
  obtain⟨a,c,sk0,r0,ya,yc,rfl,rfl,h0,ha,hc⟩:=JF hrs hlk
  refine⟨_,rfl,.inl ⟨rfl,_,SqL.of hS⟩,S,_,_,rfl,rfl,hS,oO _ _,?_⟩
  rw [oR]
  refine⟨_,rfl,.inl ⟨rfl,_,SqL.of upd_same⟩,_,rfl,_,rfl,.inl ⟨rfl,_,SqL.of upd_same⟩,S,_,_,rfl,rfl,upd_same,oO _ _,?_⟩
  rw [oR,nF]
  have G1:=Go.list (ys:=r0) g hm hS
  have k1:=Kt.lst (o:=.lst r0) hS
  have hS1:upd H S (.lst r0) S=some (.lst r0):=upd_same
  have h01:=iY k1 h0
  have ha1:=ha.mono (M':=M) k1 fun _ _ z=>z
  have hc1:=hc.mono (M':=M) k1 fun _ _ z=>z
  generalize upd H S (.lst r0)=H1 at G1 k1 hS1 h01 ha1 hc1
  refine fun o dx ho hd ne=>⟨o,dx,ya,yc,rfl,jM,⟨rfl,S,r0,_,rfl,rfl,?_,g8 (by simp only [List.length_append,List.length_singleton] at hrl; lia),?_⟩⟩
  ·rw [upd_ne (ne_of_none hS1 ho)]
   exact kW (C:=ao) (fs:=[]) ho hd ne _ _ hS1
  rw [adt]
  have S2:=kW (C:=ao) (fs:=fF ya yc) ho hd ne
  have nSo:S≠o:=ne_of_none hS1 ho
  have ro:∀ p t,M p=some (.row t)→setM M o (.row (.node (a::c.kids))) p=some (.row t):=fun p t e=>by
   rw [jg (fun z=>by rw [z,G1.gh.fresh ho] at e; cases e)]
   exact e
  have G2:Go K ao aD aG aL (fun a=>a=S) M (setM M o (.row (.node (a::c.kids)))) H₀ H1 (mkO H1 o dx ao (fF ya yc)) :=
   Go.role G1.gh S2 ho ⟨_,jM⟩ (.inl ⟨dx,ya,yc,a,c.kids,jM,rfl,ha1.mono (.of S2) ro,by cases c; exact hc1.mono (.of S2) ro⟩)
  have hS2:=S2 _ _ hS1
  have h02:=h01.imp fun _ _ z=>z.mono (.of S2) ro
  have hm2:setM M o (.row (.node (a::c.kids))) S=some .mine:=by rw [jg nSo]; exact hm
  have hMo:setM M o (.row (.node (a::c.kids))) o=some (.row (.node (a::c.kids))):=fV
  generalize setM M o (.row (.node (a::c.kids)))=M2 at G2 h02 hm2 hMo
  generalize mkO H1 o dx ao (fF ya yc)=H2 at G2 hS2 h02
  refine q M2 _ _ ((G1.trans G2).qO hm2 rfl (Kt.lst hS2)) upd_same ?_
  show bB _ (T.node (a::c.kids)::sk0).reverse _
  rw [List.reverse_cons]
  exact bB.append (iY (Kt.lst hS2) h02) (bB.one (.inr ⟨o,rfl,hMo⟩))
 have h4:¬ k=4:=fun z=>h4 (decide_eq_true (by rw [z]; rfl))
 refine⟨_,rfl,rfl,_,rfl,ite2 (fun h=>?_) (fun h5=>?_)⟩
 ·have h:k=5:=by have:=V.int.inj (of_decide_eq_true h); lia
  subst h
  obtain⟨a,sk0,r0,ya,rfl,rfl,h0,ha⟩:=pD hrs (by rintro rfl; have h1:1≤sk.length:=hlk; simp at hrl; lia)
  have da:a.deep≤400:=by
   have h1:=hb.1
   rw [T.aR,T.aU] at h1
   lia
  have ka:a.kids.length≤8000000:=hkl a (by simp)
  refine⟨_,rfl,.inl ⟨rfl,_,SqL.of hS⟩,S,_,_,rfl,rfl,hS,oO _ _,?_⟩
  rw [oR]
  have G1:=Go.list (ys:=r0) g hm hS
  have k1:=Kt.lst (o:=.lst r0) hS
  have hS1:upd H S (.lst r0) S=some (.lst r0):=upd_same
  have h01:=iY k1 h0
  have ha1:=ha.mono (M':=M) k1 fun _ _ z=>z
  generalize upd H S (.lst r0)=H1 at G1 k1 hS1 h01 ha1
  refine⟨_,rfl,.inl ⟨rfl,_,SqL.of hS1⟩,_,rfl,ya,a,M,H₀,rfl,G1.gh,ha1,da,ka,fun y2 M2 H2 S2 G2 r2=>?_⟩
  have hS2:=S2 _ _ hS1
  have hm2:=G2.ext _ _ hm
  have h02:=h01.imp fun _ _ z=>G2.rv z
  have ha2:=G2.rv ha1
  have G2':=G1.trans (G2.weak fun _ z=>z.elim)
  refine⟨S,r0,y2,rfl,rfl,hS2,g8 (by simp only [List.length_append,List.length_singleton] at hrl; lia),?_⟩
  have G3:=G2'.qO (u:=.lst (r0++[y2])) hm2 rfl (Kt.lst hS2)
  have k3:=Kt.lst (o:=.lst (r0++[y2])) hS2
  have hS3:upd H2 S (.lst (r0++[y2])) S=some (.lst (r0++[y2])):=upd_same
  have h03:=iY k3 h02
  have ha3:=ha2.mono (M':=M2) k3 fun _ _ z=>z
  have r3:=r2.mono (M':=M2) k3 fun _ _ z=>z
  generalize upd H2 S (.lst (r0++[y2]))=H3 at G3 k3 hS3 h03 ha3 r3
  refine⟨_,rfl,.inl ⟨rfl,_,SqL.of hS3⟩,_,rfl,ya,a,M2,H₀,rfl,G3.gh,ha3,da,fun y4 H4 S4 r4=>?_⟩
  have hS4:=S4 _ _ hS3
  refine⟨S,_,y4,rfl,rfl,hS4,g8 (by simp only [List.length_append,List.length_singleton] at hrl ⊢; lia),?_⟩
  have G4:=G3.trans (.grow G3.gh S4)
  have k5:=Kt.lst (o:=.lst (r0++[y2]++[y4])) hS4
  refine q M2 _ _ (G4.qO hm2 rfl (Kt.lst hS4)) upd_same ?_
  show bB _ (ats a.kids 0::aZ a::sk0).reverse _
  rw [List.reverse_cons,List.reverse_cons]
  exact bB.append (bB.append (iY ((Kt.of S4).trans k5) h03) (bB.one (r3.mono ((Kt.of S4).trans k5) fun _ _ z=>z))) (bB.one (r4.mono k5 fun _ _ z=>z))
 have h5:¬ k=5:=fun z=>h5 (decide_eq_true (by rw [z]; rfl))
 refine⟨_,rfl,rfl,_,rfl,ite2 (fun h=>?_) (fun h6=>?_)⟩
 ·have h:k=6:=by have:=V.int.inj (of_decide_eq_true h); lia
  subst h
  obtain⟨a,c,e,sk0,r0,ya,yc,ye,rfl,rfl,h0,ha,hc,he⟩:=adV hrs hlk
  refine⟨_,rfl,.inl ⟨rfl,_,SqL.of hS⟩,_,rfl,.inl ⟨rfl,_,SqL.of hS⟩,3,rfl,S,_,-3,_,_,rfl,rfl,hS,by decide,by decide,si3 _ _ _ _,gt3 _ _ _ _,?_⟩
  rw [er3]
  refine⟨S,_,ye,rfl,rfl,upd_same,g8 (by simp only [List.length_append,List.length_singleton] at hrl ⊢; lia),?_⟩
  rw [nF]
  refine q M _ _ (Go.list g hm hS) upd_same ?_
  have k:=Kt.lst (o:=.lst (r0++[yc]++[ya]++[ye])) hS
  show bB _ (e::a::c::sk0).reverse _
  rw [List.reverse_cons,List.reverse_cons,List.reverse_cons]
  exact bB.append (bB.append (bB.append (iY k h0) (bB.one (hc.mono k fun _ _ z=>z))) (bB.one (ha.mono k fun _ _ z=>z))) (bB.one (he.mono k fun _ _ z=>z))
 have h6:¬ k=6:=fun z=>h6 (decide_eq_true (by rw [z]; rfl))
 refine q M H rows (.refl g) hS ?_
 rw [zm (show 7≤k by lia)]
 exact hrs
end
section
variable {P:Program}{w:World}{K:PySem.W.Frag}{mg:Str→Option Value}{base:Heap}{f:Addr}{fd:FuncData}{ao aD aG aL aM aK:Addr}
theorem RG (O:Own K ao aD aG aL aM aK)
  (F:Fun K "at_end" "Walk.at_end" lY f fd):FnOk P w K mg base CX0 31 f fd ["self"] (Q9 K ao aD aG aL aM aK):=by
 refine okQ F Rf (fun vs H Q E h=>?_) (fun cdv A outer s H vs Q E hr h=>?_)
 ·obtain⟨o,M,H₀,tx,sk,num,b,rfl,_⟩:=h
  rfl
 obtain⟨o,M,H₀,tx,sk,num,b,rfl,w',q⟩:=h
 refine⟨_,(aA (aO (af9 (bN (qv 0) rfl)))),?_⟩
 obtain⟨dx,G,S,N,gs,rows,w'⟩:=w'
 have hgl:=w'.gos.length
 rw [List.length_reverse] at hgl
 refine⟨_,rfl,o,aK,dx,_,_,rfl,w'.ob,O.dG,O.kg,lwG,!gs.isEmpty,.inl ⟨gs,SqL.of w'.hG,rfl⟩,?_⟩
 have e:(!(!gs.isEmpty))=decide (tx=[]):=by
  rw [Bool.not_not]
  cases tx with
  | nil =>
   have:gs=[]:=List.length_eq_zero_iff.mp (by simpa using hgl)
   rw [this]
   rfl
  | cons t r =>
   cases gs with
   | nil=>simp at hgl
   | cons _ _=>rfl
 rw [e]
 exact q
theorem Zt (O:Own K ao aD aG aL aM aK)
  (F:Fun K "top" "Walk.top" rJ f fd):FnOk P w K mg base CX0 31 f fd ["self"] (abb K ao aD aG aL aM aK):=by
 refine okQ F Zi (fun vs H Q E h=>?_) (fun cdv A outer s H vs Q E hr h=>?_)
 ·obtain⟨o,M,H₀,tx,sk,num,b,rfl,_⟩:=h
  rfl
 obtain⟨o,M,H₀,tx,sk,num,b,rfl,w',q⟩:=h
 refine⟨_,(aA (aO (tR (Fq (bN (qv 0) rfl) (fun _=>rfl)) (bK ix_list (bN (qv 0) rfl) (Bx wW au) (fun _ _=>rfl)) (aP ak)))),?_⟩
 obtain⟨dx,G,S,N,gs,rows,w'⟩:=w'
 refine⟨_,rfl,o,aK,dx,_,_,rfl,w'.ob,O.dG,O.ks,lwS,!rows.isEmpty,.inl ⟨rows,SqL.of w'.hS,rfl⟩,ite2 (fun h=>?_) (fun h=>?_)⟩
 ·have hne:rows≠[]:=by rintro rfl; exact absurd h (by decide)
  obtain⟨a,sk0,r0,ya,rfl,rfl,h0,ha⟩:=pD w'.sts hne
  exact⟨_,rfl,o,aK,dx,_,_,rfl,w'.ob,O.dG,O.ks,lwS,1,rfl,S,_,_,_,rfl,rfl,SqL.of w'.hS,Et,q _ _ (Same.refl _) ha⟩
 ·have hr:rows=[]:=by
   cases rows with
   | nil=>rfl
   | cons _ _=>exact absurd rfl h
  subst hr
  have:=all_nil w'.sts
  subst this
  refine⟨Nat.zero_le _,fun p1 g1=>?_⟩
  obtain⟨S1,t1⟩:=bH (K:=K) (ts:=[]) g1 (bM.mpr rfl)
  exact q _ _ S1 (.inl t1)
theorem U8 (O:Own K ao aD aG aL aM aK) (dM:mg "tuple"=none)
  (F:Fun K "tally" "Walk.tally" oh f fd):FnOk P w K mg base CX0 31 f fd ["self"] (Kd K ao aD aG aL aM aK):=by
 refine okQ F UG (fun vs H Q E h=>?_) (fun cdv A outer s H vs Q E hr h=>?_)
 ·obtain⟨o,M,H₀,tx,sk,num,b,rfl,_⟩:=h
  rfl
 obtain⟨o,M,H₀,tx,sk,num,b,rfl,w',q⟩:=h
 refine⟨_,(aA (aO (kI gR rfl dM pA (aj (bN (qv 0) rfl) ak)))),?_⟩
 obtain⟨dx,G,S,N,gs,rows,w'⟩:=w'
 exact⟨_,rfl,o,aK,dx,_,_,rfl,w'.ob,O.dG,O.kn,lwN,N,_,rfl,.inl ⟨SqL.of w'.hN,fun l hl=>q _ _ (same_new hl _) (SqT.of upd_same)⟩⟩
theorem U9 (O:Own K ao aD aG aL aM aK) (iQ:mg "reversed"=none) (dM:mg "tuple"=none)
  {rB:Addr}{qX:FuncData} (J3:Fun K "as_tree" "as_tree" oN rB qX) (JZ:FnOk P w K mg base CX0 32 rB qX ["row"] (LC K ao aD aG aL)) (JB:Binds K qX ["row"] []) (IV:mg "as_tree"=some (.ref rB))
  (F:Fun K "stand" "Walk.stand" jA f fd):FnOk P w K mg base CX0 33 f fd ["self"] (aah K ao aD aG aL aM aK):=by
 refine okQ F Hh (fun vs H Q E h=>?_) (fun cdv A outer s H vs Q E hr h=>?_)
 ·obtain⟨o,M,H₀,tx,sk,num,b,rfl,_⟩:=h
  rfl
 obtain⟨o,M,H₀,tx,sk,num,b,rfl,w',bx,bs,q⟩:=h
 refine⟨_,(aq (WD (i:=1) Hh.nd rfl (Or.inl rfl) rfl (rN (fr:=[]) (js:=[]) (sc:=defScope jA) rfl rfl rfl (by decide +kernel) (by decide +kernel) (by decide +kernel) (by decide +kernel) (by exact trivial) (by decide +kernel) (fun y hy=>cell_has hy)) (aax rfl iQ (bN (qv 0) rfl)) (fun _ _ _ _ _=>(bY (aeh (K:=K) rfl) (Rk (K:=K) rfl (Rk (K:=K) rfl (qv 0) rfl) rfl) (cM (Rk (K:=K) rfl (qv 0) rfl)) cN)))
   (aA (aO (aP (aj (kI gR rfl dM pA (aj (qv 1) ak)) (aj (kI gR rfl dM pA (aj (Ft rfl (rN (fr:=[]) (js:=[]) (sc:=defScope jA) rfl rfl rfl (by decide +kernel) (by decide +kernel) (by decide +kernel) (by decide +kernel) (by exact trivial) (by decide +kernel) (fun y hy=>cell_has hy)) (aax rfl iQ (bN (qv 0) rfl)) (fun _ _ _ _ _=>(aJ JZ hr rfl IV J3.kp JB .nil pass0 (aj (qv 0) ak)))) ak)) ak)))))),?_⟩
 obtain⟨dx,G,S,N,gs,rows,w'⟩:=w'
 have hgl:=w'.gos.length
 rw [List.length_reverse] at hgl
 have hrl:=w'.sts.length
 rw [List.length_reverse] at hrl
 have hsl:sk.length≤8000000:=by
  have h1:=bs.2
  rw [T.aN] at h1
  have:=T.cL sk
  lia
 refine jY (fun v=>[some (.ref o),some v]) (fun _=>rfl) (fun v H'=>Same H H'∧∃ D ys,v=.ref D∧H' D=some (.lst ys)∧TRs K H' tx ys) (fun R r=>⟨_,rfl,o,aK,dx,_,_,rfl,w'.ob,O.dG,O.kg,lwG,G,gs,rfl,SqL.of w'.hG,Xr (ts:=tx) (by lia) (cR (by have:=bx.1; lia)) (SqL.of w'.hG) (fun i x t H1 R1 hx ht S1 r1=>?_) (fun D ys H1 S1 h1 t1=>r _ _ ⟨S1,D,ys,rfl,h1,t1⟩)⟩) (fun v1 H1 h1=>?_)
 ·obtain⟨t',et,hg⟩:=(aaS w'.gos).get hx
  rw [ht] at et
  cases et
  obtain⟨g,dg,a,W,p,tt,rfl,h1,h2,h3,h4,⟨ws,h5,h6⟩,rfl,h8⟩:=hg.go (.grow w'.gh S1) (fun _ _=>id) w'.gh
  obtain⟨da,v,h9,tv,_⟩:=(w'.gh.grow S1).ok a _ h3
  obtain⟨b,ys,rfl,hb,hys⟩:=uo tv
  refine⟨_,rfl,g,aM,dg,_,_,rfl,h2,O.Ba,O.gt,lgT,a,aL,da,_,_,rfl,h9,O.cText,O.tt,ltT,_,rfl,g,aM,dg,_,_,rfl,h2,O.Ba,O.gp,lgP,(p:Int),rfl,b,ys,rfl,hb,fun p1 H2 S2 h=>r1 _ _ S2 (wV h ?_)⟩
  rw [Oj]
  exact (hys.drop p).mono (.of S2)
 obtain⟨S1,D,ys,rfl,hD,tys⟩:=h1
 have w1:=w'.grow S1
 refine⟨_,rfl,D,ys,rfl,.inl ⟨SqL.of hD,fun p2 g2=>?_⟩⟩
 obtain⟨S2,t2⟩:=bH (K:=K) g2 tys
 have w2:=w1.grow S2
 refine⟨_,rfl,o,aK,dx,_,_,rfl,w2.ob,O.dG,O.ks,lwS,S,rows,rfl,SqL.of w2.hS,Xr (K:=K) (ts:=sk) (by lia) (cR (by lia)) (SqL.of w2.hS) (fun i x t H3 R3 hx ht S3 r3=>?_) (fun D3 ys3 H3 S3 h3 t3=>⟨D3,ys3,rfl,.inl ⟨SqL.of h3,fun p4 g4=>⟨(by show 2≤sizeLine; decide),fun p5 g5=>?_⟩⟩⟩)⟩
 ·obtain⟨t',et,hg⟩:=(aaS w2.sts).get hx
  rw [ht] at et
  cases et
  have hm:t∈sk:=List.mem_of_getElem? ht
  have hp:t.parts≤8000000:=by
   have h1:=bs.2
   rw [T.aN] at h1
   have:=T.jd hm
   lia
  exact⟨_,rfl,x,t,M,H₀,rfl,w2.gh.grow S3,hg.mono (.of S3) (fun _ _ z=>z),hp,fun y H4 S4 t4=>r3 y H4 S4 t4⟩
 ·obtain⟨S4,t4⟩:=bH (K:=K) g4 t3
  have t2':=t2.mono (.of (S3.trans S4))
  obtain⟨S5,t5⟩:=bH (K:=K) g5 (k_ t2' t4)
  exact q _ _ (S1.trans (S2.trans (S3.trans (S4.trans S5)))) t5
end
section
variable {P:Program}{w:World}{K:PySem.W.Frag}{mg:Str→Option Value}{base:Heap}{f:Addr}{fd:FuncData}{ao aD aG aL aM aK:Addr}
theorem MK (O:Own K ao aD aG aL aM aK) (iQ:mg "reversed"=none) (Xj:mg "list"=none) {zH:Value} (Nq:mg "PLACES"=some zH) (zU:RelV (.int 15) zH)
  (uF:mg "Going"=some (.ref aM))
  (xX:mg "Text"=some (.ref aL))
  {eE:Addr}{lN:FuncData} (rD:Mk K aM eE) (lW:FnOk P w K mg base CX0 31 eE lN ["self","text"] (Lz aM)) (gb:Binds K lN ["self","text"] [])
  {fJ:Addr}{nq:FuncData} (uI:Mk K aL fJ) (nA:FnOk P w K mg base CX0 31 fJ nq ["self","tree"] (Ly aL)) (gD:Binds K nq ["self","tree"] [])
  (F:Fun K "__init__" "Walk.__init__" iK f fd):FnOk P w K mg base CX0 33 f fd ["self","stand","budget"] (V1 K ao aD aG aL aM aK):=by
 refine okQ F Mg (fun vs H Q E h=>?_) (fun cdv A outer s H vs Q E hr h=>?_)
 ·obtain⟨o,dx,x,tx,sk,b,M,H₀,rfl,_⟩:=h
  rfl
 obtain⟨o,dx,x,tx,sk,b,M,H₀,rfl,g,hm,ho,hx,bx,bs,q⟩:=h
 refine⟨_,(aq (gA (qv 0) (Ft rfl (rN (fr:=[]) (js:=[]) (sc:=defScope iK) rfl rfl rfl (by decide +kernel) (by decide +kernel) (by decide +kernel) (by decide +kernel) (by exact trivial) (by decide +kernel) (fun y hy=>cell_has hy)) (af7 rfl iQ (bK bF (qv 1) au (fun _ _=>rfl))) (fun _ _ _ _ _=>(mj rD lW hr rfl uF gb .nil pass0 (aj (mj uI nA hr rfl xX gD .nil pass0 (aj (qv 0) ak)) ak)))) rfl)
   (aq (gA (qv 0) (abl rfl rfl Xj iQ rfl (bK bF (qv 1) au (fun _ _=>rfl))) rfl)
   (aq (gA (qv 0) (aV ahS (pI (aj au ak)) (aW (v:=.int 15) rfl Nq zU)) rfl)
   (aA (gA (qv 0) (qv 2) rfl))))),?_⟩
 obtain⟨ax,xs,rfl,hax,hxs⟩:=bW.mp hx
 obtain⟨x0,r0,rfl,t0,hr⟩:=cH.mp hxs
 obtain⟨x1,r1,rfl,t1,hr1⟩:=cH.mp hr
 obtain⟨a0,ys0,rfl,h0,hy0⟩:=bW.mp t0
 obtain⟨a1,ys1,rfl,h1,hy1⟩:=bW.mp t1
 have l0:=hy0.length
 have l1:=hy1.length
 have hsl:sk.length≤8000000:=by
  have h1:=bs.2
  rw [T.aN] at h1
  have:=T.cL sk
  lia
 refine⟨_,rfl,ax,_,0,_,rfl,rfl,hax,atI_nat (j:=0) rfl,a0,ys0,rfl,h0,agE (fun D i ys H'=>H D=none∧∃ M',Go K ao aD aG aL (fun _=>False) M M' H₀ H H'∧M' D=some .mine∧H' D=some (.lst ys)∧ys.length=i∧bB (rE aM M' H') (tx.reverse.take i) ys∧ys.Nodup) (cR (by have:=bx.1; lia)) (fun D hD=>⟨hD,setM M D .mine,Go.RQ g hD,fV,upd_same,rfl,by rw [List.take_zero]; exact .nil,List.nodup_nil⟩) (fun D i ys H' j=>⟨j.2.choose_spec.2.2.1,j.2.choose_spec.2.2.2.1,gW j.2.choose_spec.1.kt h0⟩) (fun D i x ys H1 R hxi j hR=>?_) (fun D gs H1 j=>?_)⟩
 ·obtain⟨hD,M1,G1,mD,h1D,hyl,hgo,nd⟩:=j
  obtain⟨t,et,ht⟩:=af3 hy0 hxi
  have hbt:B 389 8000000 t:=bx.2 t (by have:=List.mem_of_getElem? et; rw [List.mem_reverse] at this; exact this)
  refine⟨_,rfl,fun a da ha hda ne=>⟨a,da,x,rfl,jM,fun W hW=>⟨rfl,fun gg dg hg hdg ne2=>⟨gg,dg,a,rfl,jM,⟨rfl,?_⟩⟩⟩⟩⟩
  obtain⟨G2,S2,tx2⟩:=Go.newText (X:=fun _=>False) G1.gh (ht.mono G1.kt) ha hda ne hW
  generalize setM (setM M1 W (.words t)) a (.text t W)=M2 at G2 tx2
  generalize upd (upd (mkO H1 a da aL []) W (.lst [])) a (.ins aL da (fT x W))=H2 at G2 S2 hg hdg
  rw [nF,← (show mkO H2 gg dg aM (fG a 0)=upd (upd H2 dg (.own gg)) gg (.ins aM dg (fG a 0)) from rfl)]
  have G3:Go K ao aD aG aL (fun _=>False) M2 (setM M2 gg .mine) H₀ H2 (mkO H2 gg dg aM (fG a 0)):=Go.made G2.gh hg hdg ne2
  have S3:=kW (C:=aM) (fs:=fG a 0) hg hdg ne2
  have gn:=rE.new (CG:=aM) G2.gh tx2 hbt hg hdg ne2
  have hD3:=S3 _ _ (S2 _ _ h1D)
  have mD3:=G3.ext _ _ (G2.ext _ _ mD)
  have hnew:(.ref gg:V) ∉ ys:=fun z=>by
   obtain⟨k,hk⟩:=List.mem_iff_getElem?.mp z
   obtain⟨t',_,g',_,_,_,_,_,e,_,h2,_⟩:=hgo.get hk
   cases e
   have:=S2 _ _ h2
   rw [hg] at this
   cases this
  generalize mkO H2 gg dg aM (fG a 0)=H3 at G3 S3 gn hD3
  generalize setM M2 gg .mine=M3 at G3 gn mD3
  have Gl:Go K ao aD aG aL (fun c=>c=D) M3 M3 H₀ H3 (upd H3 D (.lst (ys++[.ref gg]))):=.list G3.gh mD3 hD3
  have Gs:Go K ao aD aG aL (fun c=>c=D) M1 M3 H₀ H1 (upd H3 D (.lst (ys++[.ref gg]))):=((G2.trans G3).weak fun _ z=>z.elim).trans Gl
  refine hR _ _ hD3 ⟨hD,M3,((G1.trans G2).trans G3).anO mD3 (by rw [g.fresh hD]; simp) (Kt.lst hD3),mD3,upd_same,by rw [List.length_append,hyl]; rfl,?_,?_⟩
  ·rw [VH et]
   exact bB.append (hgo.imp fun _ _ z=>z.go Gs (z.nl h1D) G1.gh) (bB.one (gn.go Gl (gn.nl hD3) G3.gh))
  ·refine List.nodup_append.mpr ⟨nd,by simp,fun c hc e he=>?_⟩
   rw [List.mem_singleton.mp he]
   exact fun z=>hnew (z ▸ hc)
 obtain⟨hD,M1,G1,mD,h1D,hyl,hgo,nd⟩:=j
 rw [List.take_of_length_le (by rw [List.length_reverse]; lia)] at hgo
 have ho1:H1 o=some (.ins aK dx []):=(G1.mine o hm id).trans ho
 have noD:o≠D:=ne_of_none ho hD
 have kt {u:HO}{Ha:Hp}{fs:List (Str×V)} (h:Ha o=some (.ins aK dx fs)):Kt Ha (upd Ha o u):=Kt.ins h
 refine⟨_,rfl,o,aK,dx,[],rfl,ho1,O.dG,O.kg,by show 0<1000; decide,?_⟩
 rw [pw1]
 have G2:=(G1.weak (Y:=fun c=>c=o) fun _ z=>z.elim).qO (u:=.ins aK dx (w1 D)) (G1.ext _ _ hm) rfl (kt ho1)
 have Gq:Go K ao aD aG aL (fun c=>c=o) M1 M1 H₀ H1 (upd H1 o (.ins aK dx (w1 D))):=Go.qO (.refl G1.gh) (G1.ext _ _ hm) rfl (kt ho1)
 have aik:=hgo.imp fun t x z=>z.go Gq (fun gx e z2=>by
  obtain⟨g',_,_,_,_,_,e',_,h2,_⟩:=z
  rw [e] at e'
  cases e'
  rw [z2,ho1] at h2
  have h3:=(HO.ins.inj (Option.some.inj h2)).2.2
  exact absurd (congrArg List.length h3) (by simp [fG])) G1.gh
 have h2D:upd H1 o (.ins aK dx (w1 D)) D=some (.lst gs):=by rw [upd_ne (Ne.symm noD)]; exact h1D
 have h2o:upd H1 o (.ins aK dx (w1 D)) o=some (.ins aK dx (w1 D)):=upd_same
 generalize upd H1 o (.ins aK dx (w1 D))=H2 at G2 aik h2D h2o
 have hm1:=G1.ext _ _ hm
 refine⟨_,rfl,ax,_,1,_,rfl,rfl,gW G2.kt hax,atI_nat (j:=1) rfl,a1,ys1,rfl,gW G2.kt h1,fun l hl=>⟨_,rfl,o,aK,dx,w1 D,rfl,?_,O.dG,O.ks,by show 1<1000; decide,?_⟩⟩
 ·rw [upd_ne (ne_of_none h2o hl)]; exact h2o
 rw [pw2]
 have aoO:bB (RV K M1 H2) sk.reverse ys1.reverse:=(QJ (hy1.mono G2.kt)).rev
 have G3a:Go K ao aD aG aL (fun c=>c=o) M1 (setM M1 l .mine) H₀ H2 (upd H2 l (.lst ys1.reverse)):=Go.RQ G2.gh hl
 have h3o:upd H2 l (.lst ys1.reverse) o=some (.ins aK dx (w1 D)):=by rw [upd_ne (ne_of_none h2o hl)]; exact h2o
 have h3D:upd H2 l (.lst ys1.reverse) D=some (.lst gs):=by rw [upd_ne (ne_of_none h2D hl)]; exact h2D
 have nDl:D≠l:=ne_of_none h2D hl
 have h3l:upd H2 l (.lst ys1.reverse) l=some (.lst ys1.reverse):=upd_same
 have m3l:setM M1 l .mine l=some .mine:=fV
 generalize upd H2 l (.lst ys1.reverse)=H3 at G3a h3o h3D h3l
 generalize setM M1 l .mine=M3 at G3a m3l
 have hm3:=G3a.ext _ _ hm1
 have G3:=G3a.qO (u:=.ins aK dx (w2 D l)) hm3 rfl (kt h3o)
 have nlo:l≠o:=fun z=>by rw [z,h3o] at h3l; cases h3l
 have nog:∀ {Ma:Mp}{Ha:Hp}{fs:List (Str×V)}{t:T}{x:V},Ha o=some (.ins aK dx fs)→(∀ a p,fs≠fG a p)→rE aM Ma Ha t x→∀ gx,x=.ref gx→¬ gx=o:=fun hh hne z gx e z2=>by
  obtain⟨g',_,_,_,_,_,e',_,h2,_⟩:=z
  rw [e] at e'
  cases e'
  rw [z2,hh] at h2
  exact hne _ _ (HO.ins.inj (Option.some.inj h2)).2.2
 have n1:∀ a p,w1 D≠fG a p:=fun a p z=>absurd (congrArg List.length z) (by simp [fG,w1])
 have aij:=aik.imp fun t x z=>z.go G3 (nog h2o n1 z) G2.gh
 have afJ:=aoO.imp fun _ _ z=>G3.rv z
 have h4D:upd H3 o (.ins aK dx (w2 D l)) D=some (.lst gs):=by rw [upd_ne (Ne.symm noD)]; exact h3D
 have h4l:upd H3 o (.ins aK dx (w2 D l)) l=some (.lst ys1.reverse):=by rw [upd_ne nlo]; exact h3l
 have h4o:upd H3 o (.ins aK dx (w2 D l)) o=some (.ins aK dx (w2 D l)):=upd_same
 generalize upd H3 o (.ins aK dx (w2 D l))=H4 at G3 aij afJ h4D h4l h4o
 have z63:(2:Int) ^ 63=9223372036854775808:=by decide
 refine⟨(by show 1≤sizeLine; decide),fun p5 g5=>⟨p5,15,[.int 0],rfl,rfl,upd_same,by lia,by lia,(by show 1 * 15≤sizeLine; decide),fun n g6=>?_⟩⟩
 have e0:(List.replicate (15:Int).toNat [V.int 0]).flatten=gZ.map nv:=rfl
 rw [e0]
 have S5:=same_new g5 (.lst [V.int 0])
 have G5:Go K ao aD aG aL (fun c=>c=o) M3 M3 H₀ H4 (upd H4 p5 (.lst [V.int 0])):=.grow G3.gh S5
 have G6a:Go K ao aD aG aL (fun c=>c=o) M3 (setM M3 n .mine) H₀ (upd H4 p5 (.lst [V.int 0])) (upd (upd H4 p5 (.lst [V.int 0])) n (.lst (gZ.map nv))):=Go.RQ G5.gh g6
 have S6:=S5.trans (same_new g6 (.lst (gZ.map nv)))
 have h6n:upd (upd H4 p5 (.lst [V.int 0])) n (.lst (gZ.map nv)) n=some (.lst (gZ.map nv)):=upd_same
 have m6n:setM M3 n .mine n=some .mine:=fV
 have n4:H4 n=none:=S5.free g6
 have G6:=G5.trans G6a
 generalize upd (upd H4 p5 (.lst [V.int 0])) n (.lst (gZ.map nv))=H6 at G6 G6a S6 h6n
 generalize setM M3 n .mine=M6 at G6 G6a m6n
 have h6o:=S6 _ _ h4o
 refine⟨_,rfl,o,aK,dx,w2 D l,rfl,h6o,O.dG,O.kn,by show 2<1000; decide,?_⟩
 rw [pw3]
 refine⟨_,rfl,_,rfl,o,aK,dx,w3 D l n,rfl,upd_same,O.dG,O.kl,by show 3<1000; decide,?_⟩
 rw [pw4,nF]
 have hm6:=G6.ext _ _ hm3
 have G7:=G6.qO (u:=.ins aK dx (fW D l n b)) hm6 rfl (kt h6o)
 have n2:∀ a p,w2 D l≠fG a p:=fun a p z=>by
  have h1:((Str.ofString "goings",V.ref D):Str×V)=(Str.ofString "text",V.ref a):=(List.cons.inj z).1
  have h2:Str.ofString "goings"=Str.ofString "text":=congrArg Prod.fst h1
  exact absurd h2 (by decide +kernel)
 have aoS:=aij.imp fun t x z=>z.go G7 (nog h4o n2 z) G3.gh
 have aj_:=afJ.imp fun _ _ z=>G7.rv z
 have nno:n≠o:=fun z=>by rw [z,h6o] at h6n; cases h6n
 have mD6:=G6.ext _ _ (G3a.ext _ _ mD)
 exact q M6 _ ⟨dx,D,l,n,gs,ys1.reverse,G7.gh,upd_same,hm6,mD6,G6.ext _ _ m3l,m6n,by rw [upd_ne (Ne.symm noD)]; exact S6 _ _ h4D,by rw [upd_ne nlo]; exact S6 _ _ h4l,by rw [upd_ne nno]; exact h6n,aoS,aj_,rfl,nDl,ne_of_none h4D n4,ne_of_none h4l n4,nd⟩
end
section
variable {P:Program}{w:World}{K:PySem.W.Frag}{mg:Str→Option Value}{base:Heap}{f:Addr}{fd:FuncData}{ao aD aG aL aM aK:Addr}
theorem Xa (O:Own K ao aD aG aL aM aK) {mK:Value} (pK:mg "SHUT"=some mK) (mV:RelV (.int 12) mK) {fU:Value} (iR:mg "WHILE_INTO"=some fU) (fX:RelV (.int 9) fU) {zJ:Value} (Nr:mg "BODIES"=some zJ) (zV:RelV (.int 14) zJ) {iH:Value} (j4:mg "FORK_YES"=some iH) (iM:RelV (.int 7) iH) {jx:Value} (mY:mg "FORK_NO"=some jx) (jB:RelV (.int 8) jx)
  {YF:Addr}{Yg:FuncData} (ajx:Fun K "work" "work" zO YF Yg) (ajs:FnOk P w K mg base CX0 36 YF Yg ["step","load","stack"] (acP K ao aD aG aL)) (ajn:Binds K Yg ["step","load","stack"] []) (ah3:mg "work"=some (.ref YF))
  (uF:mg "Going"=some (.ref aM))
  {iZ:Addr}{yR:FuncData} (rZ:Meth K aG "body_parts" iZ) (Lf:FnOk P w K mg base CX0 36 iZ yR ["self"] (aao K ao aD aG aL)) (rY:Binds K yR ["self"] [])
  {eE:Addr}{lN:FuncData} (rD:Mk K aM eE) (lW:FnOk P w K mg base CX0 35 eE lN ["self","text"] (Lz aM)) (gb:Binds K lN ["self","text"] [])
  (F:Fun K "move" "Walk.move" pX f fd):FnOk P w K mg base CX0 37 f fd ["self","step","going","word"] (acR K ao aD aG aL aM aK):=by
 refine okQ F Wv (fun vs H Q E h=>?_) (fun cdv A outer s H vs Q E hr h=>?_)
 ·obtain⟨o,dx,G,S,N,gs0,g,rows,p,rest,sp,num,b,k,wv,M,H₀,rfl,_⟩:=h
  rfl
 obtain⟨o,dx,G,S,N,gs0,g,rows,p,rest,sp,num,b,k,wv,M,H₀,rfl,w0,hlk,hb,hkl,hrest,h⟩:=h
 refine⟨_,(aq (bC (aQ op_eq (qv 1) (aW (v:=.int 12) rfl pK mV) (nomark _)) (aq (cZ (qM PySem.F.plainAttrs_list PySem.F.slot_list_pop PySem.F.type_list_pop sS (bN (qv 0) rfl)))
   (aA aaw)) aX)
   (aq (bC (aQ op_eq (qv 1) (aW (v:=.int 9) rfl iR fX) (nomark _)) (aq (Rj (bN (qv 0) rfl) (aW (v:=.int 14) rfl Nr zV) N6 (lD (qv 3) O.iw rZ Lf hr rY .nil pass0) Jc set_list)
   (aq (cZ (gQ PySem.F.plainAttrs_list PySem.F.slot_list_append PySem.F.type_list_append dD (bN (qv 0) rfl) (aj (mj rD lW hr rfl uF gb .nil pass0 (aj (bN (qv 3) rfl) ak)) ak)))
   (aA aaw))) aX)
   (aq (Ui (qv 2) au aia)
   (aA (bC (aQ op_eq (qv 1) (aW (v:=.int 7) rfl j4 iM) (nomark _)) (aA (cZ (gQ PySem.F.plainAttrs_list PySem.F.slot_list_append PySem.F.type_list_append dD (bN (qv 0) rfl) (aj (mj rD lW hr rfl uF gb .nil pass0 (aj (bN (qv 3) rfl) ak)) ak)))) (aA (bC (aQ op_eq (qv 1) (aW (v:=.int 8) rfl mY jB) (nomark _)) (aA (cZ (gQ PySem.F.plainAttrs_list PySem.F.slot_list_append PySem.F.type_list_append dD (bN (qv 0) rfl) (aj (mj rD lW hr rfl uF gb .nil pass0 (aj (bN (qv 3) rfl) ak)) ak)))) (aA (cZ (aJ ajs hr rfl ah3 ajx.kp ajn .nil pass0 (aj (qv 1) (aj (bN (qv 3) rfl) (aj (bN (qv 0) rfl) ak))))))))))))),?_⟩
 have hgl:=w0.gos.length
 rw [List.length_reverse,List.length_cons,List.length_append,List.length_singleton] at hgl
 rcases h with⟨rfl,q⟩ | ⟨w',ws,bw,tx',s',oE,rfl,rfl,hbw,rdy,mv,bx',hz,q⟩
 ·refine⟨_,rfl,rfl,_,rfl,ite2 (fun _=>?_) (fun h=>absurd (by decide) h)⟩
  have hgo:=w0.gos
  rw [List.reverse_cons] at hgo
  obtain⟨gs1,y,e1,hg0,_⟩:=bB.snoc hgo
  obtain⟨rfl,_⟩:=List.append_inj' e1 rfl
  refine⟨_,rfl,o,aK,dx,_,_,rfl,w0.ob,O.dG,O.kg,lwG,.inl ⟨rfl,_,SqL.of w0.hG⟩,G,_,_,rfl,rfl,w0.hG,oO _ _,?_⟩
  rw [oR]
  exact q M _ ⟨dx,G,S,N,gs0,rows,w0.setG hg0 (List.nodup_append.mp w0.nd).1⟩
 have hw:=w0.gh.ok bw _ hbw
 have n12:¬ k=12:=fun z=>by
  rcases mv with⟨h,_⟩ | ⟨h,_⟩ | ⟨h,_⟩ | ⟨h,_⟩ <;> lia
 refine⟨_,rfl,rfl,_,rfl,ite2 (fun h=>absurd (by have:=V.int.inj (of_decide_eq_true h); lia) n12) (fun _=>?_)⟩
 dsimp only [tNext]
 rcases mv with⟨rfl,s8,rfl,rfl,rfl⟩ | mv
 ·refine⟨_,rfl,rfl,_,rfl,ite2 (fun _=>?_) (fun h=>absurd (by decide) h)⟩
  obtain⟨dw,v,y,n,bd,sz,hw1,tv,c7,c8,hs⟩:=hw
  refine⟨_,rfl,o,aK,dx,_,_,rfl,w0.ob,O.dG,O.kn,lwN,N,_,_,_,rfl,rfl,SqL.of w0.hN,acd (k:=14) w0.n15 (by lia),_,rfl,bw,dw,_,rfl,hw1,anQ (by decide +kernel) (by decide +kernel) (by decide +kernel) (by decide +kernel) (by decide +kernel) (by decide +kernel),bw,w',M,H₀,rfl,w0.gh,hbw,hz,fun H1 G1=>⟨_,_,rfl,rfl,N,_,_,14,rfl,rfl,(w0.go G1).hN,R9 (j:=14) (by rw [List.length_map,w0.n15]; lia),?_⟩⟩
  rw [Rb]
  have w1:=(w0.go G1).aej (oE:=num.set 14 (num.getD 14 0+(aZ w').parts)) (by rw [List.length_set]; exact w0.n15)
  generalize upd H1 N (.lst ((num.set 14 (num.getD 14 0+(aZ w').parts)).map nv))=H2 at w1
  obtain⟨dw,v,y,n,bd,sz,hw1,tv,c7,c8,hs⟩:=w1.gh.ok bw _ hbw
  obtain⟨ab,rfl,htx⟩:=c8 s8
  refine⟨_,rfl,o,aK,dx,_,_,rfl,w1.ob,O.dG,O.kg,lwG,.inl ⟨rfl,_,SqL.of w1.hG⟩,_,rfl,bw,aG,dw,_,_,rfl,hw1,O.iw,O.wb,ldB,fun gg dg hg hdg ne=>⟨gg,dg,ab,rfl,jM,⟨rfl,G,gs0++[.ref g],_,rfl,rfl,?_,?_,?_⟩⟩⟩
  ·rw [nF]
   exact kW (C:=aM) (fs:=fG ab 0) hg hdg ne _ _ w1.hG
  ·exact g8 (by simp only [List.length_append,List.length_singleton]; lia)
  rw [nF,← (show mkO H2 gg dg aM (fG ab 0)=upd (upd H2 dg (.own gg)) gg (.ins aM dg (fG ab 0)) from rfl)]
  obtain⟨k1,k2,k3⟩:=w1.newG htx (bx'.2 _ (by simp)) hg hdg ne
  exact q _ _ ⟨dx,G,S,N,_,rows,k1.push k2 k3⟩
 have n9:¬ k=9:=fun z=>by
  rcases mv with⟨h,_⟩ | ⟨h,_⟩ | ⟨h,_⟩ <;> lia
 refine⟨_,rfl,rfl,_,rfl,ite2 (fun h=>absurd (by have:=V.int.inj (of_decide_eq_true h); lia) n9) (fun _=>?_)⟩
 dsimp only [tNext]
 obtain⟨dg,a,W,j,tt,wl,mg,hg,ma,hW,hj,hdr,hbt⟩:=rdy
 refine⟨_,rfl,g,aM,dg,_,_,rfl,hg,O.Ba,O.gp,lgP,_,_,rfl,rfl,dg,_,hg,by show 2<1000; decide,?_⟩
 rw [show putF "place" (.int ((j:Int)+1)) (fG a j)=fG a (j+1) from pgP (q:=j+1)]
 have w1:=w0.onto mg hg ma hW hj hdr hbt
 generalize upd H g (.ins aM dg (fG a (j+1)))=H1 at w1
 obtain⟨dw,v,y,n,bd,sz,hw1,tv,c7,c8,hs⟩:=w1.gh.ok bw _ hbw
 rcases mv with⟨rfl,s7,rfl,rfl,rfl⟩ | ⟨rfl,s7,rfl,rfl,rfl⟩ | ⟨hk,rfl,rfl,rfl⟩
 ·refine⟨_,rfl,rfl,_,rfl,ite2 (fun _=>?_) (fun h=>absurd (by decide) h)⟩
  obtain⟨ay,an,rfl,rfl,hty,htn⟩:=c7 s7
  refine⟨_,rfl,o,aK,dx,_,_,rfl,w1.ob,O.dG,O.kg,lwG,.inl ⟨rfl,_,SqL.of w1.hG⟩,_,rfl,bw,aG,dw,_,_,rfl,hw1,O.iw,O.wy,ldY,fun gg dg hg hdg ne=>⟨gg,dg,ay,rfl,jM,⟨rfl,G,gs0++[.ref g],_,rfl,rfl,?_,?_,?_⟩⟩⟩
  ·rw [nF]
   exact kW (C:=aM) (fs:=fG ay 0) hg hdg ne _ _ w1.hG
  ·exact g8 (by simp only [List.length_append,List.length_singleton]; lia)
  rw [nF,← (show mkO H1 gg dg aM (fG ay 0)=upd (upd H1 dg (.own gg)) gg (.ins aM dg (fG ay 0)) from rfl)]
  obtain⟨k1,k2,k3⟩:=w1.newG hty (bx'.2 _ (by simp)) hg hdg ne
  exact q _ _ ⟨dx,G,S,N,_,rows,k1.push k2 k3⟩
 ·refine⟨_,rfl,rfl,_,rfl,ite2 (fun h=>absurd h (by decide)) (fun _=>?_)⟩
  refine⟨_,rfl,rfl,_,rfl,ite2 (fun _=>?_) (fun h=>absurd (by decide) h)⟩
  obtain⟨ay,an,rfl,rfl,hty,htn⟩:=c7 s7
  refine⟨_,rfl,o,aK,dx,_,_,rfl,w1.ob,O.dG,O.kg,lwG,.inl ⟨rfl,_,SqL.of w1.hG⟩,_,rfl,bw,aG,dw,_,_,rfl,hw1,O.iw,O.wn,ldN,fun gg dg hg hdg ne=>⟨gg,dg,an,rfl,jM,⟨rfl,G,gs0++[.ref g],_,rfl,rfl,?_,?_,?_⟩⟩⟩
  ·rw [nF]
   exact kW (C:=aM) (fs:=fG an 0) hg hdg ne _ _ w1.hG
  ·exact g8 (by simp only [List.length_append,List.length_singleton]; lia)
  rw [nF,← (show mkO H1 gg dg aM (fG an 0)=upd (upd H1 dg (.own gg)) gg (.ins aM dg (fG an 0)) from rfl)]
  obtain⟨k1,k2,k3⟩:=w1.newG htn (bx'.2 _ (by simp)) hg hdg ne
  exact q _ _ ⟨dx,G,S,N,_,rows,k1.push k2 k3⟩
 ·refine⟨_,rfl,rfl,_,rfl,ite2 (fun h=>absurd (show k=7 by have:=V.int.inj (of_decide_eq_true h); lia) (by lia)) (fun _=>?_)⟩
  refine⟨_,rfl,rfl,_,rfl,ite2 (fun h=>absurd (show k=8 by have:=V.int.inj (of_decide_eq_true h); lia) (by lia)) (fun _=>?_)⟩
  exact⟨_,rfl,_,rfl,bw,aG,dw,_,_,rfl,hw1,O.iw,O.wl,ldL,_,rfl,o,aK,dx,_,_,rfl,w1.ob,O.dG,O.ks,lwS,k,v,S,aZ w',sp,rows,M,H₀,rfl,w1.gh,w1.mS,w1.hS,w1.sts,tv,hlk,hb,hkl,fun M' H' rows' G' hS' hr'=>q M' H' ⟨dx,G,S,N,_,rows',w1.ahs G' hS' hr'⟩⟩
end
section
variable {P:Program}{w:World}{K:PySem.W.Frag}{mg:Str→Option Value}{base:Heap}{f:Addr}{fd:FuncData}{ao aD aG aL aM aK:Addr}
theorem W_ (O:Own K ao aD aG aL aM aK) (dF:mg "len"=none) {mK:Value} (pK:mg "SHUT"=some mK) (mV:RelV (.int 12) mK) {mJ:Value} (oF:mg "TWIN"=some mJ) (lC:RelV (.int 2) mJ) {qu:Value} (tV:mg "COPIED"=some qu) (oZ:RelV (.int 13) qu) {kZ:Addr} (zB:mg "LOOKS"=some (.ref kZ)) (zu:∀ H,SqT K H kZ [.int 0,.int 1,.int 1,.int 2,.int 2,.int 1,.int 3,.int 1,.int 1,.int 1,.int 1,.int 0,.int 0])
  {pF:Addr}{o_:FuncData} (GZ:Fun K "place_of" "place_of" jZ pF o_) (GQ:FnOk P w K mg base CX0 37 pF o_ ["sort","top"] (Q7 K ao aD aG aL)) (Gz:Binds K o_ ["sort","top"] []) (Ga:mg "place_of"=some (.ref pF))
  {wJ:Addr}{wB:FuncData} (Ub:Fun K "parts_within" "parts_within" ji wJ wB) (T8:FnOk P w K mg base CX0 37 wJ wB ["row","most"] (V7 K ao aD aG aL)) (Tt:Binds K wB ["row","most"] []) (RT:mg "parts_within"=some (.ref wJ))
  {kY:Addr}{Ep:FuncData} (wM:Meth K aL "word_at" kY) (Ua:FnOk P w K mg base CX0 37 kY Ep ["self","place"] (V0 K ao aD aG aL)) (wI:Binds K Ep ["self","place"] [])
  {j7:Addr}{vB:FuncData} (pG:Meth K aK "top" j7) (zj:FnOk P w K mg base CX0 37 j7 vB ["self"] (abb K ao aD aG aL aM aK)) (pC:Binds K vB ["self"] [])
  {qe:Addr}{Li:FuncData} (Dz:Meth K aK "move" qe) (Z4:FnOk P w K mg base CX0 37 qe Li ["self","step","going","word"] (acR K ao aD aG aL aM aK)) (Dn:Binds K Li ["self","step","going","word"] [])
  (F:Fun K "step" "Walk.step" pW f fd):FnOk P w K mg base CX0 38 f fd ["self"] (aag K ao aD aG aL aM aK):=by
 refine okQ F qx (fun vs H Q E h=>?_) (fun cdv A outer s H vs Q E hr h=>?_)
 ·obtain⟨o,M,H₀,tx,sk,num,b,rfl,_⟩:=h
  rfl
 obtain⟨o,M,H₀,tx,sk,num,b,rfl,w0,hne,bx,bs,hnx,qf,qt⟩:=h
 refine⟨_,(aq (bA (i:=1) qx.nd rfl (Or.inl rfl) (bK ix_list (bN (qv 0) rfl) (Bx wW au) (fun _ _=>rfl)))
   (aq (bA (i:=2) qx.nd rfl (Or.inl rfl) (aaz (bN (qv 1) rfl) O.cText wM Ua hr wI .nil pass0 (aj (bN (qv 1) rfl) ak)))
   (aq (bA (i:=3) qx.nd rfl (Or.inl rfl) (tR (aQ WQ (qv 2) qL (nomark _)) (aW (v:=.int 12) rfl pK mV) (aJ GQ hr rfl Ga GZ.kp Gz .nil pass0 (aj (bN (qv 2) rfl) (aj (lD (qv 0) O.dG pG zj hr pC .nil pass0) ak)))))
   (aq (bA (i:=4) qx.nd rfl (Or.inl rfl) (tR (aQ op_eq (qv 3) (aW (v:=.int 2) rfl oF lC) (nomark _)) (aJ T8 hr rfl RT Ub.kp Tt .nil pass0 (aj (lD (qv 0) O.dG pG zj hr pC .nil pass0) (aj (bN (qv 0) rfl) ak))) au))
   (aq (bC (aQ Fz (qv 4) (bN (qv 0) rfl) (nomark _)) (aA (aO yX)) aX)
   (aq (Ui (qv 0) (qv 4) ah_)
   (aq (Rj (bN (qv 0) rfl) (qv 3) N6 au Jc set_list)
   (aq (bC (aQ op_eq (qv 3) (aW (v:=.int 2) rfl oF lC) (nomark _)) (aA (Rj (bN (qv 0) rfl) (aW (v:=.int 13) rfl tV oZ) N6 (qv 4) Jc set_list)) aX)
   (aq (tQ PassesOwn.never (aQ afA (cY call_len_seq rfl dF oH (aj (bN (qv 0) rfl) ak)) (bK bF (aW (v:=.ref kZ) rfl zB rfl) (qv 3) (fun _ _=>rfl)) (nomark _)) (aA (cZ (gQ PySem.F.plainAttrs_list PySem.F.slot_list_insert PySem.F.type_list_insert abE (bN (qv 0) rfl) (aj au (aj (aP ak) ak))))))
   (aq (cZ (aaz (qv 0) O.dG Dz Z4 hr Dn .nil pass0 (aj (qv 3) (aj (qv 1) (aj (qv 2) ak)))))
   (aA (aO yX)))))))))))),?_⟩
 obtain⟨dx,G,S,N,gs,rows,w0⟩:=w0
 obtain⟨p,rest,rfl⟩:∃ p rest,tx=p::rest:=by
  cases tx with
  | nil=>exact absurd rfl hne
  | cons p rest=>exact⟨p,rest,rfl⟩
 have hgo:=w0.gos
 rw [List.reverse_cons] at hgo
 obtain⟨gs0,y,rfl,hg0,hgp⟩:=bB.snoc hgo
 obtain⟨g,dg,a,W,j,tt,rfl,mg,hg,ma,hjk,⟨wl,hW,hjw⟩,rfl,hbt⟩:=hgp
 have h12:=zq (tx:=T.node (tt.kids.drop j)::rest) (s:=sk)
 have htl:tt.kids.length≤8000000:=by
  have h1:=hbt.2
  have h2:=T.cI tt
  have h3:=T.cL tt.kids
  lia
 have hsp:T.aH sk≤7999999:=by
  have h1:=bs.2
  rw [T.aN] at h1
  lia
 have hsl:=T.cL sk
 have arh:rest.length+1≤8000000:=bx.1
 have bt0:=gF bs 0
 refine jY (fun v=>[some (.ref o),some v,none,none,none]) (fun _=>rfl) (fun v H'=>v=.ref g∧H'=H) (fun R r=>⟨_,rfl,o,aK,dx,_,_,rfl,w0.ob,O.dG,O.kg,lwG,1,rfl,G,_,_,_,rfl,rfl,SqL.of w0.hG,Et,r _ _ ⟨rfl,rfl⟩⟩) (fun v1 H1 h1=>?_)
 obtain⟨rfl,rfl⟩:=h1
 refine jY (fun v=>[some (.ref o),some (.ref g),some v,none,none]) (fun _=>rfl) (fun v H'=>∃ M',WkX K ao aD aG aL aM aK M' H₀ H' o dx G S N (gs0++[.ref g]) rows (T.node (tt.kids.drop j)::rest) sk num b∧((v=.non∧tt.kids.drop j=[])∨∃ w' ws' bw,v=.ref bw∧M' bw=some (.word w')∧Rdy aM M' H' g w' ws'∧tt.kids.drop j=w'::ws')) (fun R r=>?_) (fun v2 H2 h2=>?_)
 ·obtain⟨da,va,ha,_,_⟩:=w0.gh.ok a _ ma
  refine⟨_,rfl,g,aM,dg,_,_,rfl,hg,O.Ba,O.gt,lgT,a,da,_,rfl,ha,anP (by decide +kernel) (by decide +kernel),_,rfl,g,aM,dg,_,_,rfl,hg,O.Ba,O.gp,lgP,a,tt,W,j,M,H₀,wl,rfl,w0.gh,ma,hW,hjw,hjk,by have:=hbt.1; lia,htl,fun e=>r _ _ ⟨M,w0,.inl ⟨rfl,by rw [e]; exact List.drop_length⟩⟩,fun w' ew bw M' H' G' hb' hl'=>?_⟩
  obtain⟨_,_,_,_,hMW⟩:=w0.gh.ok a _ ma
  obtain⟨wl',e1,e2⟩:=G'.wds W _ wl hMW hW
  exact r _ _ ⟨M',w0.go G',.inr ⟨w',tt.kids.drop (j+1),bw,rfl,hb',⟨dg,a,W,j,tt,wl',G'.ext _ _ mg,(G'.mine g mg id).trans hg,G'.ext _ _ ma,e1,hl' wl' e1,drop_cons ew,hbt⟩,drop_cons ew⟩⟩
 obtain⟨M2,w2,hv⟩:=h2
 refine jY (fun v=>[some (.ref o),some (.ref g),some v2,some v,none]) (fun _=>rfl) (fun v H'=>v=.int (stepT (T.node (tt.kids.drop j)::rest) sk:Nat)∧Same H2 H') (fun R r=>?_) (fun v3 H3 h3=>?_)
 ·rcases hv with⟨rfl,he⟩ | ⟨w',ws',bw,rfl,hbw,rdy,he⟩
  ·refine⟨_,rfl,rfl,_,rfl,iteT (r _ _ ⟨?_,Same.refl _⟩)⟩
   rw [Lx (show (ats (T.node (tt.kids.drop j)::rest) 0).kids=[] from he)]
   rfl
  ·obtain⟨dw,v,y,n,bd,sz,hw1,tv,c7,c8,hs⟩:=w2.gh.ok bw _ hbw
   refine⟨_,rfl,rfl,_,rfl,iteF ⟨_,rfl,bw,aG,dw,_,_,rfl,hw1,O.iw,O.wk,ldK,_,rfl,o,dx,_,rfl,w2.ob,Ae (by decide +kernel) (by decide +kernel) (by decide +kernel) (by decide +kernel),o,M2,H₀,_,_,_,_,rfl,⟨dx,G,S,N,_,_,w2⟩,fun x H3 S3 hx=>⟨_,x,ats sk 0,M2,H₀,rfl,w2.gh.grow S3,hx,by have:=bt0.1; lia,fun H4 S4=>r _ _ ⟨?_,S3.trans S4⟩⟩⟩⟩
   rw [Pj (show (T.node (tt.kids.drop j)).kids=w'::ws' from he)]
 obtain⟨rfl,S3⟩:=h3
 have w3:=w2.grow S3
 have hv3:(v2=.non∧tt.kids.drop j=[])∨∃ w' ws' bw,v2=.ref bw∧M2 bw=some (.word w')∧Rdy aM M2 H3 g w' ws'∧tt.kids.drop j=w'::ws':=by
  rcases hv with hv | ⟨w',ws',bw,e1,e2,e3,e4⟩
  ·exact .inl hv
  ·exact .inr ⟨w',ws',bw,e1,e2,e3.go (.grow w2.gh S3:Go K ao aD aG aL (fun _=>False) M2 M2 H₀ H2 H3) id w2.gh,e4⟩
 refine jY (fun v=>[some (.ref o),some (.ref g),some v2,some (.int (stepT (T.node (tt.kids.drop j)::rest) sk:Nat)),some v]) (fun _=>rfl) (fun v H'=>Same H3 H'∧∃ c:Nat,v=.int (c:Int)∧(bL (T.node (tt.kids.drop j)::rest) sk≤b→c=bL (T.node (tt.kids.drop j)::rest) sk)∧(b<bL (T.node (tt.kids.drop j)::rest) sk→b<c)) (fun R r=>?_) (fun v4 H4 h4=>?_)
 ·refine⟨_,rfl,rfl,_,rfl,ite2 (fun h=>?_) (fun h=>?_)⟩
  ·have h2:stepT (T.node (tt.kids.drop j)::rest) sk=2:=by have:=V.int.inj (of_decide_eq_true h); lia
   have hc:bL (T.node (tt.kids.drop j)::rest) sk=(ats sk 0).parts:=by unfold bL; rw [if_pos h2]
   refine⟨_,rfl,o,dx,_,rfl,w3.ob,Ae (by decide +kernel) (by decide +kernel) (by decide +kernel) (by decide +kernel),o,M2,H₀,_,_,_,_,rfl,⟨dx,G,S,N,_,_,w3⟩,fun x H4 S4 hx=>⟨_,rfl,o,aK,dx,_,_,rfl,(w3.grow S4).ob,O.dG,O.kl,lwL,x,ats sk 0,M2,H₀,b,rfl,w3.gh.grow S4,hx,by have:=bt0.2; lia,fun c H5 S5 c1 c2=>r _ _ ⟨S4.trans S5,c,rfl,by rw [hc]; exact c1,by rw [hc]; exact c2⟩⟩⟩
  ·have h2:¬ stepT (T.node (tt.kids.drop j)::rest) sk=2:=fun z=>h (decide_eq_true (by rw [z]; rfl))
   have hc:bL (T.node (tt.kids.drop j)::rest) sk=1:=by unfold bL; rw [if_neg h2]
   exact r _ _ ⟨Same.refl _,1,rfl,fun _=>hc.symm,fun z=>by rw [hc] at z; exact z⟩
 obtain⟨S4,c,rfl,c1,c2⟩:=h4
 have w4:=w3.grow S4
 have hv4:(v2=.non∧tt.kids.drop j=[])∨∃ w' ws' bw,v2=.ref bw∧M2 bw=some (.word w')∧Rdy aM M2 H4 g w' ws'∧tt.kids.drop j=w'::ws':=by
  rcases hv3 with hv | ⟨w',ws',bw,e1,e2,e3,e4⟩
  ·exact .inl hv
  ·exact .inr ⟨w',ws',bw,e1,e2,e3.go (.grow w3.gh S4:Go K ao aD aG aL (fun _=>False) M2 M2 H₀ H3 H4) id w3.gh,e4⟩
 refine⟨_,rfl,_,rfl,o,aK,dx,_,_,rfl,w4.ob,O.dG,O.kl,lwL,_,_,rfl,rfl,_,rfl,ite2 (fun h=>?_) (fun h=>?_)⟩
 ·have hbc:b<c:=by have:=of_decide_eq_true h; lia
  have hb:b<bL (T.node (tt.kids.drop j)::rest) sk:=by
   rcases Nat.lt_or_ge b (bL (T.node (tt.kids.drop j)::rest) sk) with z | z
   ·exact z
   ·have:=c1 z; lia
  exact qf hb M2 H4 ⟨dx,G,S,N,_,_,w4⟩
 have hcb:c≤b:=by
  have:¬ ((b:Int)<(c:Int)):=fun z=>h (decide_eq_true z)
  lia
 have abQ:bL (T.node (tt.kids.drop j)::rest) sk≤b:=by
  rcases Nat.lt_or_ge b (bL (T.node (tt.kids.drop j)::rest) sk) with z | z
  ·have:=c2 z; lia
  ·exact z
 have hc:=c1 abQ
 obtain⟨bx2,bs2⟩:=hnx abQ
 have q:=qt abQ
 have ae2:∀ {Ma:Mp}{Ha:Hp}{oE:List Nat}{rows':List V}{s':List T}{b':Nat},WkX K ao aD aG aL aM aK Ma H₀ Ha o dx G S N (gs0++[.ref g]) rows' (T.node (tt.kids.drop j)::rest) s' oE b'→rE aM Ma Ha (T.node (tt.kids.drop j)) (.ref g):=fun wa=>by
  have hgo:=wa.gos
  rw [List.reverse_cons] at hgo
  obtain⟨gs1,y,e1,_,hy⟩:=bB.snoc hgo
  have:=(List.append_inj' e1 rfl).2
  cases this
  exact hy
 dsimp only [tNext]
 refine⟨_,rfl,o,aK,dx,_,_,rfl,w4.ob,O.dG,O.kl,lwL,_,rfl,_,_,rfl,rfl,dx,_,w4.ob,by show 4<1000; decide,?_⟩
 rw [show (V.int ((b:Int) - (c:Int)):V)=.int ((b - c:Nat):Int) by congr 1; lia,pwL]
 have w5:=w4.alm (b - c)
 have G5:Go K ao aD aG aL (fun a=>a=o) M2 M2 H₀ H4 (upd H4 o (.ins aK dx (fW G S N (b - c)))):=Go.qO (.refl w4.gh) w4.mo rfl (Kt.ins w4.ob)
 have ngo:¬ g=o:=by
  obtain⟨g',_,_,_,_,_,e,_,h2,_⟩:=ae2 w4
  cases e
  intro z
  rw [z,w4.ob] at h2
  have h3:=(HO.ins.inj (Option.some.inj h2)).2.2
  exact absurd (congrArg List.length h3) (by simp [fG,fW])
 have hv5:(v2=.non∧tt.kids.drop j=[])∨∃ w' ws' bw,v2=.ref bw∧M2 bw=some (.word w')∧Rdy aM M2 (upd H4 o (.ins aK dx (fW G S N (b - c)))) g w' ws'∧tt.kids.drop j=w'::ws':=by
  rcases hv4 with hv | ⟨w',ws',bw,e1,e2,e3,e4⟩
  ·exact .inl hv
  ·exact .inr ⟨w',ws',bw,e1,e2,e3.go G5 ngo w4.gh,e4⟩
 generalize upd H4 o (.ins aK dx (fW G S N (b - c)))=H5 at w5 hv5
 have mgg:M2 g=some .mine:=by
  obtain⟨g',_,_,_,_,_,e,h2,_⟩:=ae2 w4
  cases e
  exact h2
 have gnl:∀ {Ha:Hp}{oE:List Nat}{rows':List V}{s':List T}{b':Nat}{q:Addr}{l:List V},WkX K ao aD aG aL aM aK M2 H₀ Ha o dx G S N (gs0++[.ref g]) rows' (T.node (tt.kids.drop j)::rest) s' oE b'→Ha q=some (.lst l)→¬ g=q:=fun wa hq z=>by
  obtain⟨g',_,_,_,_,_,e,_,h2,_⟩:=ae2 wa
  cases e
  rw [z,hq] at h2
  cases h2
 generalize hK:stepT (T.node (tt.kids.drop j)::rest) sk=k at *
 refine⟨_,rfl,o,aK,dx,_,_,rfl,w5.ob,O.dG,O.kn,lwN,_,rfl,N,_,_,_,rfl,rfl,SqL.of w5.hN,acd (k:=k) w5.n15 (by lia),_,_,rfl,rfl,N,_,_,k,rfl,rfl,w5.hN,R9 (j:=k) (by rw [List.length_map,w5.n15]; lia),?_⟩
 rw [show (V.int ((num.getD k 0:Int)+1):V)=V.int ((num.getD k 0:Int)+((1:Nat):Int)) from rfl,Rb]
 have w6:=w5.aej (oE:=num.set k (num.getD k 0+1)) (by rw [List.length_set]; exact w5.n15)
 have G6:Go K ao aD aG aL (fun a=>a=N) M2 M2 H₀ H5 (upd H5 N (.lst ((num.set k (num.getD k 0+1)).map nv))):=.list w5.gh w5.mN w5.hN
 have hv6:(v2=.non∧tt.kids.drop j=[])∨∃ w' ws' bw,v2=.ref bw∧M2 bw=some (.word w')∧Rdy aM M2 (upd H5 N (.lst ((num.set k (num.getD k 0+1)).map nv))) g w' ws'∧tt.kids.drop j=w'::ws':=by
  rcases hv5 with hv | ⟨w',ws',bw,e1,e2,e3,e4⟩
  ·exact .inl hv
  ·exact .inr ⟨w',ws',bw,e1,e2,e3.go G6 (gnl w5 w5.hN) w5.gh,e4⟩
 generalize upd H5 N (.lst ((num.set k (num.getD k 0+1)).map nv))=H6 at w6 hv6
 dsimp only
 refine abN (fun σ' H'=>σ'=[some (.ref o),some (.ref g),some v2,some (.int (k:Int)),some (.int (c:Int))]∧WkX K ao aD aG aL aM aK M2 H₀ H' o dx G S N (gs0++[.ref g]) rows (T.node (tt.kids.drop j)::rest) sk (FQ k c num) (b - c)∧((v2=.non∧tt.kids.drop j=[])∨∃ w' ws' bw,v2=.ref bw∧M2 bw=some (.word w')∧Rdy aM M2 H' g w' ws'∧tt.kids.drop j=w'::ws')) (fun σ' H7 h7=>?_) (fun A' B' hA hB=>⟨_,rfl,rfl,_,rfl,ite2 (fun h=>hA _ fun N' hN'=>?_) (fun h=>hB _ ⟨rfl,?_,hv6⟩)⟩)
 rotate_left
 ·have h2:k=2:=by have:=V.int.inj (of_decide_eq_true h); lia
  subst h2
  refine⟨_,rfl,o,aK,dx,_,_,rfl,w6.ob,O.dG,O.kn,lwN,N,_,_,_,rfl,rfl,SqL.of w6.hN,acd (k:=13) w6.n15 (by lia),_,rfl,_,_,rfl,rfl,N,_,_,13,rfl,rfl,w6.hN,R9 (j:=13) (by rw [List.length_map,w6.n15]; lia),?_⟩
  rw [Rb]
  have w7:=w6.aej (oE:=(num.set 2 (num.getD 2 0+1)).set 13 ((num.set 2 (num.getD 2 0+1)).getD 13 0+c)) (by rw [List.length_set]; exact w6.n15)
  have G7:Go K ao aD aG aL (fun a=>a=N) M2 M2 H₀ H6 (upd H6 N (.lst (((num.set 2 (num.getD 2 0+1)).set 13 ((num.set 2 (num.getD 2 0+1)).getD 13 0+c)).map nv))):=.list w6.gh w6.mN w6.hN
  refine hN' _ _ ⟨rfl,by unfold FQ; rw [if_pos rfl]; exact w7,?_⟩
  rcases hv6 with hv | ⟨w',ws',bw,e1,e2,e3,e4⟩
  ·exact .inl hv
  ·exact .inr ⟨w',ws',bw,e1,e2,e3.go G7 (gnl w6 w6.hN) w6.gh,e4⟩
 ·have h2:¬ k=2:=fun z=>h (decide_eq_true (by rw [z]; rfl))
  unfold FQ
  rw [if_neg h2]
  exact w6
 obtain⟨rfl,w7,hv7⟩:=h7
 have lk3:=Nt k
 refine⟨fun μ σ H'=>∃ (i:Nat) (rows':List V),σ=[some (.ref o),some (.ref g),some v2,some (.int (k:Int)),some (.int (c:Int))]∧WkX K ao aD aG aL aM aK M2 H₀ H' o dx G S N (gs0++[.ref g]) rows' (T.node (tt.kids.drop j)::rest) (sk++List.replicate i leaf) (FQ k c num) (b - c)∧((v2=.non∧tt.kids.drop j=[])∨∃ w' ws' bw,v2=.ref bw∧M2 bw=some (.word w')∧Rdy aM M2 H' g w' ws'∧tt.kids.drop j=w'::ws')∧sk.length+i≤max (looks k) sk.length∧μ=3 - i,⟨_,0,rows,rfl,by rw [List.replicate_zero,List.append_nil]; exact w7,hv7,by lia,rfl⟩,?_⟩
 rintro μ σ H8 ⟨i,rows',rfl,w8,hv8,hi,rfl⟩
 have hrl:=w8.sts.length
 rw [List.length_reverse,List.length_append,List.length_replicate] at hrl
 refine⟨_,rfl,o,aK,dx,_,_,rfl,w8.ob,O.dG,O.ks,lwS,S,rows',rfl,.inl (SqL.of w8.hS),_,rfl,kZ,_,_,_,rfl,rfl,zu _,aeS h12,_,_,rfl,rfl,_,rfl,ite2 (fun h=>?_) (fun h=>?_)⟩
 ·have hlt:rows'.length<looks k:=by have:=of_decide_eq_true h; lia
  refine⟨fun σ' H'=>∃ m',m'<3 - i∧∃ (i:Nat) (rows':List V),σ'=[some (.ref o),some (.ref g),some v2,some (.int (k:Int)),some (.int (c:Int))]∧WkX K ao aD aG aL aM aK M2 H₀ H' o dx G S N (gs0++[.ref g]) rows' (T.node (tt.kids.drop j)::rest) (sk++List.replicate i leaf) (FQ k c num) (b - c)∧((v2=.non∧tt.kids.drop j=[])∨∃ w' ws' bw,v2=.ref bw∧M2 bw=some (.word w')∧Rdy aM M2 H' g w' ws'∧tt.kids.drop j=w'::ws')∧sk.length+i≤max (looks k) sk.length∧m'=3 - i,fun _ _ h=>h,?_⟩
  refine⟨_,rfl,o,aK,dx,_,_,rfl,w8.ob,O.dG,O.ks,lwS,.inl ⟨rfl,_,SqL.of w8.hS⟩,Nat.zero_le _,fun p9 g9=>?_⟩
  obtain⟨S9,t9⟩:=bH (K:=K) (ts:=[]) g9 (bM.mpr rfl)
  have w9:=w8.grow S9
  have hS9:=w9.hS
  refine⟨S,rows',_,rfl,rfl,hS9,g8 (by lia),?_⟩
  have Gx:Go K ao aD aG aL (fun a=>a=S) M2 M2 H₀ (upd H8 p9 (.tup [])) (upd (upd H8 p9 (.tup [])) S (.lst (.ref p9::rows'))):=.list w9.gh w9.mS hS9
  have w10:=w9.ahs (s':=sk++List.replicate (i+1) leaf) Gx upd_same (by
   rw [List.replicate_succ',← List.append_assoc,List.reverse_append]
   exact bB.cons (.inl (t9.mono (Kt.lst hS9))) (w9.sts.imp fun _ _ z=>Gx.rv z))
  refine⟨_,?_,i+1,_,rfl,w10,?_,by lia,rfl⟩
  ·lia
  ·rcases hv8 with hv | ⟨w',ws',bw,e1,e2,e3,e4⟩
   ·exact .inl hv
   ·exact .inr ⟨w',ws',bw,e1,e2,(e3.go (.grow w8.gh S9:Go K ao aD aG aL (fun _=>False) M2 M2 H₀ H8 _) id w8.gh).go Gx (gnl w9 hS9) w9.gh,e4⟩
 have hge:looks k≤rows'.length:=by
  have:¬ ((rows'.length:Int)<((looks k:Nat):Int)):=fun z=>h (decide_eq_true z)
  lia
 have aoP:sk++List.replicate i leaf=pad sk (looks k):=ahR hi (by lia)
 rw [aoP] at w8
 have hpl:looks k≤(pad sk (looks k)).length:=zy sk (looks k)
 have hB:=(G_ (looks k) (by lia) (by lia) bs).le (a':=395) (b':=8000010) (by lia) (by lia)
 have hkd:∀ t∈pad sk (looks k),t.kids.length≤8000000:=agn (agI (by lia))
 refine⟨_,rfl,o,dx,_,rfl,w8.ob,Ae (by decide +kernel) (by decide +kernel) (by decide +kernel) (by decide +kernel),_,rfl,_,rfl,_,rfl,o,dx,G,S,N,gs0,g,rows',_,rest,pad sk (looks k),FQ k c num,b - c,k,v2,M2,H₀,rfl,w8,hpl,hB,hkd,by lia,?_⟩
 rw [← hc] at q
 rcases hv8 with⟨rfl,he⟩ | ⟨w',ws',bw,rfl,hbw,rdy,he⟩
 ·have aii:k=12:=by rw [← hK]; exact Lx (show (ats (T.node (tt.kids.drop j)::rest) 0).kids=[] from he)
  refine .inl ⟨aii,fun M' H' wf=>q M' H' ?_⟩
  have on:=adb (s:=sk) (show (ats (T.node (tt.kids.drop j)::rest) 0).kids=[] from he)
  rw [on,zF w0.n15 (by rw [hK]; lia),hK,← hc]
  rw [aii] at wf ⊢
  rw [show pad sk (looks 12)=sk from dj (Nat.zero_le _)] at wf
  exact wf
 ·have mv:=aj7 (p:=T.node (tt.kids.drop j)) (rest:=rest) (s:=sk) (num:=num) (congrArg T.node he) w0.n15
  rw [hK,← hc] at mv
  have hlp:(aZ w').parts≤8000000:=by
   have h1:=hbt.2
   have h2:=T.cI tt
   have h3:=T.Mx j tt.kids
   rw [he,T.aF] at h3
   have h4:=abK w'
   lia
  exact .inr ⟨w',ws',bw,_,_,_,congrArg T.node he,rfl,hbw,rdy,mv,bx2,hlp,fun M' H' wf=>q M' H' wf⟩
end
section
variable {P:Program}{w:World}{K:PySem.W.Frag}{mg:Str→Option Value}{base:Heap}{f:Addr}{fd:FuncData}{ao aD aG aL aM aK:Addr}
theorem adf (O:Own K ao aD aG aL aM aK)
  (Xn:mg "Walk"=some (.ref aK))
  {jO:Addr}{BZ:FuncData} (T7:Mk K aK jO) (Qw:FnOk P w K mg base CX0 37 jO BZ ["self","stand","budget"] (V1 K ao aD aG aL aM aK)) (vJ:Binds K BZ ["self","stand","budget"] [])
  {qd:Addr}{Lh:FuncData} (Dy:Meth K aK "step" qd) (Z2:FnOk P w K mg base CX0 38 qd Lh ["self"] (aag K ao aD aG aL aM aK)) (Dm:Binds K Lh ["self"] [])
  {gU:Addr}{pO:FuncData} (mH:Meth K aK "at_end" gU) (yP:FnOk P w K mg base CX0 38 gU pO ["self"] (Q9 K ao aD aG aL aM aK)) (mF:Binds K pO ["self"] [])
  (F:Fun K "walked" "walked" oW f fd):FnOk P w K mg base CX0 39 f fd ["stand","budget"] (Fd K ao aD aG aL aM aK):=by
 refine okQ F Uh (fun vs H Q E h=>?_) (fun cdv A outer s H vs Q E hr h=>?_)
 ·obtain⟨x,tx,sk,b,rfl,_⟩:=h
  rfl
 obtain⟨x,tx,sk,b,rfl,hx,hsn,q⟩:=h
 refine⟨_,(aq (bA (i:=2) Uh.nd rfl (Or.inl rfl) (mj T7 Qw hr rfl Xn vJ .nil pass0 (aj (qv 0) (aj (qv 1) ak))))
   (aq (tQ PassesOwn.never (QW.pt (qI (PJ (oA (lD (qv 2) O.dG mH yP hr mF .nil pass0))) (pY (oA (lD (qv 2) O.dG Dy Z2 hr Dm .nil pass0))))) (aA af6))
   (aA (aO (qv 2))))),?_⟩
 refine jY (fun v=>[some x,some (.int (b:Int)),some v]) (fun _=>rfl) (fun v H'=>∃ o M,v=.ref o∧Wk K ao aD aG aL aM aK M H H' o tx sk gZ b) (fun R r=>⟨_,rfl,_,rfl,fun o dx ho hd ne=>⟨o,dx,x,tx,sk,b,setM (fun _=>none) o .mine,H,rfl,(Go.made (X:=fun _=>False) (C:=aK) (fs:=[]) (Gh.nil H) ho hd ne).gh,fV,jM,hx.mono (.of (kW (C:=aK) (fs:=[]) ho hd ne)),hsn.bx,hsn.bs,fun M' H' wf=>⟨rfl,r _ _ ⟨o,M',rfl,wf⟩⟩⟩⟩) (fun v1 H1 h1=>?_)
 obtain⟨o,M1,rfl,w1⟩:=h1
 refine⟨fun μ σ H'=>∃ (M:Mp) (tx' s':List T) (num:List Nat) (b':Nat),σ=[some x,some (.int (b:Int)),some (.ref o)]∧Wk K ao aD aG aL aM aK M H H' o tx' s' num b'∧Sane b' tx' s'∧num.length=15∧goT b tx sk=((goT b' tx' s').1,(goT b' tx' s').2.1,fK num (goT b' tx' s').2.2)∧spT b tx sk+b'=b+spT b' tx' s'∧μ=b'+1,⟨_,M1,tx,sk,gZ,b,rfl,w1,hsn,rfl,by rw [adW (vp _ _ _)],Nat.add_comm _ _,rfl⟩,?_⟩
 rintro μ σ H2 ⟨M,tx',s',num,b',rfl,w2,hs2,hn2,hgo,hsp,rfl⟩
 have stop:(tx'=[]∨b'<bL tx' s')→∀ M' H',Wk K ao aD aG aL aM aK M' H H' o tx' s' num b'→Q (.ref o) H':=fun hst M' H' wf=>by
  refine q o M' H' b' ?_
  rw [rP hst,Q5 hst] at *
  rw [hgo]
  show Wk _ _ _ _ _ _ _ _ _ _ _ tx' s' (fK num gZ) b'
  rw [acf hn2]
  exact wf
 refine⟨_,rfl,o,?_⟩
 obtain⟨dx,G,S,N,gs,rows,wx⟩:=id w2
 refine⟨dx,_,rfl,wx.ob,Ae (by decide +kernel) (by decide +kernel) (by decide +kernel) (by decide +kernel),o,M,H,tx',s',num,b',rfl,w2,_,rfl,?_⟩
 by_cases he:tx'=[]
 ·rw [decide_eq_true he]
  refine iteF (iteF ⟨_,rfl,stop (.inl he) M H2 w2⟩)
 rw [decide_eq_false he]
 refine iteT ⟨_,rfl,o,dx,_,rfl,wx.ob,Ae (by decide +kernel) (by decide +kernel) (by decide +kernel) (by decide +kernel),o,M,H,tx',s',num,b',rfl,w2,he,hs2.bx,hs2.bs,fun hc=>⟨(hs2.next he hc).bx,(hs2.next he hc).bs⟩,fun hc M' H' wf=>⟨_,rfl,iteF ⟨_,rfl,stop (.inr hc) M' H' wf⟩⟩,fun hc M' H' wf=>⟨_,rfl,iteT ?_⟩⟩
 have hcp:=uf tx' s'
 refine⟨fun σ' H''=>σ'=[some x,some (.int (b:Int)),some (.ref o)]∧H''=H',fun σ' H'' h=>⟨b' - bL tx' s'+1,by lia,?_⟩,rfl,rfl⟩
 obtain⟨rfl,rfl⟩:=h
 refine⟨M',_,_,_,_,rfl,wf,hs2.next he hc,YD hn2 (El _ _),?_,?_,rfl⟩
 ·rw [hgo,uG he hc]
  show (_,_,fK num (fK _ _))=(_,_,fK (fK num _) _)
  rw [acg]
 ·rw [Q6 he hc] at hsp
  lia
end
section
variable {P:Program}{w:World}{K:PySem.W.Frag}{mg:Str→Option Value}{base:Heap}{f:Addr}{fd:FuncData}{ao aD aG aL aM aK:Addr}
theorem aeM
  (F:Fun K "begin" "begin" uy f fd):FnOk P w K mg base CX0 31 f fd ["text","tree"] (Q8 K):=by
 refine okQ F aeo (fun vs H Q E h=>?_) (fun cdv A outer s H vs Q E hr h=>?_)
 ·obtain⟨x,t,y,u,rfl,_⟩:=h
  rfl
 obtain⟨x,t,y,u,rfl,hx,hy,q⟩:=h
 refine⟨_,(aA (aO (aP (aj (aP (aj (qv 0) ak)) (aj (aP (aj (qv 1) ak)) ak))))),?_⟩
 refine⟨_,rfl,(by show 1≤sizeLine; decide),fun p1 g1=>⟨_,rfl,(by show 1≤sizeLine; decide),fun p2 g2=>⟨(by show 2≤sizeLine; decide),fun p3 g3=>?_⟩⟩⟩
 obtain⟨S1,t1⟩:=bH (K:=K) g1 (cV hx)
 obtain⟨S2,t2⟩:=bH (K:=K) g2 (cV (hy.mono (.of S1)))
 obtain⟨S3,t3⟩:=bH (K:=K) g3 (k_ (t1.mono (.of S2)) t2)
 exact q _ _ (S1.trans (S2.trans S3)) t3
theorem abr {mK:Value} (pK:mg "SHUT"=some mK) (mV:RelV (.int 12) mK)
  {cX:Addr}{cW:FuncData} (ju:Fun K "first" "first" jJ cX cW) (jt:FnOk P w K mg base CX0 32 cX cW ["tree"] (ur K)) (jo:Binds K cW ["tree"] []) (jm:mg "first"=some (.ref cX))
  {pF:Addr}{o_:FuncData} (GZ:Fun K "place_of" "place_of" jZ pF o_) (GQ:FnOk P w K mg base CX0 32 pF o_ ["sort","top"] (Q7 K ao aD aG aL)) (Gz:Binds K o_ ["sort","top"] []) (Ga:mg "place_of"=some (.ref pF))
  {jF:Addr}{jD:FuncData} (yr:Fun K "sort_of" "sort_of" mU jF jD) (yj:FnOk P w K mg base CX0 32 jF jD ["word"] (Ke K)) (yd:Binds K jD ["word"] []) (xU:mg "sort_of"=some (.ref jF))
  (F:Fun K "step_of" "step_of" oK f fd):FnOk P w K mg base CX0 33 f fd ["stand"] (acQ K):=by
 refine okQ F Pu (fun vs H Q E h=>?_) (fun cdv A outer s H vs Q E hr h=>?_)
 ·obtain⟨x,tx,sk,rfl,_⟩:=h
  rfl
 obtain⟨x,tx,sk,rfl,hx,bx,bs,q⟩:=h
 have hE:=hr.un
 have hE:(A.deeper (envOfC "step_of" (defScope oK) s.heap.objs.size f cdv)).units+401<cLine:=by lia
 refine⟨_,(aq (bA (i:=1) Pu.nd rfl (Or.inl rfl) (aJ jt hr rfl jm ju.kp jo .nil pass0 (aj (bK bF (qv 0) au (fun _ _=>rfl)) ak)))
   (aq (bC (aQ (uE hE) (qv 1) (aP ak) (nomark _)) (aA (aO (aW (v:=.int 12) rfl pK mV))) aX)
   (aA (aO (aJ GQ hr rfl Ga GZ.kp Gz .nil pass0 (aj (aJ yj hr rfl xU yr.kp yd .nil pass0 (aj (bK bF (qv 1) au (fun _ _=>rfl)) ak)) (aj (aJ jt hr rfl jm ju.kp jo .nil pass0 (aj (bK bF (qv 0) au (fun _ _=>rfl)) ak)) ak))))))),?_⟩
 have dx:=bx.deep
 have ds:=bs.1
 refine⟨_,rfl,cQ hx 0 rfl (fun v1 t1=>⟨v1,.node tx,rfl,t1,by lia,fun y1 H1 S1 t2=>?_⟩)⟩
 have t2:TR K H1 (ats tx 0) y1:=t2
 have b0:=bx.ats
 refine⟨_,rfl,Nat.zero_le _,fun p1 g1=>⟨ats tx 0,leaf,t2.mono (.new g1),fO upd_same,by have:=b0.1; lia,_,rfl,ite2 (fun hb=>?_) (fun hb=>?_)⟩⟩
 ·have e:=(T.beq_iff _ _).mp hb
  rw [Lx (by rw [e]; rfl)] at q
  exact q _ (S1.trans (same_new g1 _))
 cases hk:(ats tx 0).kids with
 | nil=>exact absurd ((T.beq_iff _ _).mpr (by rw [← h_ (ats tx 0),hk]; rfl)) hb
 | cons w' ws =>
 have S2:=S1.trans (same_new g1 (.tup []))
 have t3:=jr (t2.mono (.new g1 (o:=.tup [])))
 have bw:B 390 8000000 w':=Kw (pP b0) (by rw [hk]; exact List.mem_cons_self)
 refine⟨_,rfl,cQ t3 0 (by rw [hk]; rfl) (fun vw tw=>⟨vw,w',rfl,tw,by have:=bw.1; lia,fun H3 S3=>?_⟩)⟩
 have hx3:=hx.mono (.of (S2.trans S3))
 refine⟨_,rfl,cQ hx3 1 rfl (fun v4 t4=>⟨v4,.node sk,rfl,t4,by lia,fun y5 H5 S5 t5=>?_⟩)⟩
 have t5:TR K H5 (ats sk 0) y5:=t5
 have bt:=gF bs 0
 refine⟨_,y5,ats sk 0,fun _=>none,H5,rfl,Gh.nil H5,.inl t5,by have:=bt.1; lia,fun H6 S6=>?_⟩
 obtain⟨p,rest,rfl⟩:∃ p rest,tx=p::rest:=by
  cases tx with
  | nil=>cases hk
  | cons p rest=>exact⟨p,rest,rfl⟩
 rw [← Pj (rest:=rest) (s:=sk) (show p.kids=w'::ws from hk)]
 exact q _ (S2.trans (S3.trans (S5.trans S6)))
theorem agt (O:Own K ao aD aG aL aM aK)
  {lQ:Addr}{lH:FuncData} (Br:Fun K "walked" "walked" oW lQ lH) (Bp:FnOk P w K mg base CX0 39 lQ lH ["stand","budget"] (Fd K ao aD aG aL aM aK)) (Bc:Binds K lH ["stand","budget"] []) (Ab:mg "walked"=some (.ref lQ))
  {eN:Addr}{jE:FuncData} (iV:Meth K aK "tally" eN) (rG:FnOk P w K mg base CX0 39 eN jE ["self"] (Kd K ao aD aG aL aM aK)) (iU:Binds K jE ["self"] [])
  {oJ:Addr}{Jt:FuncData} (Bo:Meth K aK "stand" oJ) (Y6:FnOk P w K mg base CX0 39 oJ Jt ["self"] (aah K ao aD aG aL aM aK)) (Bf:Binds K Jt ["self"] [])
  (F:Fun K "gone" "gone" zQ f fd):FnOk P w K mg base CX0 40 f fd ["stand","budget"] (acT K):=by
 refine okQ F aaq (fun vs H Q E h=>?_) (fun cdv A outer s H vs Q E hr h=>?_)
 ·obtain⟨x,tx,sk,b,rfl,_⟩:=h
  rfl
 obtain⟨x,tx,sk,b,rfl,hx,hsn,q⟩:=h
 refine⟨_,(aq (bA (i:=2) aaq.nd rfl (Or.inl rfl) (aJ Bp hr rfl Ab Br.kp Bc .nil pass0 (aj (qv 0) (aj (qv 1) ak))))
   (aA (aO (aP (aj (lD (qv 2) O.dG Bo Y6 hr Bf .nil pass0) (aj (lD (qv 2) O.dG iV rG hr iU .nil pass0) ak)))))),?_⟩
 refine jY (fun v=>[some x,some (.int (b:Int)),some v]) (fun _=>rfl) (fun v H'=>∃ o M b',v=.ref o∧Wk K ao aD aG aL aM aK M H H' o (goT b tx sk).1 (goT b tx sk).2.1 (goT b tx sk).2.2 b') (fun R r=>⟨_,rfl,_,rfl,x,tx,sk,b,rfl,hx,hsn,fun o M' H' b' wf=>r _ _ ⟨o,M',b',rfl,wf⟩⟩) (fun v1 H1 h1=>?_)
 obtain⟨o,M1,b1,rfl,w1⟩:=h1
 obtain⟨dx,G,S,N,gs,rows,wx⟩:=id w1
 obtain⟨bl,sl⟩:=Sane.last b tx sk hsn
 refine⟨_,rfl,o,dx,_,rfl,wx.ob,Ae (by decide +kernel) (by decide +kernel) (by decide +kernel) (by decide +kernel),o,M1,H,_,_,_,_,rfl,w1,bl,sl,fun y H2 S2 ty=>?_⟩
 have w2:=wx.grow S2
 refine⟨_,rfl,o,dx,_,rfl,w2.ob,Ae (by decide +kernel) (by decide +kernel) (by decide +kernel) (by decide +kernel),o,M1,H,_,_,_,_,rfl,⟨dx,G,S,N,gs,rows,w2⟩,fun c H3 S3 hc=>⟨(by show 2≤sizeLine; decide),fun p g=>?_⟩⟩
 have S4:=same_new g (.tup [y,.ref c])
 exact q p y c _ (wx.gh.same.trans (S2.trans (S3.trans S4))) (SqT.of upd_same) (ty.mono (.of (S3.trans S4))) (gW (.of S4) hc)
theorem ahV (O:Own K ao aD aG aL aM aK)
  {lQ:Addr}{lH:FuncData} (Br:Fun K "walked" "walked" oW lQ lH) (Bp:FnOk P w K mg base CX0 39 lQ lH ["stand","budget"] (Fd K ao aD aG aL aM aK)) (Bc:Binds K lH ["stand","budget"] []) (Ab:mg "walked"=some (.ref lQ))
  {wK:Addr}{wD:FuncData} (Uc:Fun K "begin" "begin" uy wK wD) (T9:FnOk P w K mg base CX0 39 wK wD ["text","tree"] (Q8 K)) (Tv:Binds K wD ["text","tree"] []) (RW:mg "begin"=some (.ref wK))
  {YJ:Addr}{Yj:FuncData} (ajA:Fun K "cost" "cost" zR YJ Yj) (ajv:FnOk P w K mg base CX0 39 YJ Yj ["tally"] (acV K)) (ajq:Binds K Yj ["tally"] []) (ah6:mg "cost"=some (.ref YJ))
  {rB:Addr}{qX:FuncData} (J3:Fun K "as_tree" "as_tree" oN rB qX) (JZ:FnOk P w K mg base CX0 39 rB qX ["row"] (LC K ao aD aG aL)) (JB:Binds K qX ["row"] []) (IV:mg "as_tree"=some (.ref rB))
  {eN:Addr}{jE:FuncData} (iV:Meth K aK "tally" eN) (rG:FnOk P w K mg base CX0 39 eN jE ["self"] (Kd K ao aD aG aL aM aK)) (iU:Binds K jE ["self"] [])
  {gU:Addr}{pO:FuncData} (mH:Meth K aK "at_end" gU) (yP:FnOk P w K mg base CX0 39 gU pO ["self"] (Q9 K ao aD aG aL aM aK)) (mF:Binds K pO ["self"] [])
  {j7:Addr}{vB:FuncData} (pG:Meth K aK "top" j7) (zj:FnOk P w K mg base CX0 39 j7 vB ["self"] (abb K ao aD aG aL aM aK)) (pC:Binds K vB ["self"] [])
  (F:Fun K "run" "run" Fl f fd):FnOk P w K mg base CX0 40 f fd ["text","tree","budget"] (afx K):=by
 refine okQ F Wn (fun vs H Q E h=>?_) (fun cdv A outer s H vs Q E hr h=>?_)
 ·obtain⟨x,y,t,u,b,rfl,_⟩:=h
  rfl
 obtain⟨x,y,t,u,b,rfl,hx,hy,hsn,q⟩:=h
 refine⟨_,(aq (bA (i:=3) Wn.nd rfl (Or.inl rfl) (aJ Bp hr rfl Ab Br.kp Bc .nil pass0 (aj (aJ T9 hr rfl RW Uc.kp Tv .nil pass0 (aj (qv 0) (aj (qv 1) ak))) (aj (qv 2) ak))))
   (aq (bA (i:=4) Wn.nd rfl (Or.inl rfl) (aJ ajv hr rfl ah6 ajA.kp ajq .nil pass0 (aj (lD (qv 3) O.dG iV rG hr iU .nil pass0) ak)))
   (aq (bC (oA (lD (qv 3) O.dG mH yP hr mF .nil pass0)) (aA (aO (aP (aj jW (aj (aJ JZ hr rfl IV J3.kp JB .nil pass0 (aj (lD (qv 3) O.dG pG zj hr pC .nil pass0) ak)) (aj (qv 4) ak)))))) aX)
   (aA (aO (aP (aj jW (aj (aP ak) (aj (qv 4) ak))))))))),?_⟩
 refine jY (fun v=>[some x,some y,some (.int (b:Int)),some v,none]) (fun _=>rfl) (fun v H'=>∃ o M b' H0,v=.ref o∧Same H H0∧Wk K ao aD aG aL aM aK M H0 H' o (goT b [t] [u]).1 (goT b [t] [u]).2.1 (goT b [t] [u]).2.2 b') (fun R r=>⟨_,rfl,_,rfl,x,t,y,u,rfl,hx,hy,fun z H1 S1 tz=>⟨_,rfl,z,[t],[u],b,rfl,tz,hsn,fun o M' H' b' wf=>r _ _ ⟨o,M',b',H1,rfl,S1,wf⟩⟩⟩) (fun v1 H1 h1=>?_)
 obtain⟨o,M1,b1,H0,rfl,S0,w1⟩:=h1
 obtain⟨dx,G,S,N,gs,rows,wx⟩:=id w1
 obtain⟨bl,sl⟩:=Sane.last b [t] [u] hsn
 have aoW:=vp b [t] [u]
 refine jY (fun v=>[some x,some y,some (.int (b:Int)),some (.ref o),some v]) (fun _=>rfl) (fun v H'=>Same H1 H'∧v=nv (spT b [t] [u])) (fun R r=>⟨_,rfl,o,dx,_,rfl,wx.ob,Ae (by decide +kernel) (by decide +kernel) (by decide +kernel) (by decide +kernel),o,M1,H0,_,_,_,_,rfl,w1,fun c H2 S2 hc=>⟨c,_,rfl,hc,aoW,fun H3 S3=>r _ _ ⟨S2.trans S3,by rw [agN]⟩⟩⟩) (fun v2 H2 h2=>?_)
 obtain⟨S2,rfl⟩:=h2
 have w2:=wx.grow S2
 have e1:decide ((goT b [t] [u]).1=[])=true∨decide ((goT b [t] [u]).1=[])=false:=by cases decide ((goT b [t] [u]).1=[]) <;> simp
 refine⟨_,rfl,o,dx,_,rfl,w2.ob,Ae (by decide +kernel) (by decide +kernel) (by decide +kernel) (by decide +kernel),o,M1,H0,_,_,_,_,rfl,⟨dx,G,S,N,gs,rows,w2⟩,_,rfl,ite2 (fun he=>?_) (fun he=>?_)⟩
 ·have he:=of_decide_eq_true he
  have hp:(ats (goT b [t] [u]).2.1 0).parts≤8000000:=(gF sl 0).2
  refine⟨_,rfl,o,dx,_,rfl,w2.ob,Ae (by decide +kernel) (by decide +kernel) (by decide +kernel) (by decide +kernel),o,M1,H0,_,_,_,_,rfl,⟨dx,G,S,N,gs,rows,w2⟩,fun x3 H3 S3 hx3=>⟨x3,_,M1,H0,rfl,w2.gh.grow S3,hx3,hp,fun y4 H4 S4 t4=>⟨_,rfl,(by show 3≤sizeLine; decide),fun p5 g5=>?_⟩⟩⟩
  have S5:=same_new g5 (.tup [.str (PySem.Str.ofString "told"),y4,nv (spT b [t] [u])])
  refine q p5 y4 _ (S0.trans (wx.gh.same.trans (S2.trans (S3.trans (S4.trans S5))))) (SqT.of (upd_same.trans ?_)) ?_
  ·unfold Vn
   rw [if_pos he]
   rfl
  ·unfold Vp
   rw [if_pos he]
   exact t4.mono (.of S5)
 ·have he:¬ (goT b [t] [u]).1=[]:=fun z=>he (decide_eq_true z)
  refine⟨Nat.zero_le _,fun p4 g4=>⟨_,rfl,(by show 3≤sizeLine; decide),fun p5 g5=>?_⟩⟩
  obtain⟨S4,t4⟩:=bH (K:=K) (ts:=[]) g4 (bM.mpr rfl)
  have S5:=same_new g5 (.tup [.str (PySem.Str.ofString "out"),.ref p4,nv (spT b [t] [u])])
  refine q p5 (.ref p4) _ (S0.trans (wx.gh.same.trans (S2.trans (S4.trans S5)))) (SqT.of (upd_same.trans ?_)) ?_
  ·unfold Vn
   rw [if_neg he]
   rfl
  ·unfold Vp
   rw [if_neg he]
   exact t4.mono (.of S5)
theorem Zo (O:Own K ao aD aG aL aM aK)
  {lQ:Addr}{lH:FuncData} (Br:Fun K "walked" "walked" oW lQ lH) (Bp:FnOk P w K mg base CX0 39 lQ lH ["stand","budget"] (Fd K ao aD aG aL aM aK)) (Bc:Binds K lH ["stand","budget"] []) (Ab:mg "walked"=some (.ref lQ))
  {wK:Addr}{wD:FuncData} (Uc:Fun K "begin" "begin" uy wK wD) (T9:FnOk P w K mg base CX0 39 wK wD ["text","tree"] (Q8 K)) (Tv:Binds K wD ["text","tree"] []) (RW:mg "begin"=some (.ref wK))
  {eN:Addr}{jE:FuncData} (iV:Meth K aK "tally" eN) (rG:FnOk P w K mg base CX0 39 eN jE ["self"] (Kd K ao aD aG aL aM aK)) (iU:Binds K jE ["self"] [])
  (F:Fun K "tally_of" "tally_of" oX f fd):FnOk P w K mg base CX0 40 f fd ["text","tree","budget"] (Ue K):=by
 refine okQ F Zf (fun vs H Q E h=>?_) (fun cdv A outer s H vs Q E hr h=>?_)
 ·obtain⟨x,y,t,u,b,rfl,_⟩:=h
  rfl
 obtain⟨x,y,t,u,b,rfl,hx,hy,hsn,q⟩:=h
 refine⟨_,(aA (aO (lD (aJ Bp hr rfl Ab Br.kp Bc .nil pass0 (aj (aJ T9 hr rfl RW Uc.kp Tv .nil pass0 (aj (qv 0) (aj (qv 1) ak))) (aj (qv 2) ak))) O.dG iV rG hr iU .nil pass0))),?_⟩
 refine⟨_,rfl,_,rfl,x,t,y,u,rfl,hx,hy,fun z H1 S1 tz=>⟨_,rfl,z,[t],[u],b,rfl,tz,hsn,fun o M' H' b' wf=>?_⟩⟩
 obtain⟨dx,G,S,N,gs,rows,wx⟩:=id wf
 exact⟨o,dx,_,rfl,wx.ob,Ae (by decide +kernel) (by decide +kernel) (by decide +kernel) (by decide +kernel),o,M',H1,_,_,_,_,rfl,wf,fun c H2 S2 hc=>q c _ (S1.trans (wx.gh.same.trans S2)) hc⟩
end
section
variable {P:Program}{w:World}{K:PySem.W.Frag}{mg:Str→Option Value}{base:Heap}{f:Addr}{fd:FuncData}
theorem aeK
  (F:Fun K "first" "first" jJ f fd):FnOk P w K mg base CX0 31 f fd ["tree"] (ur K):=by
 refine okQ F aem (fun vs H Q E h=>?_) (fun cdv A outer s H vs Q E hr h=>?_)
 ·obtain⟨x,t,rfl,_⟩:=h
  rfl
 obtain⟨x,t,rfl,ht,hd,q⟩:=h
 have hE:=hr.un
 have hE:(A.deeper (envOfC "first" (defScope jJ) s.heap.objs.size f cdv)).units+401<cLine:=by lia
 refine⟨_,(aq (bC (aQ (uE hE) (qv 0) (aP ak) (nomark _)) (aA (aO (aP ak))) aX)
   (aA (aO (bK bF (qv 0) au (fun _ _=>rfl))))),?_⟩
 refine⟨_,rfl,Nat.zero_le _,fun p1 g1=>⟨t,leaf,ht.mono (.new g1),fO upd_same,by lia,_,rfl,ite2 (fun hb=>?_) (fun hb=>?_)⟩⟩
 ·have e:=(T.beq_iff _ _).mp hb
  rw [e] at q
  exact⟨Nat.zero_le _,fun p2 g2=>q _ _ ((same_new g1 _).trans (same_new g2 _)) (fO upd_same)⟩
 ·cases t with
  | node ts =>
   cases ts with
   | nil=>exact absurd ((T.beq_iff _ _).mpr rfl) hb
   | cons u us=>exact⟨_,rfl,cQ (ht.mono (.new g1)) 0 rfl (fun z tz=>q _ _ (same_new g1 _) tz)⟩
theorem agr
  (F:Fun K "rest" "rest" sG f fd):FnOk P w K mg base CX0 31 f fd ["tree"] (xG K):=by
 refine okQ F afX (fun vs H Q E h=>?_) (fun cdv A outer s H vs Q E hr h=>?_)
 ·obtain⟨x,t,rfl,_⟩:=h
  rfl
 obtain⟨x,t,rfl,ht,q⟩:=h
 refine⟨_,(aA (aO (bY cT (qv 0) (cM au) cN))),?_⟩
 cases t with
 | node ts=>exact⟨_,rfl,1,rfl,gH ht 1 (fun z H' S tz=>q z H' S tz)⟩
theorem abt (Kq:mg "min"=none) (dF:mg "len"=none) {mL:Value} (rM:mg "NAMELESS"=some mL) (mW:RelV (.int 9) mL)
  {cX:Addr}{cW:FuncData} (ju:Fun K "first" "first" jJ cX cW) (jt:FnOk P w K mg base CX0 31 cX cW ["tree"] (ur K)) (jo:Binds K cW ["tree"] []) (jm:mg "first"=some (.ref cX))
  (F:Fun K "sort_of" "sort_of" mU f fd):FnOk P w K mg base CX0 32 f fd ["word"] (Ke K):=by
 refine okQ F abf (fun vs H Q E h=>?_) (fun cdv A outer s H vs Q E hr h=>?_)
 ·obtain⟨x,t,rfl,_⟩:=h
  rfl
 obtain⟨x,t,rfl,ht,h1,q⟩:=h
 refine⟨_,(aA (aO (cY (Us rfl) rfl Kq adM (aj (cY call_len_seq rfl dF oH (aj (aJ jt hr rfl jm ju.kp jo .nil pass0 (aj (qv 0) ak)) ak)) (aj (aW (v:=.int 9) rfl rM mW) ak))))),?_⟩
 refine⟨_,rfl,x,t,rfl,ht,h1,fun y H1 S1 t1=>?_⟩
 obtain⟨b,ys,rfl,hb',rb⟩:=bW.mp (jr t1)
 refine⟨b,ys,rfl,.inr hb',_,_,rfl,?_⟩
 rw [rb.length,show (if (9:Int)<((ats t.kids 0).kids.length:Int) then (9:Int) else ((ats t.kids 0).kids.length:Int))=((aB t:Nat):Int) by rw [Wd]; split <;> lia]
 exact q _ S1
theorem abx
  {lR:Addr}{lJ:FuncData} (yt:Fun K "rest" "rest" sG lR lJ) (yp:FnOk P w K mg base CX0 31 lR lJ ["tree"] (xG K)) (yg:Binds K lJ ["tree"] []) (xV:mg "rest"=some (.ref lR))
  (F:Fun K "load_of" "load_of" oM f fd):FnOk P w K mg base CX0 32 f fd ["word"] (xG K):=by
 refine okQ F abh (fun vs H Q E h=>?_) (fun cdv A outer s H vs Q E hr h=>?_)
 ·obtain⟨x,t,rfl,_⟩:=h
  rfl
 obtain⟨x,t,rfl,ht,q⟩:=h
 refine⟨_,(aA (aO (aJ yp hr rfl xV yt.kp yg .nil pass0 (aj (qv 0) ak)))),?_⟩
 exact⟨_,rfl,x,t,rfl,ht,fun y H' S ty=>q _ _ S ty⟩
theorem ahW
  (F:Fun K "lay" "lay" Fo f fd):FnOk P w K mg base CX0 31 f fd ["tree"] (afy K):=by
 refine okQ F aht (fun vs H Q E h=>?_) (fun cdv A outer s H vs Q E hr h=>?_)
 ·obtain⟨x,t,rfl,_⟩:=h
  rfl
 obtain⟨x,t,rfl,ht,h1,h2,q⟩:=h
 refine⟨_,(aA (aO (aV bf (aP (aj (aP ak) ak)) (qv 0)))),?_⟩
 have hl:=(show B 400 1000000 t from ⟨h1,h2⟩)
 rw [← h_ t] at hl
 have hl:=hl.len
 refine⟨Nat.zero_le _,fun p1 g1=>⟨(by show 1≤sizeLine; decide),fun p2 g2=>?_⟩⟩
 obtain⟨S1,t1⟩:=bH (K:=K) (ts:=[]) g1 (bM.mpr rfl)
 obtain⟨S2,t2⟩:=bH (K:=K) g2 (cV t1)
 exact⟨_,rfl,bV t2 (jr (ht.mono (.of (S1.trans S2)))) (small (by rw [List.length_singleton]; lia)) (fun z H' S tz=>q _ _ (S1.trans (S2.trans S)) tz)⟩
theorem aeH
  (F:Fun K "plain" "plain" vU f fd):FnOk P w K mg base CX0 31 f fd ["sort"] (aak K):=by
 refine okQ F aek (fun vs H Q E h=>?_) (fun cdv A outer s H vs Q E hr h=>?_)
 ·obtain⟨n,rfl,_⟩:=h
  rfl
 obtain⟨n,rfl,h1,h6,q⟩:=h
 refine⟨_,(aA (aO (aP (aj (aV o7 (aP (aj (aP ak) ak)) (qv 0)) ak)))),?_⟩
 refine⟨Nat.zero_le _,fun p1 g1=>⟨(by show 1≤sizeLine; decide),fun p2 g2=>?_⟩⟩
 obtain⟨S1,t1⟩:=bH (K:=K) (ts:=[]) g1 (bM.mpr rfl)
 obtain⟨S2,t2⟩:=bH (K:=K) g2 (cV t1)
 refine⟨_,rfl,Xg n t2 rfl (by lia) (by lia) (by lia) (fun z H' S tz=>⟨(by show 1≤sizeLine; decide),fun p3 g3=>?_⟩)⟩
 obtain⟨S3,t3⟩:=bH (K:=K) g3 (cV tz)
 exact q _ _ (S1.trans (S2.trans (S.trans S3))) t3
theorem agu {mO:Value} (pL:mg "FORK"=some mO) (mX:RelV (.int 7) mO)
  (F:Fun K "fork" "fork" sH f fd):FnOk P w K mg base CX0 31 f fd ["yes","no"] (Ia K):=by
 refine okQ F afZ (fun vs H Q E h=>?_) (fun cdv A outer s H vs Q E hr h=>?_)
 ·obtain⟨x,t,y,u,rfl,_⟩:=h
  rfl
 obtain⟨x,t,y,u,rfl,ht,hu,⟨h1,h2⟩,⟨h3,h4⟩,q⟩:=h
 refine⟨_,(aA (aO (aV bf (aP (aj (aV o7 (aP (aj (aP ak) ak)) (aW (v:=.int 7) rfl pL mX)) (aj (qv 0) ak))) (qv 1)))),?_⟩
 have hl:=(show B 400 1000000 u from ⟨h3,h4⟩)
 rw [← h_ u] at hl
 have hl:=hl.len
 refine⟨Nat.zero_le _,fun p1 g1=>⟨(by show 1≤sizeLine; decide),fun p2 g2=>?_⟩⟩
 obtain⟨S1,t1⟩:=bH (K:=K) (ts:=[]) g1 (bM.mpr rfl)
 obtain⟨S2,t2⟩:=bH (K:=K) g2 (cV t1)
 refine afE (k:=7) 7 t2 rfl rfl (by decide) (by decide) (fun z H' S tz=>⟨_,rfl,(by show 2≤sizeLine; decide),fun p3 g3=>?_⟩)
 obtain⟨S3,t3⟩:=bH (K:=K) g3 (k_ tz (ht.mono (.of (S1.trans (S2.trans S)))))
 exact⟨_,rfl,bV t3 (jr (hu.mono (.of (S1.trans (S2.trans (S.trans S3)))))) (cR (by show 2+_≤_; lia)) (fun z4 H4 S4 t4=>q _ _ (S1.trans (S2.trans (S.trans (S3.trans S4)))) t4)⟩
theorem ags {dR:Value} (eV:mg "WHILE"=some dR) (dU:RelV (.int 8) dR)
  (F:Fun K "loop" "loop" zP f fd):FnOk P w K mg base CX0 31 f fd ["body"] (acS K):=by
 refine okQ F afY (fun vs H Q E h=>?_) (fun cdv A outer s H vs Q E hr h=>?_)
 ·obtain⟨x,t,rfl,_⟩:=h
  rfl
 obtain⟨x,t,rfl,ht,h1,h2,q⟩:=h
 refine⟨_,(aA (aO (aV bf (aP (aj (aV o7 (aP (aj (aP ak) ak)) (aW (v:=.int 8) rfl eV dU)) ak)) (qv 0)))),?_⟩
 have hl:=(show B 400 1000000 t from ⟨h1,h2⟩)
 rw [← h_ t] at hl
 have hl:=hl.len
 refine⟨Nat.zero_le _,fun p1 g1=>⟨(by show 1≤sizeLine; decide),fun p2 g2=>?_⟩⟩
 obtain⟨S1,t1⟩:=bH (K:=K) (ts:=[]) g1 (bM.mpr rfl)
 obtain⟨S2,t2⟩:=bH (K:=K) g2 (cV t1)
 refine afE (k:=8) 8 t2 rfl rfl (by decide) (by decide) (fun z H' S tz=>⟨(by show 1≤sizeLine; decide),fun p3 g3=>?_⟩)
 obtain⟨S3,t3⟩:=bH (K:=K) g3 (cV tz)
 exact⟨_,rfl,bV t3 (jr (ht.mono (.of (S1.trans (S2.trans (S.trans S3)))))) (small (by show 1+_≤_; lia)) (fun z4 H4 S4 t4=>q _ _ (S1.trans (S2.trans (S.trans (S3.trans S4)))) t4)⟩
theorem aeL
  (F:Fun K "ended" "ended" ux f fd):FnOk P w K mg base CX0 31 f fd ["stand"] (Wb K):=by
 refine okQ F aen (fun vs H Q E h=>?_) (fun cdv A outer s H vs Q E hr h=>?_)
 ·obtain⟨x,tx,s1,rfl,_⟩:=h
  rfl
 obtain⟨x,tx,s1,rfl,hx,bx,bs,q⟩:=h
 have hE:=hr.un
 have hE:(A.deeper (envOfC "ended" (defScope ux) s.heap.objs.size f cdv)).units+401<cLine:=by lia
 refine⟨_,(aA (aO (Rm (uE hE) (bK bF (qv 0) au (fun _ _=>rfl)) (aP ak) (nomark _)))),?_⟩
 refine⟨_,rfl,cQ hx 0 rfl (fun v1 t1=>⟨Nat.zero_le _,fun p1 g1=>⟨.node tx,leaf,t1.mono (.new g1),fO upd_same,by have:=bx.deep; lia,?_⟩⟩)⟩
 rw [afc]
 exact q _ (same_new g1 _)
theorem aeI
  (F:Fun K "parts" "parts" vV f fd):FnOk P w K mg base CX0 31 f fd ["tree"] (zK K):=by
 refine okQ F zN (fun vs H Q E h=>?_) (fun cdv A outer s H vs Q E hr h=>?_)
 ·obtain⟨x,t,rfl,_⟩:=h
  rfl
 obtain⟨x,t,rfl,ht,hz,q⟩:=h
 refine⟨_,(aq (bA (i:=1) zN.nd rfl (Or.inl rfl) (pI (aj (qv 0) ak)))
   (aq (bA (i:=2) zN.nd rfl (Or.inl rfl) au)
   (aq (tQ PassesOwn.never (Fq (qv 1) (fun _=>rfl)) (aq (bA (i:=3) zN.nd rfl (Or.inl rfl) (qM PySem.F.plainAttrs_list PySem.F.slot_list_pop PySem.F.type_list_pop sS (qv 1)))
   (aq (ac7 (i:=2) zN.nd rfl (Or.inl rfl) au Jc)
   (aA (cZ (gQ PySem.F.plainAttrs_list PySem.F.slot_list_extend PySem.F.type_list_extend RL (qv 1) (aj (qv 3) ak)))))))
   (aA (aO (qv 2)))))),?_⟩
 refine⟨_,rfl,(by show 1≤sizeLine; decide),fun p hp=>?_⟩
 refine⟨aaT K H x t.parts p,⟨_,[x],[t],0,none,rfl,same_new hp _,upd_same,cH.mpr ⟨x,[],rfl,ht.mono (Kt.new hp),bM.mpr rfl⟩,by rw [T.aF,T.aY]; lia,rfl⟩,?_⟩
 rintro m σ H' ⟨ys,ts,c,o,rfl,S,hl,htr,hc,rfl⟩
 refine⟨_,rfl,!ys.isEmpty,.inl ⟨ys,SqL.of hl,rfl⟩,?_⟩
 refine ite2 (fun hb=>?_) (fun hb=>?_)
 ·have hne:ys≠[]:=by rintro rfl; exact absurd hb (by decide)
  obtain⟨y,hy⟩:=aaG hne
  obtain⟨u,hu,hyu⟩:=htr.get hy
  rw [htr.length] at hu
  obtain⟨a,zs,rfl,h1,h2⟩:=Ca hyu
  have hpl:=T.BK hu
  refine⟨fun σ' H'=>∃ m',m'<T.aH ts∧aaT K H x t.parts p m' σ' H',fun _ _ h=>h,?_⟩
  refine⟨_,rfl,.inl ⟨rfl,_,SqL.of hl⟩,p,ys,_,rfl,rfl,hl,hy,?_⟩
  refine⟨_,rfl,_,_,rfl,rfl,?_⟩
  have hk:=T.cI u
  have akb:=T.cL ts.dropLast
  have hlen2:=T.cL u.kids
  have e1:=htr.dropLast.length
  have e2:=h2.length
  refine⟨_,rfl,.inl ⟨rfl,_,SqL.of upd_same⟩,_,rfl,p,a,ys.dropLast,zs,rfl,rfl,upd_same,gW (Kt.lst hl) h1,cR (by lia),?_⟩
  refine⟨_,?_,ys.dropLast++zs,ts.dropLast++u.kids,c+1,_,rfl,?_,upd_same,?_,?_,rfl⟩
  ·rw [T.b_]
   lia
  ·rw [Ea]
   exact gB S hp
  ·rw [Ea]
   exact (htr.dropLast.append h2).mono (Kt.lst hl)
  ·rw [T.b_]
   lia
 ·have hys:ys=[]:=by
   cases ys with
   | nil=>rfl
   | cons _ _=>exact absurd rfl hb
  subst hys
  have hts:ts=[]:=List.length_eq_zero_iff.mp htr.length.symm
  subst hts
  rw [T.aY] at hc
  refine⟨_,rfl,?_⟩
  have:(c:Int)=(t.parts:Int):=by lia
  rw [this]
  exact q _ S
theorem agv (abI:mg "sum"=none) {qu:Value} (tV:mg "COPIED"=some qu) (oZ:RelV (.int 13) qu) {mJ:Value} (oF:mg "TWIN"=some mJ) (lC:RelV (.int 2) mJ)
  (F:Fun K "cost" "cost" zR f fd):FnOk P w K mg base CX0 31 f fd ["tally"] (acV K):=by
 refine okQ F af0 (fun vs H Q E h=>?_) (fun cdv A outer s H vs Q E hr h=>?_)
 ·obtain⟨a,ns,rfl,_⟩:=h
  rfl
 obtain⟨a,ns,rfl,ha,hn,q⟩:=h
 refine⟨_,(aA (aO (aV op_add (aV op_sub (cY (adJ rfl) rfl abI ajk (aj (bY cT (qv 0) cN (cM (aW (v:=.int 13) rfl tV oZ))) ak)) (bK bF (qv 0) (aW (v:=.int 2) rfl oF lC) (fun _ _=>rfl))) (bK bF (qv 0) (aW (v:=.int 13) rfl tV oZ) (fun _ _=>rfl))))),?_⟩
 refine⟨_,rfl,13,rfl,a,_,rfl,ha,fun p H1 S1 h1=>?_⟩
 rw [show (some (13:Int))=some ((13:Nat):Int) from rfl,Yk,agy] at h1
 have ha1:=gW (.of S1) ha
 refine⟨p,_,rfl,h1,_,rfl,a,_,_,_,rfl,rfl,ha1,afD (k:=2) (by lia),_,_,rfl,rfl,_,rfl,a,_,_,_,rfl,rfl,ha1,afD (k:=13) (by lia),_,_,rfl,rfl,q _ S1⟩
theorem adh (dF:mg "len"=none)
  (F:Fun K "filled" "filled" tO f fd):FnOk P w K mg base CX0 31 f fd ["stack","count"] (Wa K):=by
 refine okQ F acZ (fun vs H Q E h=>?_) (fun cdv A outer s H vs Q E hr h=>?_)
 ·obtain⟨x,s1,n,rfl,_⟩:=h
  rfl
 obtain⟨x,s1,n,rfl,hx,hl,hn,q⟩:=h
 refine⟨_,(aA (aO (aV bf (qv 0) (aV o7 (aP (aj (aP ak) ak)) (aV op_sub (qv 1) (cY call_len_seq rfl dF oH (aj (qv 0) ak))))))),?_⟩
 refine⟨_,rfl,Nat.zero_le _,fun p1 g1=>⟨(by show 1≤sizeLine; decide),fun p2 g2=>?_⟩⟩
 obtain⟨S1,t1⟩:=bH (K:=K) (ts:=[]) g1 (bM.mpr rfl)
 obtain⟨S2,t2⟩:=bH (K:=K) g2 (cV t1)
 have hx2:=hx.mono (.of (S1.trans S2))
 obtain⟨a,xs,rfl,ha,ra⟩:=bW.mp hx2
 have hrl:=ra.length
 refine⟨_,rfl,_,rfl,a,xs,rfl,.inr ha,_,_,rfl,rfl,Xg (n - s1.length) t2 rfl (by lia) (by lia) (by lia) (fun z H' S tz=>?_)⟩
 exact bV (hx2.mono (.of S)) tz (cR (by rw [List.length_replicate]; lia)) (fun z4 H4 S4 t4=>q _ _ (S1.trans (S2.trans (S.trans S4))) t4)
theorem ade {uM:Value} (yZ:mg "LAY"=some uM) (uQ:RelV (.int 0) uM) {xr:Value} (Ej:mg "DROP"=some xr) (xR:RelV (.int 1) xr) {mJ:Value} (oF:mg "TWIN"=some mJ) (lC:RelV (.int 2) mJ) {wY:Value} (Eh:mg "SWAP"=some wY) (xM:RelV (.int 3) wY) {uq:Value} (zE:mg "FRONT"=some uq) (uz:RelV (.int 4) uq) {wZ:Value} (Ei:mg "PART"=some wZ) (xO:RelV (.int 5) wZ) {wX:Value} (Ef:mg "TURN"=some wX) (xJ:RelV (.int 6) wX)
  {lR:Addr}{lJ:FuncData} (yt:Fun K "rest" "rest" sG lR lJ) (yp:FnOk P w K mg base CX0 32 lR lJ ["tree"] (xG K)) (yg:Binds K lJ ["tree"] []) (xV:mg "rest"=some (.ref lR))
  {cX:Addr}{cW:FuncData} (ju:Fun K "first" "first" jJ cX cW) (jt:FnOk P w K mg base CX0 32 cX cW ["tree"] (ur K)) (jo:Binds K cW ["tree"] []) (jm:mg "first"=some (.ref cX))
  (F:Fun K "worked" "worked" tM f fd):FnOk P w K mg base CX0 33 f fd ["step","load","stack"] (VR K):=by
 refine okQ F acX (fun vs H Q E h=>?_) (fun cdv A outer s H vs Q E hr h=>?_)
 ·obtain⟨k,y,z,l,sk,rfl,_⟩:=h
  rfl
 obtain⟨k,y,z,l,sk,rfl,hy,hz,hl,hb,q⟩:=h
 refine⟨_,(aq (bC (aQ op_eq (qv 0) (aW (v:=.int 0) rfl yZ uQ) (nomark _)) (aA (aO (aV bf (aP (aj (qv 1) ak)) (qv 2)))) aX)
   (aq (bC (aQ op_eq (qv 0) (aW (v:=.int 1) rfl Ej xR) (nomark _)) (aA (aO (bY cT (qv 2) (cM au) cN))) aX)
   (aq (bC (aQ op_eq (qv 0) (aW (v:=.int 2) rfl oF lC) (nomark _)) (aA (aO (aV bf (aP (aj (bK bF (qv 2) au (fun _ _=>rfl)) ak)) (qv 2)))) aX)
   (aq (bC (aQ op_eq (qv 0) (aW (v:=.int 3) rfl Eh xM) (nomark _)) (aA (aO (aV bf (aP (aj (bK bF (qv 2) au (fun _ _=>rfl)) (aj (bK bF (qv 2) au (fun _ _=>rfl)) ak))) (bY cT (qv 2) (cM au) cN)))) aX)
   (aq (bC (aQ op_eq (qv 0) (aW (v:=.int 4) rfl zE uz) (nomark _)) (aA (aO (aV bf (aP (aj (aV bf (aP (aj (bK bF (qv 2) au (fun _ _=>rfl)) ak)) (bK bF (qv 2) au (fun _ _=>rfl))) ak)) (bY cT (qv 2) (cM au) cN)))) aX)
   (aq (bC (aQ op_eq (qv 0) (aW (v:=.int 5) rfl Ei xO) (nomark _)) (aA (aO (aV bf (aP (aj (aJ jt hr rfl jm ju.kp jo .nil pass0 (aj (bK bF (qv 2) au (fun _ _=>rfl)) ak)) (aj (aJ yp hr rfl xV yt.kp yg .nil pass0 (aj (bK bF (qv 2) au (fun _ _=>rfl)) ak)) ak))) (bY cT (qv 2) (cM au) cN)))) aX)
   (aq (bC (aQ op_eq (qv 0) (aW (v:=.int 6) rfl Ef xJ) (nomark _)) (aA (aO (aV bf (aP (aj (bK bF (qv 2) au (fun _ _=>rfl)) (aj (bK bF (qv 2) au (fun _ _=>rfl)) (aj (bK bF (qv 2) au (fun _ _=>rfl)) ak)))) (bY cT (qv 2) (cM au) cN)))) aX)
   (aA (aO (qv 2)))))))))),?_⟩
 have hlen:=hb.len
 refine⟨_,rfl,rfl,_,rfl,ite2 (fun h=>?_) (fun n0=>?_)⟩
 ·obtain rfl:k=0:=by have:=V.int.inj (of_decide_eq_true h); lia
  refine⟨_,rfl,(by show 1≤sizeLine; decide),fun p1 g1=>?_⟩
  obtain⟨S1,t1⟩:=bH (K:=K) g1 (cV hy)
  exact⟨_,rfl,bV t1 (hz.mono (.of S1)) (cR (by show 1+_≤_; lia)) (fun v H2 S2 t2=>q _ _ (S1.trans S2) t2)⟩
 have n0:k≠0:=fun z=>n0 (by rw [z]; exact decide_eq_true rfl)
 refine⟨_,rfl,rfl,_,rfl,ite2 (fun h=>?_) (fun n1=>?_)⟩
 ·obtain rfl:k=1:=by have:=V.int.inj (of_decide_eq_true h); lia
  exact⟨_,rfl,1,rfl,gH hz 1 (fun v H2 S2 t2=>q _ _ S2 t2)⟩
 have n1:k≠1:=fun z=>n1 (by rw [z]; exact decide_eq_true rfl)
 refine⟨_,rfl,rfl,_,rfl,ite2 (fun h=>?_) (fun n2=>?_)⟩
 ·obtain rfl:k=2:=by have:=V.int.inj (of_decide_eq_true h); lia
  have hl:1≤sk.length:=hl
  refine⟨_,rfl,cQ hz 0 (dO (by lia)) (fun v0 t0=>⟨(by show 1≤sizeLine; decide),fun p1 g1=>?_⟩)⟩
  obtain⟨S1,t1⟩:=bH (K:=K) g1 (cV t0)
  exact⟨_,rfl,bV t1 (hz.mono (.of S1)) (cR (by show 1+_≤_; lia)) (fun v H2 S2 t2=>q _ _ (S1.trans S2) t2)⟩
 have n2:k≠2:=fun z=>n2 (by rw [z]; exact decide_eq_true rfl)
 refine⟨_,rfl,rfl,_,rfl,ite2 (fun h=>?_) (fun n3=>?_)⟩
 ·obtain rfl:k=3:=by have:=V.int.inj (of_decide_eq_true h); lia
  have hl:2≤sk.length:=hl
  refine⟨_,rfl,cQ hz 1 (dO (by lia)) (fun v1 t1=>⟨_,rfl,cQ hz 0 (dO (by lia)) (fun v0 t0=>⟨(by show 2≤sizeLine; decide),fun p1 g1=>?_⟩)⟩)⟩
  obtain⟨S1,t2⟩:=bH (K:=K) g1 (k_ t1 t0)
  exact⟨_,rfl,2,rfl,gH (hz.mono (.of S1)) 2 (fun v4 H4 S4 t4=>bV (t2.mono (.of S4)) t4 (cR (by rw [List.length_drop]; show 2+_≤_; lia)) (fun v H2 S2 t5=>q _ _ (S1.trans (S4.trans S2)) t5))⟩
 have n3:k≠3:=fun z=>n3 (by rw [z]; exact decide_eq_true rfl)
 refine⟨_,rfl,rfl,_,rfl,ite2 (fun h=>?_) (fun n4=>?_)⟩
 ·obtain rfl:k=4:=by have:=V.int.inj (of_decide_eq_true h); lia
  have hl:2≤sk.length:=hl
  have hk1:=(pP (gF hb 1)).len
  refine⟨_,rfl,cQ hz 0 (dO (by lia)) (fun v0 t0=>⟨(by show 1≤sizeLine; decide),fun p1 g1=>?_⟩)⟩
  obtain⟨S1,t1⟩:=bH (K:=K) g1 (cV t0)
  refine⟨_,rfl,cQ (hz.mono (.of S1)) 1 (dO (by lia)) (fun v1 t2=>bV t1 (jr t2) (cR (by show 1+_≤_; lia)) (fun v3 H3 S3 t3=>⟨(by show 1≤sizeLine; decide),fun p4 g4=>?_⟩))⟩
  obtain⟨S4,t4⟩:=bH (K:=K) g4 (cV t3)
  exact⟨_,rfl,2,rfl,gH (hz.mono (.of (S1.trans (S3.trans S4)))) 2 (fun v5 H5 S5 t5=>bV (t4.mono (.of S5)) t5 (cR (by rw [List.length_drop]; show 1+_≤_; lia)) (fun v H2 S2 t6=>q _ _ (S1.trans (S3.trans (S4.trans (S5.trans S2)))) t6))⟩
 have n4:k≠4:=fun z=>n4 (by rw [z]; exact decide_eq_true rfl)
 refine⟨_,rfl,rfl,_,rfl,ite2 (fun h=>?_) (fun n5=>?_)⟩
 ·obtain rfl:k=5:=by have:=V.int.inj (of_decide_eq_true h); lia
  have hl:1≤sk.length:=hl
  have bt:=gF hb 0
  refine⟨_,rfl,cQ hz 0 (dO (by lia)) (fun v0 t0=>⟨v0,ats sk 0,rfl,t0,by have:=bt.1; lia,fun y1 H1 S1 t1=>?_⟩)⟩
  refine⟨_,rfl,cQ (hz.mono (.of S1)) 0 (dO (by lia)) (fun v2 t2=>⟨v2,ats sk 0,rfl,t2,fun y3 H3 S3 t3=>⟨(by show 2≤sizeLine; decide),fun p4 g4=>?_⟩⟩)⟩
  obtain⟨S4,t4⟩:=bH (K:=K) g4 (k_ (t1.mono (.of S3)) t3)
  exact⟨_,rfl,1,rfl,gH (hz.mono (.of (S1.trans (S3.trans S4)))) 1 (fun v5 H5 S5 t5=>bV (t4.mono (.of S5)) t5 (cR (by rw [List.length_drop]; show 2+_≤_; lia)) (fun v H2 S2 t6=>q _ _ (S1.trans (S3.trans (S4.trans (S5.trans S2)))) t6))⟩
 have n5:k≠5:=fun z=>n5 (by rw [z]; exact decide_eq_true rfl)
 refine⟨_,rfl,rfl,_,rfl,ite2 (fun h=>?_) (fun n6=>?_)⟩
 ·obtain rfl:k=6:=by have:=V.int.inj (of_decide_eq_true h); lia
  have hl:3≤sk.length:=hl
  refine⟨_,rfl,cQ hz 2 (dO (by lia)) (fun v2 t2=>⟨_,rfl,cQ hz 0 (dO (by lia)) (fun v0 t0=>⟨_,rfl,cQ hz 1 (dO (by lia)) (fun v1 t1=>⟨(by show 3≤sizeLine; decide),fun p1 g1=>?_⟩)⟩)⟩)⟩
  obtain⟨S1,t3⟩:=bH (K:=K) g1 (ahb t2 t0 t1)
  exact⟨_,rfl,3,rfl,gH (hz.mono (.of S1)) 3 (fun v4 H4 S4 t4=>bV (t3.mono (.of S4)) t4 (cR (by rw [List.length_drop]; show 3+_≤_; lia)) (fun v H2 S2 t5=>q _ _ (S1.trans (S4.trans S2)) t5))⟩
 have n6:k≠6:=fun z=>n6 (by rw [z]; exact decide_eq_true rfl)
 rw [zm (show 7≤k by lia)] at q
 exact⟨_,rfl,q _ _ (Same.refl _) hz⟩
theorem abw {kZ:Addr} (zB:mg "LOOKS"=some (.ref kZ)) (zu:∀ H,SqT K H kZ [.int 0,.int 1,.int 1,.int 2,.int 2,.int 1,.int 3,.int 1,.int 1,.int 1,.int 1,.int 0,.int 0]) {mK:Value} (pK:mg "SHUT"=some mK) (mV:RelV (.int 12) mK) {iH:Value} (j4:mg "FORK_YES"=some iH) (iM:RelV (.int 7) iH) {jx:Value} (mY:mg "FORK_NO"=some jx) (jB:RelV (.int 8) jx) {fU:Value} (iR:mg "WHILE_INTO"=some fU) (fX:RelV (.int 9) fU)
  {JH:Addr}{Jm:FuncData} (ad5:Fun K "step_of" "step_of" oK JH Jm) (adY:FnOk P w K mg base CX0 33 JH Jm ["stand"] (acQ K)) (adO:Binds K Jm ["stand"] []) (adv:mg "step_of"=some (.ref JH))
  {OD:Addr}{Oi:FuncData} (afo:Fun K "filled" "filled" tO OD Oi) (afm:FnOk P w K mg base CX0 33 OD Oi ["stack","count"] (Wa K)) (afe:Binds K Oi ["stack","count"] []) (aeR:mg "filled"=some (.ref OD))
  {rA:Addr}{qW:FuncData} (J2:Fun K "load_of" "load_of" oM rA qW) (JX:FnOk P w K mg base CX0 33 rA qW ["word"] (xG K)) (Jz:Binds K qW ["word"] []) (IK:mg "load_of"=some (.ref rA))
  {lR:Addr}{lJ:FuncData} (yt:Fun K "rest" "rest" sG lR lJ) (yp:FnOk P w K mg base CX0 33 lR lJ ["tree"] (xG K)) (yg:Binds K lJ ["tree"] []) (xV:mg "rest"=some (.ref lR))
  {cX:Addr}{cW:FuncData} (ju:Fun K "first" "first" jJ cX cW) (jt:FnOk P w K mg base CX0 33 cX cW ["tree"] (ur K)) (jo:Binds K cW ["tree"] []) (jm:mg "first"=some (.ref cX))
  {Oz:Addr}{Oh:FuncData} (afn:Fun K "worked" "worked" tM Oz Oh) (afl:FnOk P w K mg base CX0 33 Oz Oh ["step","load","stack"] (VR K)) (afd:Binds K Oh ["step","load","stack"] []) (aeQ:mg "worked"=some (.ref Oz))
  (F:Fun K "next_of" "next_of" qD f fd):FnOk P w K mg base CX0 34 f fd ["stand"] (xH K):=by
 refine okQ F oV (fun vs H Q E h=>?_) (fun cdv A outer s H vs Q E hr h=>?_)
 ·obtain⟨x,tx,sk,rfl,_⟩:=h
  rfl
 obtain⟨x,tx,sk,rfl,hx,hne,bx,bs,q⟩:=h
 refine⟨_,(aq (bA (i:=1) oV.nd rfl (Or.inl rfl) (bK bF (qv 0) au (fun _ _=>rfl)))
   (aq (bA (i:=2) oV.nd rfl (Or.inl rfl) (aJ adY hr rfl adv ad5.kp adO .nil pass0 (aj (qv 0) ak)))
   (aq (bA (i:=3) oV.nd rfl (Or.inl rfl) (aJ afm hr rfl aeR afo.kp afe .nil pass0 (aj (bK bF (qv 0) au (fun _ _=>rfl)) (aj (bK bF (aW (v:=.ref kZ) rfl zB rfl) (qv 2) (fun _ _=>rfl)) ak))))
   (aq (bC (aQ op_eq (qv 2) (aW (v:=.int 12) rfl pK mV) (nomark _)) (aA (aO (aP (aj (bY cT (qv 1) (cM au) cN) (aj (qv 3) ak))))) aX)
   (aq (bA (i:=4) oV.nd rfl (Or.inl rfl) (bK bF (qv 1) au (fun _ _=>rfl)))
   (aq (bA (i:=5) oV.nd rfl (Or.inl rfl) (aJ JX hr rfl IK J2.kp Jz .nil pass0 (aj (bK bF (qv 4) au (fun _ _=>rfl)) ak)))
   (aq (bA (i:=6) oV.nd rfl (Or.inl rfl) (aV bf (aP (aj (aJ yp hr rfl xV yt.kp yg .nil pass0 (aj (qv 4) ak)) ak)) (bY cT (qv 1) (cM au) cN)))
   (aq (bC (aQ op_eq (qv 2) (aW (v:=.int 7) rfl j4 iM) (nomark _)) (aA (aO (aP (aj (aV bf (aP (aj (aJ jt hr rfl jm ju.kp jo .nil pass0 (aj (qv 5) ak)) ak)) (qv 6)) (aj (qv 3) ak))))) aX)
   (aq (bC (aQ op_eq (qv 2) (aW (v:=.int 8) rfl mY jB) (nomark _)) (aA (aO (aP (aj (aV bf (aP (aj (aJ yp hr rfl xV yt.kp yg .nil pass0 (aj (qv 5) ak)) ak)) (qv 6)) (aj (qv 3) ak))))) aX)
   (aq (bC (aQ op_eq (qv 2) (aW (v:=.int 9) rfl iR fX) (nomark _)) (aA (aO (aP (aj (aV bf (aP (aj (qv 5) ak)) (qv 1)) (aj (qv 3) ak))))) aX)
   (aA (aO (aP (aj (qv 6) (aj (aJ afl hr rfl aeQ afn.kp afd .nil pass0 (aj (qv 2) (aj (qv 5) (aj (qv 3) ak)))) ak))))))))))))))),?_⟩
 have hxl:=bx.1
 have hsl:=bs.len
 have b0:=bx.ats
 have hpos:0<tx.length:=List.length_pos_iff.mpr hne
 refine⟨_,rfl,cQ hx 0 rfl (fun v1 t1=>?_)⟩
 refine⟨_,rfl,x,tx,sk,rfl,hx,bx,bs,fun H1 S1=>?_⟩
 have arf:=zq (tx:=tx) (s:=sk)
 refine⟨_,rfl,cQ (hx.mono (.of S1)) 1 rfl (fun v2 t2=>⟨_,rfl,kZ,_,_,_,rfl,rfl,(show SqT K H1 kZ (([0,1,1,2,2,1,3,1,1,1,1,0,0]:List Nat).map fun n:Nat=>V.int (n:Int)) from zu _),aaD (k:=stepT tx sk) (by show _<13; lia),v2,sk,looks (stepT tx sk),rfl,t2,by lia,Nt _,fun v3 H2 S2 t3=>?_⟩)⟩
 have S12:=S1.trans S2
 have t1':=t1.mono (.of S12)
 refine⟨_,rfl,rfl,_,rfl,ite2 (fun h12=>?_) (fun h12=>?_)⟩
 ·have e12:stepT tx sk=12:=by have:=V.int.inj (of_decide_eq_true h12); lia
  rw [e12] at t3
  rw [akA e12] at q
  refine⟨_,rfl,1,rfl,gH t1' 1 (fun z H3 S3 t4=>⟨_,rfl,(by show 2≤sizeLine; decide),fun p5 g5=>?_⟩)⟩
  obtain⟨S5,t5⟩:=bH (K:=K) g5 (k_ t4 (t3.mono (.of S3)))
  exact q _ _ (S12.trans (S3.trans S5)) (by rw [show looks 12=0 from rfl,dj (Nat.zero_le _)] at t5; exact t5)
 have n12:stepT tx sk≠12:=fun z=>h12 (by rw [z]; exact decide_eq_true rfl)
 obtain⟨w,ws,hk⟩:=afS n12
 have bw:B 390 8000000 w:=Kw (pP b0) (by rw [hk]; exact List.mem_cons_self)
 refine⟨_,rfl,cQ t1' 0 (dO hpos) (fun v4 t4=>?_)⟩
 refine⟨_,rfl,cQ (jr t4) 0 (by rw [hk]; rfl) (fun vw tw=>⟨vw,w,rfl,tw,fun v5 H5 S5 t5=>?_⟩)⟩
 refine⟨_,rfl,v4,ats tx 0,rfl,t4.mono (.of S5),fun v6 H6 S6 t6=>⟨(by show 1≤sizeLine; decide),fun p7 g7=>?_⟩⟩
 obtain⟨S7,t7⟩:=bH (K:=K) g7 (cV t6)
 rw [show aZ (ats tx 0)=.node ws by unfold aZ; rw [hk]; rfl] at t7
 refine⟨_,rfl,1,rfl,gH (t1'.mono (.of (S5.trans (S6.trans S7)))) 1 (fun v8 H8 S8 t8=>bV (t7.mono (.of S8)) t8 (cR (by rw [List.length_drop]; show 1+_≤_; lia)) (fun v9 H9 S9 t9=>?_))⟩
 have S59:=S5.trans (S6.trans (S7.trans (S8.trans S9)))
 have t5':=t5.mono (.of (S6.trans (S7.trans (S8.trans S9))))
 have t3':=t3.mono (.of S59)
 have S19:=S12.trans S59
 have bl:=Ky bw
 refine⟨_,rfl,rfl,_,rfl,ite2 (fun h7=>?_) (fun h7=>?_)⟩
 ·have e7:stepT tx sk=7:=by have:=V.int.inj (of_decide_eq_true h7); lia
  rw [e7] at t3'
  rw [st7 hk e7] at q
  refine⟨_,rfl,v5,aZ w,rfl,t5',by have:=bl.1; lia,fun v10 H10 S10 t10=>⟨(by show 1≤sizeLine; decide),fun p11 g11=>?_⟩⟩
  obtain⟨S11,t11⟩:=bH (K:=K) g11 (cV t10)
  refine⟨_,rfl,bV t11 (t9.mono (.of (S10.trans S11))) (cR (by rw [List.length_append,List.length_drop]; show 1+(1+_)≤_; lia)) (fun v12 H12 yM t12=>⟨_,rfl,(by show 2≤sizeLine; decide),fun p13 g13=>?_⟩)⟩
  obtain⟨S13,t13⟩:=bH (K:=K) g13 (k_ t12 (t3'.mono (.of (S10.trans (S11.trans yM)))))
  exact q _ _ (S19.trans (S10.trans (S11.trans (yM.trans S13)))) t13
 have n7:stepT tx sk≠7:=fun z=>h7 (by rw [z]; exact decide_eq_true rfl)
 refine⟨_,rfl,rfl,_,rfl,ite2 (fun h8=>?_) (fun h8=>?_)⟩
 ·have e8:stepT tx sk=8:=by have:=V.int.inj (of_decide_eq_true h8); lia
  rw [e8] at t3'
  rw [st8 hk e8] at q
  refine⟨_,rfl,v5,aZ w,rfl,t5',fun v10 H10 S10 t10=>⟨(by show 1≤sizeLine; decide),fun p11 g11=>?_⟩⟩
  rw [show aZ (aZ w)=.node (w.kids.drop 2) by show T.node ((w.kids.drop 1).drop 1)=_; rw [List.drop_drop]] at t10
  obtain⟨S11,t11⟩:=bH (K:=K) g11 (cV t10)
  refine⟨_,rfl,bV t11 (t9.mono (.of (S10.trans S11))) (cR (by rw [List.length_append,List.length_drop]; show 1+(1+_)≤_; lia)) (fun v12 H12 yM t12=>⟨_,rfl,(by show 2≤sizeLine; decide),fun p13 g13=>?_⟩)⟩
  obtain⟨S13,t13⟩:=bH (K:=K) g13 (k_ t12 (t3'.mono (.of (S10.trans (S11.trans yM)))))
  exact q _ _ (S19.trans (S10.trans (S11.trans (yM.trans S13)))) t13
 have n8:stepT tx sk≠8:=fun z=>h8 (by rw [z]; exact decide_eq_true rfl)
 refine⟨_,rfl,rfl,_,rfl,ite2 (fun h9=>?_) (fun h9=>?_)⟩
 ·have e9:stepT tx sk=9:=by have:=V.int.inj (of_decide_eq_true h9); lia
  rw [e9] at t3'
  rw [st9 hk e9] at q
  refine⟨_,rfl,(by show 1≤sizeLine; decide),fun p11 g11=>?_⟩
  obtain⟨S11,t11⟩:=bH (K:=K) g11 (cV t5')
  refine⟨_,rfl,bV t11 (t1'.mono (.of (S59.trans S11))) (cR (by show 1+_≤_; lia)) (fun v12 H12 yM t12=>⟨_,rfl,(by show 2≤sizeLine; decide),fun p13 g13=>?_⟩)⟩
  obtain⟨S13,t13⟩:=bH (K:=K) g13 (k_ t12 (t3'.mono (.of (S11.trans yM))))
  exact q _ _ (S19.trans (S11.trans (yM.trans S13))) t13
 have n9:stepT tx sk≠9:=fun z=>h9 (by rw [z]; exact decide_eq_true rfl)
 have eo:=stw hk n12 n7 n8 n9
 rw [eo] at q
 refine⟨_,rfl,_,rfl,_,rfl,_,rfl,stepT tx sk,v5,v3,aZ w,pad sk (looks (stepT tx sk)),rfl,t5',t3',zy _ _,(G_ _ (Nt _) (by lia) bs).le (by lia) (by lia),fun v10 H10 S10 t10=>⟨(by show 2≤sizeLine; decide),fun p13 g13=>?_⟩⟩
 obtain⟨S13,t13⟩:=bH (K:=K) g13 (k_ (t9.mono (.of S10)) t10)
 exact q _ _ (S19.trans (S10.trans S13)) t13
end
theorem all_mk {l:PySem.W.OpenLaw}{w:World}{K:PySem.W.Frag}{h:Heap}{mg:Str→Option Value}{fa f1 f2 f3 f4 f5 f6 f7 f8 f9 f10 f11 f12 f13 f14 f15 f16 f17 f18 f19 f20 f21 f22 f23 f24 f25 f26 f27 f28 f29 f30 f31 f32 f33 f34 f35 f36 f37 f38 f39 f40 f41 f42 f43 f44 f45 f46 f47 f48 f49 f50 f51 f52 f53 f54 f55:Addr} (X:K.In h) (G:h.Ns mainGlobals mg) (hfa:mg "law"=some (.ref fa))  {ao:Addr}{aD:Addr}{aG:Addr}{aL:Addr}{aM:Addr}{aK:Addr}{jC:Addr}{Hw HF:Option Addr}{Hq:Array (Option Value)}{Hx Hy HB Ht vQ HD:Value}{lF:Addr}{KZ Lb:Option Addr}{KC:Array (Option Value)}{K3 K5 K8 KN yS K_:Value}{mZ:Addr}{M4 Ov:Option Addr}{LK:Array (Option Value)}{M9 Ny Od Ms Aw Ol:Value}{jX:Addr}{Iu JD:Option Addr}{Ib:Array (Option Value)}{Iw Jb Jk Il xZ Ju:Value}{ni:Addr}{M8 Ox:Option Addr}{LR:Array (Option Value)}{Nb NK Og Mu Ay Oo:Value}{oG:Addr}{Qc Qp:Option Addr}{Pq:Array (Option Value)}{Qd Qh Qm PX B_ Qn:Value}{lG:Addr}{K1 Ld:Option Addr}{KD:Array (Option Value)}{K4 K6 K9 KQ yU La:Value}{m_:Addr}{M5 Ow:Option Addr}{LQ:Array (Option Value)}{M_ Nz Oe Mt Ax Om:Value}{pN:Addr}{RJ Tz:Option Addr}{Ra:Array (Option Value)}{RK R8 Td Rt Es Tn:Value}{vq:Addr}{Zu ZQ:Option Addr}{Zd:Array (Option Value)}{Zv ZD ZF Zn Lk ZG:Value}{qT:Addr}{U_ Vl:Option Addr}{Uv:Array (Option Value)}{Vb Vd Vg UL Hi Vi:Value}{qU:Addr}{Va Vm:Option Addr}{Uw:Array (Option Value)}{Vc Ve Vh UW Hj Vj:Value}{sV:Addr}{Xb YB:Option Addr}{Wh:Array (Option Value)}{Xd Xu Yd WL Jx Yl:Value}{sW:Addr}{Xc YC:Option Addr}{Wi:Array (Option Value)}{Xe Xv Ye WM Jy Ym:Value}{qp:Value}{xg:Value}{zH:Value}{zJ:Value}{rQ:Addr}{Kp:Obj}{mL:Value}{mO:Value}{dR:Value}{kZ:Addr}{aaB:Obj}{mK:Value}{iH:Value}{jx:Value}{fU:Value}{uM:Value}{xr:Value}{mJ:Value}{wY:Value}{uq:Value}{wZ:Value}{wX:Value}{qu:Value}{HN:Value}{i_:Value}{xq:Value}{uN:Value}{n_:Value}{jV:Addr}{Xf:Obj}{sy:Value}{sE:Value}
  {od1 an1 od2 an2 od3 an3 od4 an4 od5 an5 od6 an6 od7 an7 od8 an8 od9 an9 am0 aq9 amZ aq8 amY aq7 amX aq6 amW aq5 amV aq4 amU aq3 amT aq2 amS aq1 amR aq0 amQ aqZ amP aqY amO aqX amN aqW amM aqV amL aqU amK aqT amJ aqS amI aqR amH aqQ amG aqP amF aqO amE aqN amD aqM amC aqL amB aqK amA aqJ amy aqI amx aqH amw aqG amv aqF amu aqE amt aqD ams aqC amr aqB amq aqA amo aqz amn aqy amm aqx aml aqw amk aqv amj aqu ami aqt amh aqs amg aqr amf ajr:Option Addr}{sl1 sl2 sl3 sl4 sl5 sl6 sl7 sl8 sl9 alj ali alh alg alf ale ald alc alb ala ak_ ak9 ak8 ak7 ak6 ak5 ak4 ak3 ak2 ak1 ak0 akZ akY akX akW akV akU akT akS akR akQ akP akO akN akM akL akK akJ akI akH akG akF akE akD akC akB:Array (Option Value)}{oc1 kV1 dc1 pm1 cd1 ct1 oc2 kV2 dc2 pm2 cd2 ct2 oc3 kV3 dc3 pm3 cd3 ct3 oc4 kV4 dc4 pm4 cd4 ct4 oc5 kV5 dc5 pm5 cd5 ct5 oc6 kV6 dc6 pm6 cd6 ct6 oc7 kV7 dc7 pm7 cd7 ct7 oc8 kV8 dc8 pm8 cd8 ct8 oc9 kV9 dc9 pm9 cd9 ct9 anN aoI apG amd ajj aqq anM aoH apF amc aji aqp anL aoG apE amb ajh aqo anK aoF apD ama ajg aqn anJ aoE apC al_ ajf aqm anI aoD apB al9 aje aql anH aoC apA al8 ajd aqk anG aoB apz al7 ajc aqj anF aoA apy al6 ajb aqi anE aoz apx al5 aja aqh anD aoy apw al4 ai_ aqg anC aox apv al3 ai9 aqf anB aow apu al2 ai8 aqe anA aov apt al1 ai7 aqd anz aou aps al0 ai6 aqc anx aot apr alZ ai5 aqb anw aos apq alY ai4 aqa anv aor apo alX ai3 ap_ anu aoq apn alW ai2 ap9 ant aop apm alV ai1 ap8 anr aoo apl alU ai0 ap7 anq aon apk alT aiZ ap6 anp aom apj alS aiY ap5 ano aol aph alR aiX ap4 anm aok apg alQ aiW ap3 anl aoj apf alP aiV ap2 ank aoi ape alO aiU ap1 anj aoh apd alN aiT ap0 ani aog apc alM aiS apZ anh aof apb alL aiR apY ang aoe apa alK aiQ apW anf aod ao_ alJ aiP apV ane aoc ao9 alI aiO apU anc aob ao8 alH aiN apT anb aoa ao7 alG aiM apS ana an_ ao6 alF aiL apR am_ an0 ao5 alE aiK apQ am9 anZ ao4 alD aiJ apP am8 anY ao3 alC aiI apO am7 anW ao2 alB aiH apM am6 anV ao1 alA aiG apL am5 anU ao0 alz aiF apK am4 anT aoZ aly aiE apJ am3 anS aoY alx aiD apI am2 anR aoX alw aiC apH am1 ah9 aiA ahK afa aiB:Value}
  (a1:PySem.W.nsIn K mainGlobals "first"=some (some (.ref f1))) (l1:K.lookup f1=some ⟨oc1,od1,.func (PySem.W.fnOf "first" "first" (defArgs jJ) (defBody jJ) (defScope jJ) .none kV1 dc1 pm1 an1 cd1 ct1),sl1⟩) (c1:PySem.W.codeIn K cd1 "first"=true) (k1:PySem.W.keepIn K (.ref f1)=true)
  (a2:PySem.W.nsIn K mainGlobals "rest"=some (some (.ref f2))) (l2:K.lookup f2=some ⟨oc2,od2,.func (PySem.W.fnOf "rest" "rest" (defArgs sG) (defBody sG) (defScope sG) .none kV2 dc2 pm2 an2 cd2 ct2),sl2⟩) (c2:PySem.W.codeIn K cd2 "rest"=true) (k2:PySem.W.keepIn K (.ref f2)=true)
  (a3:PySem.W.nsIn K mainGlobals "parts"=some (some (.ref f3))) (l3:K.lookup f3=some ⟨oc3,od3,.func (PySem.W.fnOf "parts" "parts" (defArgs vV) (defBody vV) (defScope vV) .none kV3 dc3 pm3 an3 cd3 ct3),sl3⟩) (c3:PySem.W.codeIn K cd3 "parts"=true) (k3:PySem.W.keepIn K (.ref f3)=true)
  (a4:PySem.W.nsIn K mainGlobals "first_of"=some (some (.ref f4))) (l4:K.lookup f4=some ⟨oc4,od4,.func (PySem.W.fnOf "first_of" "first_of" (defArgs oY) (defBody oY) (defScope oY) .none kV4 dc4 pm4 an4 cd4 ct4),sl4⟩) (c4:PySem.W.codeIn K cd4 "first_of"=true) (k4:PySem.W.keepIn K (.ref f4)=true)
  (a5:PySem.W.nsIn K mainGlobals "rest_of"=some (some (.ref f5))) (l5:K.lookup f5=some ⟨oc5,od5,.func (PySem.W.fnOf "rest_of" "rest_of" (defArgs qz) (defBody qz) (defScope qz) .none kV5 dc5 pm5 an5 cd5 ct5),sl5⟩) (c5:PySem.W.codeIn K cd5 "rest_of"=true) (k5:PySem.W.keepIn K (.ref f5)=true)
  (a6:PySem.W.nsIn K mainGlobals "later"=some (some (.ref f6))) (l6:K.lookup f6=some ⟨oc6,od6,.func (PySem.W.fnOf "later" "later" (defArgs vW) (defBody vW) (defScope vW) .none kV6 dc6 pm6 an6 cd6 ct6),sl6⟩) (c6:PySem.W.codeIn K cd6 "later"=true) (k6:PySem.W.keepIn K (.ref f6)=true)
  (a7:PySem.W.nsIn K mainGlobals "unfronted"=some (some (.ref f7))) (l7:K.lookup f7=some ⟨oc7,od7,.func (PySem.W.fnOf "unfronted" "unfronted" (defArgs j8) (defBody j8) (defScope j8) .none kV7 dc7 pm7 an7 cd7 ct7),sl7⟩) (c7:PySem.W.codeIn K cd7 "unfronted"=true) (k7:PySem.W.keepIn K (.ref f7)=true)
  (a8:PySem.W.nsIn K mainGlobals "parts_within"=some (some (.ref f8))) (l8:K.lookup f8=some ⟨oc8,od8,.func (PySem.W.fnOf "parts_within" "parts_within" (defArgs ji) (defBody ji) (defScope ji) .none kV8 dc8 pm8 an8 cd8 ct8),sl8⟩) (c8:PySem.W.codeIn K cd8 "parts_within"=true) (k8:PySem.W.keepIn K (.ref f8)=true)
  (a9:PySem.W.nsIn K mainGlobals "as_tree"=some (some (.ref f9))) (l9:K.lookup f9=some ⟨oc9,od9,.func (PySem.W.fnOf "as_tree" "as_tree" (defArgs oN) (defBody oN) (defScope oN) .none kV9 dc9 pm9 an9 cd9 ct9),sl9⟩) (c9:PySem.W.codeIn K cd9 "as_tree"=true) (k9:PySem.W.keepIn K (.ref f9)=true)
  (a10:PySem.W.nsIn K mainGlobals "sort_of"=some (some (.ref f10))) (l10:K.lookup f10=some ⟨anN,am0,.func (PySem.W.fnOf "sort_of" "sort_of" (defArgs mU) (defBody mU) (defScope mU) .none aoI apG amd aq9 ajj aqq),alj⟩) (c10:PySem.W.codeIn K ajj "sort_of"=true) (k10:PySem.W.keepIn K (.ref f10)=true)
  (a11:PySem.W.nsIn K mainGlobals "load_of"=some (some (.ref f11))) (l11:K.lookup f11=some ⟨anM,amZ,.func (PySem.W.fnOf "load_of" "load_of" (defArgs oM) (defBody oM) (defScope oM) .none aoH apF amc aq8 aji aqp),ali⟩) (c11:PySem.W.codeIn K aji "load_of"=true) (k11:PySem.W.keepIn K (.ref f11)=true)
  (a12:PySem.W.nsIn K mainGlobals "lay"=some (some (.ref f12))) (l12:K.lookup f12=some ⟨anL,amY,.func (PySem.W.fnOf "lay" "lay" (defArgs Fo) (defBody Fo) (defScope Fo) .none aoG apE amb aq7 ajh aqo),alh⟩) (c12:PySem.W.codeIn K ajh "lay"=true) (k12:PySem.W.keepIn K (.ref f12)=true)
  (a13:PySem.W.nsIn K mainGlobals "plain"=some (some (.ref f13))) (l13:K.lookup f13=some ⟨anK,amX,.func (PySem.W.fnOf "plain" "plain" (defArgs vU) (defBody vU) (defScope vU) .none aoF apD ama aq6 ajg aqn),alg⟩) (c13:PySem.W.codeIn K ajg "plain"=true) (k13:PySem.W.keepIn K (.ref f13)=true)
  (a14:PySem.W.nsIn K mainGlobals "fork"=some (some (.ref f14))) (l14:K.lookup f14=some ⟨anJ,amW,.func (PySem.W.fnOf "fork" "fork" (defArgs sH) (defBody sH) (defScope sH) .none aoE apC al_ aq5 ajf aqm),alf⟩) (c14:PySem.W.codeIn K ajf "fork"=true) (k14:PySem.W.keepIn K (.ref f14)=true)
  (a15:PySem.W.nsIn K mainGlobals "loop"=some (some (.ref f15))) (l15:K.lookup f15=some ⟨anI,amV,.func (PySem.W.fnOf "loop" "loop" (defArgs zP) (defBody zP) (defScope zP) .none aoD apB al9 aq4 aje aql),ale⟩) (c15:PySem.W.codeIn K aje "loop"=true) (k15:PySem.W.keepIn K (.ref f15)=true)
  (a16:PySem.W.nsIn K mainGlobals "plains"=some (some (.ref f16))) (l16:K.lookup f16=some ⟨anH,amU,.func (PySem.W.fnOf "plains" "plains" (defArgs iI) (defBody iI) (defScope iI) .none aoC apA al8 aq3 ajd aqk),ald⟩) (c16:PySem.W.codeIn K ajd "plains"=true) (k16:PySem.W.keepIn K (.ref f16)=true)
  (a17:PySem.W.nsIn K mainGlobals "begin"=some (some (.ref f17))) (l17:K.lookup f17=some ⟨anG,amT,.func (PySem.W.fnOf "begin" "begin" (defArgs uy) (defBody uy) (defScope uy) .none aoB apz al7 aq2 ajc aqj),alc⟩) (c17:PySem.W.codeIn K ajc "begin"=true) (k17:PySem.W.keepIn K (.ref f17)=true)
  (a18:PySem.W.nsIn K mainGlobals "ended"=some (some (.ref f18))) (l18:K.lookup f18=some ⟨anF,amS,.func (PySem.W.fnOf "ended" "ended" (defArgs ux) (defBody ux) (defScope ux) .none aoA apy al6 aq1 ajb aqi),alb⟩) (c18:PySem.W.codeIn K ajb "ended"=true) (k18:PySem.W.keepIn K (.ref f18)=true)
  (a19:PySem.W.nsIn K mainGlobals "next_of"=some (some (.ref f19))) (l19:K.lookup f19=some ⟨anE,amR,.func (PySem.W.fnOf "next_of" "next_of" (defArgs qD) (defBody qD) (defScope qD) .none aoz apx al5 aq0 aja aqh),ala⟩) (c19:PySem.W.codeIn K aja "next_of"=true) (k19:PySem.W.keepIn K (.ref f19)=true)
  (a20:PySem.W.nsIn K mainGlobals "step_of"=some (some (.ref f20))) (l20:K.lookup f20=some ⟨anD,amQ,.func (PySem.W.fnOf "step_of" "step_of" (defArgs oK) (defBody oK) (defScope oK) .none aoy apw al4 aqZ ai_ aqg),ak_⟩) (c20:PySem.W.codeIn K ai_ "step_of"=true) (k20:PySem.W.keepIn K (.ref f20)=true)
  (a21:PySem.W.nsIn K mainGlobals "place_of"=some (some (.ref f21))) (l21:K.lookup f21=some ⟨anC,amP,.func (PySem.W.fnOf "place_of" "place_of" (defArgs jZ) (defBody jZ) (defScope jZ) .none aox apv al3 aqY ai9 aqf),ak9⟩) (c21:PySem.W.codeIn K ai9 "place_of"=true) (k21:PySem.W.keepIn K (.ref f21)=true)
  (a22:PySem.W.nsIn K mainGlobals "filled"=some (some (.ref f22))) (l22:K.lookup f22=some ⟨anB,amO,.func (PySem.W.fnOf "filled" "filled" (defArgs tO) (defBody tO) (defScope tO) .none aow apu al2 aqX ai8 aqe),ak8⟩) (c22:PySem.W.codeIn K ai8 "filled"=true) (k22:PySem.W.keepIn K (.ref f22)=true)
  (a23:PySem.W.nsIn K mainGlobals "worked"=some (some (.ref f23))) (l23:K.lookup f23=some ⟨anA,amN,.func (PySem.W.fnOf "worked" "worked" (defArgs tM) (defBody tM) (defScope tM) .none aov apt al1 aqW ai7 aqd),ak7⟩) (c23:PySem.W.codeIn K ai7 "worked"=true) (k23:PySem.W.keepIn K (.ref f23)=true)
  (a24:PySem.W.nsIn K mainGlobals "cost"=some (some (.ref f24))) (l24:K.lookup f24=some ⟨anz,amM,.func (PySem.W.fnOf "cost" "cost" (defArgs zR) (defBody zR) (defScope zR) .none aou aps al0 aqV ai6 aqc),ak6⟩) (c24:PySem.W.codeIn K ai6 "cost"=true) (k24:PySem.W.keepIn K (.ref f24)=true)
  (a25:PySem.W.nsIn K mainGlobals "run"=some (some (.ref f25))) (l25:K.lookup f25=some ⟨anx,amL,.func (PySem.W.fnOf "run" "run" (defArgs Fl) (defBody Fl) (defScope Fl) .none aot apr alZ aqU ai5 aqb),ak5⟩) (c25:PySem.W.codeIn K ai5 "run"=true) (k25:PySem.W.keepIn K (.ref f25)=true)
  (a26:PySem.W.nsIn K mainGlobals "tally_of"=some (some (.ref f26))) (l26:K.lookup f26=some ⟨anw,amK,.func (PySem.W.fnOf "tally_of" "tally_of" (defArgs oX) (defBody oX) (defScope oX) .none aos apq alY aqT ai4 aqa),ak4⟩) (c26:PySem.W.codeIn K ai4 "tally_of"=true) (k26:PySem.W.keepIn K (.ref f26)=true)
  (a27:PySem.W.nsIn K mainGlobals "gone"=some (some (.ref f27))) (l27:K.lookup f27=some ⟨anv,amJ,.func (PySem.W.fnOf "gone" "gone" (defArgs zQ) (defBody zQ) (defScope zQ) .none aor apo alX aqS ai3 ap_),ak3⟩) (c27:PySem.W.codeIn K ai3 "gone"=true) (k27:PySem.W.keepIn K (.ref f27)=true)
  (a28:PySem.W.nsIn K mainGlobals "walked"=some (some (.ref f28))) (l28:K.lookup f28=some ⟨anu,amI,.func (PySem.W.fnOf "walked" "walked" (defArgs oW) (defBody oW) (defScope oW) .none aoq apn alW aqR ai2 ap9),ak2⟩) (c28:PySem.W.codeIn K ai2 "walked"=true) (k28:PySem.W.keepIn K (.ref f28)=true)
  (a29:PySem.W.nsIn K mainGlobals "work"=some (some (.ref f29))) (l29:K.lookup f29=some ⟨ant,amH,.func (PySem.W.fnOf "work" "work" (defArgs zO) (defBody zO) (defScope zO) .none aop apm alV aqQ ai1 ap8),ak1⟩) (c29:PySem.W.codeIn K ai1 "work"=true) (k29:PySem.W.keepIn K (.ref f29)=true)
  (a30:PySem.W.nsIn K mainGlobals "selfrunner"=some (some (.ref f30))) (l30:K.lookup f30=some ⟨anr,amG,.func (PySem.W.fnOf "selfrunner" "selfrunner" (defArgs lA) (defBody lA) (defScope lA) .none aoo apl alU aqP ai0 ap7),ak0⟩) (c30:PySem.W.codeIn K ai0 "selfrunner"=true) (k30:PySem.W.keepIn K (.ref f30)=true)
  (a31:PySem.W.nsIn K mainGlobals "opening"=some (some (.ref f31))) (l31:K.lookup f31=some ⟨anq,amF,.func (PySem.W.fnOf "opening" "opening" (defArgs qC) (defBody qC) (defScope qC) .none aon apk alT aqO aiZ ap6),akZ⟩) (c31:PySem.W.codeIn K aiZ "opening"=true) (k31:PySem.W.keepIn K (.ref f31)=true)
  (a32:PySem.W.nsIn K mainGlobals "from_head"=some (some (.ref f32))) (l32:K.lookup f32=some ⟨anp,amE,.func (PySem.W.fnOf "from_head" "from_head" (defArgs j9) (defBody j9) (defScope j9) .none aom apj alS aqN aiY ap5),akY⟩) (c32:PySem.W.codeIn K aiY "from_head"=true) (k32:PySem.W.keepIn K (.ref f32)=true)
  (a33:PySem.W.nsIn K mainGlobals "stepped"=some (some (.ref f33))) (l33:K.lookup f33=some ⟨ano,amD,.func (PySem.W.fnOf "stepped" "stepped" (defArgs qy) (defBody qy) (defScope qy) .none aol aph alR aqM aiX ap4),akX⟩) (c33:PySem.W.codeIn K aiX "stepped"=true) (k33:PySem.W.keepIn K (.ref f33)=true)
  (a34:PySem.W.nsIn K mainGlobals "by_sort"=some (some (.ref f34))) (l34:K.lookup f34=some ⟨anm,amC,.func (PySem.W.fnOf "by_sort" "by_sort" (defArgs qG) (defBody qG) (defScope qG) .none aok apg alQ aqL aiW ap3),akW⟩) (c34:PySem.W.codeIn K aiW "by_sort"=true) (k34:PySem.W.keepIn K (.ref f34)=true)
  (a35:PySem.W.nsIn K mainGlobals "gone_of"=some (some (.ref f35))) (l35:K.lookup f35=some ⟨anl,amB,.func (PySem.W.fnOf "gone_of" "gone_of" (defArgs qF) (defBody qF) (defScope qF) .none aoj apf alP aqK aiV ap2),akV⟩) (c35:PySem.W.codeIn K aiV "gone_of"=true) (k35:PySem.W.keepIn K (.ref f35)=true)
  (a36:PySem.W.nsIn K mainGlobals "while_gone"=some (some (.ref f36))) (l36:K.lookup f36=some ⟨ank,amA,.func (PySem.W.fnOf "while_gone" "while_gone" (defArgs lu) (defBody lu) (defScope lu) .none aoi ape alO aqJ aiU ap1),akU⟩) (c36:PySem.W.codeIn K aiU "while_gone"=true) (k36:PySem.W.keepIn K (.ref f36)=true)
  (a37:PySem.W.nsIn K mainGlobals "nameless_gone"=some (some (.ref f37))) (l37:K.lookup f37=some ⟨anj,amy,.func (PySem.W.fnOf "nameless_gone" "nameless_gone" (defArgs iJ) (defBody iJ) (defScope iJ) .none aoh apd alN aqI aiT ap0),akT⟩) (c37:PySem.W.codeIn K aiT "nameless_gone"=true) (k37:PySem.W.keepIn K (.ref f37)=true)
  (a38:PySem.W.nsIn K mainGlobals "shown"=some (some (.ref f38))) (l38:K.lookup f38=some ⟨ani,amx,.func (PySem.W.fnOf "shown" "shown" (defArgs uw) (defBody uw) (defScope uw) .none aog apc alM aqH aiS apZ),akS⟩) (c38:PySem.W.codeIn K aiS "shown"=true) (k38:PySem.W.keepIn K (.ref f38)=true)
  (a39:PySem.W.nsIn K mainGlobals "_law_deck"=some (some (.ref f39))) (l39:K.lookup f39=some ⟨anh,amw,.func (PySem.W.fnOf "_law_deck" "_law_deck" (defArgs kj) (defBody kj) (defScope kj) .none aof apb alL aqG aiR apY),akR⟩) (c39:PySem.W.codeIn K aiR "_law_deck"=true) (k39:PySem.W.keepIn K (.ref f39)=true)
  (a40:PySem.W.nsIn K mainGlobals "_law_next"=some (some (.ref f40))) (l40:K.lookup f40=some ⟨ang,amv,.func (PySem.W.fnOf "_law_next" "_law_next" (defArgs iB) (defBody iB) (defScope iB) .none aoe apa alK aqF aiQ apW),akQ⟩) (c40:PySem.W.codeIn K aiQ "_law_next"=true) (k40:PySem.W.keepIn K (.ref f40)=true)
  (a41:PySem.W.nsIn K mainGlobals "_law_tree"=some (some (.ref f41))) (l41:K.lookup f41=some ⟨anf,amu,.func (PySem.W.fnOf "_law_tree" "_law_tree" (defArgs iz) (defBody iz) (defScope iz) .none aod ao_ alJ aqE aiP apV),akP⟩) (c41:PySem.W.codeIn K aiP "_law_tree"=true) (k41:PySem.W.keepIn K (.ref f41)=true)
  (a42:PySem.W.nsIn K mainGlobals "_law_load"=some (some (.ref f42))) (l42:K.lookup f42=some ⟨ane,amt,.func (PySem.W.fnOf "_law_load" "_law_load" (defArgs nJ) (defBody nJ) (defScope nJ) .none aoc ao9 alI aqD aiO apU),akO⟩) (c42:PySem.W.codeIn K aiO "_law_load"=true) (k42:PySem.W.keepIn K (.ref f42)=true)
  (a43:PySem.W.nsIn K mainGlobals "_law_word"=some (some (.ref f43))) (l43:K.lookup f43=some ⟨anc,ams,.func (PySem.W.fnOf "_law_word" "_law_word" (defArgs pU) (defBody pU) (defScope pU) .none aob ao8 alH aqC aiN apT),akN⟩) (c43:PySem.W.codeIn K aiN "_law_word"=true) (k43:PySem.W.keepIn K (.ref f43)=true)
  (a44:PySem.W.nsIn K mainGlobals "_law_text"=some (some (.ref f44))) (l44:K.lookup f44=some ⟨anb,amr,.func (PySem.W.fnOf "_law_text" "_law_text" (defArgs j_) (defBody j_) (defScope j_) .none aoa ao7 alG aqB aiM apS),akM⟩) (c44:PySem.W.codeIn K aiM "_law_text"=true) (k44:PySem.W.keepIn K (.ref f44)=true)
  (a45:PySem.W.nsIn K mainGlobals "_law_first"=some (some (.ref f45))) (l45:K.lookup f45=some ⟨ana,amq,.func (PySem.W.fnOf "_law_first" "_law_first" (defArgs eG) (defBody eG) (defScope eG) .none an_ ao6 alF aqA aiL apR),akL⟩) (c45:PySem.W.codeIn K aiL "_law_first"=true) (k45:PySem.W.keepIn K (.ref f45)=true)
  (a46:PySem.W.nsIn K mainGlobals "_law_parts"=some (some (.ref f46))) (l46:K.lookup f46=some ⟨am_,amo,.func (PySem.W.fnOf "_law_parts" "_law_parts" (defArgs jz) (defBody jz) (defScope jz) .none an0 ao5 alE aqz aiK apQ),akK⟩) (c46:PySem.W.codeIn K aiK "_law_parts"=true) (k46:PySem.W.keepIn K (.ref f46)=true)
  (a47:PySem.W.nsIn K mainGlobals "_law_wide"=some (some (.ref f47))) (l47:K.lookup f47=some ⟨am9,amn,.func (PySem.W.fnOf "_law_wide" "_law_wide" (defArgs nH) (defBody nH) (defScope nH) .none anZ ao4 alD aqy aiJ apP),akJ⟩) (c47:PySem.W.codeIn K aiJ "_law_wide"=true) (k47:PySem.W.keepIn K (.ref f47)=true)
  (a48:PySem.W.nsIn K mainGlobals "_law_sort"=some (some (.ref f48))) (l48:K.lookup f48=some ⟨am8,amm,.func (PySem.W.fnOf "_law_sort" "_law_sort" (defArgs jw) (defBody jw) (defScope jw) .none anY ao3 alC aqx aiI apO),akI⟩) (c48:PySem.W.codeIn K aiI "_law_sort"=true) (k48:PySem.W.keepIn K (.ref f48)=true)
  (a49:PySem.W.nsIn K mainGlobals "_law_stack"=some (some (.ref f49))) (l49:K.lookup f49=some ⟨am7,aml,.func (PySem.W.fnOf "_law_stack" "_law_stack" (defArgs lB) (defBody lB) (defScope lB) .none anW ao2 alB aqw aiH apM),akH⟩) (c49:PySem.W.codeIn K aiH "_law_stack"=true) (k49:PySem.W.keepIn K (.ref f49)=true)
  (a50:PySem.W.nsIn K mainGlobals "_law_behind"=some (some (.ref f50))) (l50:K.lookup f50=some ⟨am6,amk,.func (PySem.W.fnOf "_law_behind" "_law_behind" (defArgs gP) (defBody gP) (defScope gP) .none anV ao1 alA aqv aiG apL),akG⟩) (c50:PySem.W.codeIn K aiG "_law_behind"=true) (k50:PySem.W.keepIn K (.ref f50)=true)
  (a51:PySem.W.nsIn K mainGlobals "_law_steps"=some (some (.ref f51))) (l51:K.lookup f51=some ⟨am5,amj,.func (PySem.W.fnOf "_law_steps" "_law_steps" (defArgs jy) (defBody jy) (defScope jy) .none anU ao0 alz aqu aiF apK),akF⟩) (c51:PySem.W.codeIn K aiF "_law_steps"=true) (k51:PySem.W.keepIn K (.ref f51)=true)
  (a52:PySem.W.nsIn K mainGlobals "_law_room"=some (some (.ref f52))) (l52:K.lookup f52=some ⟨am4,ami,.func (PySem.W.fnOf "_law_room" "_law_room" (defArgs kh) (defBody kh) (defScope kh) .none anT aoZ aly aqt aiE apJ),akE⟩) (c52:PySem.W.codeIn K aiE "_law_room"=true) (k52:PySem.W.keepIn K (.ref f52)=true)
  (a53:PySem.W.nsIn K mainGlobals "_law_to_head"=some (some (.ref f53))) (l53:K.lookup f53=some ⟨am3,amh,.func (PySem.W.fnOf "_law_to_head" "_law_to_head" (defArgs jj) (defBody jj) (defScope jj) .none anS aoY alx aqs aiD apI),akD⟩) (c53:PySem.W.codeIn K aiD "_law_to_head"=true) (k53:PySem.W.keepIn K (.ref f53)=true)
  (a54:PySem.W.nsIn K mainGlobals "_law_heads_alike"=some (some (.ref f54))) (l54:K.lookup f54=some ⟨am2,amg,.func (PySem.W.fnOf "_law_heads_alike" "_law_heads_alike" (defArgs d8) (defBody d8) (defScope d8) .none anR aoX alw aqr aiC apH),akC⟩) (c54:PySem.W.codeIn K aiC "_law_heads_alike"=true) (k54:PySem.W.keepIn K (.ref f54)=true)
  (a55:PySem.W.nsIn K mainGlobals "law"=some (some (.ref f55))) (l55:K.lookup f55=some ⟨am1,amf,.func (PySem.W.fnOf "law" "law" (defArgs tH) (defBody tH) (defScope tH) .none ah9 aiA ahK ajr afa aiB),akB⟩) (c55:PySem.W.codeIn K afa "law"=true) (k55:PySem.W.keepIn K (.ref f55)=true)
  (GF:PySem.W.nsIn K mainGlobals "Fronted"=some (some (.ref ao)))
  (Fw:PySem.W.plainGet K ao Str.empty=true)
  (Gi:PySem.W.hasDictIn K ao=true)
  (Fv:PySem.W.plainOver K ao=true)
  (Fj:PySem.W.findIn K (.ref ao) "__setattr__"=some (some (.builtin "object.__setattr__")))
  (FZ:PySem.W.makesIn K ao=true)
  (Ge:PySem.W.keepIn K (.ref ao)=true)
  (vZ:PySem.W.findIn K (.ref ao) "item"=some none)
  (tU:PySem.W.findIn K (.ref ao) "behind"=some none)
  (OJ:PySem.W.nsIn K mainGlobals "Later"=some (some (.ref aD)))
  (Mv:PySem.W.plainGet K aD Str.empty=true)
  (NZ:PySem.W.hasDictIn K aD=true)
  (Mq:PySem.W.plainOver K aD=true)
  (Mj:PySem.W.findIn K (.ref aD) "__setattr__"=some (some (.builtin "object.__setattr__")))
  (Nj:PySem.W.makesIn K aD=true)
  (Nv:PySem.W.keepIn K (.ref aD)=true)
  (z_:PySem.W.findIn K (.ref aD) "tree"=some none)
  (yE:PySem.W.findIn K (.ref aD) "place"=some none)
  (TY:PySem.W.nsIn K mainGlobals "Word"=some (some (.ref aG)))
  (Ru:PySem.W.plainGet K aG Str.empty=true)
  (Ss:PySem.W.hasDictIn K aG=true)
  (Rp:PySem.W.plainOver K aG=true)
  (Rg:PySem.W.findIn K (.ref aG) "__setattr__"=some (some (.builtin "object.__setattr__")))
  (RM:PySem.W.makesIn K aG=true)
  (R5:PySem.W.keepIn K (.ref aG)=true)
  (Cp:PySem.W.findIn K (.ref aG) "kind"=some none)
  (Cm:PySem.W.findIn K (.ref aG) "load"=some none)
  (FW:PySem.W.findIn K (.ref aG) "yes"=some none)
  (Iz:PySem.W.findIn K (.ref aG) "no"=some none)
  (Cq:PySem.W.findIn K (.ref aG) "body"=some none)
  (Ck:PySem.W.findIn K (.ref aG) "size"=some none)
  (T4:PySem.W.nsIn K mainGlobals "Text"=some (some (.ref aL)))
  (Rw:PySem.W.plainGet K aL Str.empty=true)
  (SJ:PySem.W.hasDictIn K aL=true)
  (Rr:PySem.W.plainOver K aL=true)
  (Ri:PySem.W.findIn K (.ref aL) "__setattr__"=some (some (.builtin "object.__setattr__")))
  (RP:PySem.W.makesIn K aL=true)
  (R7:PySem.W.keepIn K (.ref aL)=true)
  (Cu:PySem.W.findIn K (.ref aL) "tree"=some none)
  (z7:PySem.W.findIn K (.ref aL) "words"=some none)
  (O_:PySem.W.nsIn K mainGlobals "Going"=some (some (.ref aM)))
  (Mw:PySem.W.plainGet K aM Str.empty=true)
  (N5:PySem.W.hasDictIn K aM=true)
  (Mr:PySem.W.plainOver K aM=true)
  (Ml:PySem.W.findIn K (.ref aM) "__setattr__"=some (some (.builtin "object.__setattr__")))
  (Nk:PySem.W.makesIn K aM=true)
  (Nx:PySem.W.keepIn K (.ref aM)=true)
  (Aa:PySem.W.findIn K (.ref aM) "text"=some none)
  (yF:PySem.W.findIn K (.ref aM) "place"=some none)
  (T3:PySem.W.nsIn K mainGlobals "Walk"=some (some (.ref aK)))
  (Rv:PySem.W.plainGet K aK Str.empty=true)
  (Sv:PySem.W.hasDictIn K aK=true)
  (Rq:PySem.W.plainOver K aK=true)
  (Rh:PySem.W.findIn K (.ref aK) "__setattr__"=some (some (.builtin "object.__setattr__")))
  (RN:PySem.W.makesIn K aK=true)
  (R6:PySem.W.keepIn K (.ref aK)=true)
  (yD:PySem.W.findIn K (.ref aK) "goings"=some none)
  (zZ:PySem.W.findIn K (.ref aK) "stack"=some none)
  (vY:PySem.W.findIn K (.ref aK) "numbers"=some none)
  (Cr:PySem.W.findIn K (.ref aK) "left"=some none)
  (Gj:PySem.W.findIn K (.ref ao) "__eq__"=some (some (.builtin "object.__eq__")))
  (FJ:PySem.W.mroIn K ao (.type "object")=some true)
  (Fb:PySem.W.mroIn K ao (.type "tuple")=some false)
  (Fi:PySem.W.subIn K (.type "tuple") (.ref ao)=some false)
  (Gv:PySem.W.findIn K (.ref ao) "__class__"=some (some (.builtin "object.__class__")))
  (N7:PySem.W.findIn K (.ref aD) "__eq__"=some (some (.builtin "object.__eq__")))
  (Nf:PySem.W.mroIn K aD (.type "object")=some true)
  (Lq:PySem.W.mroIn K aD (.type "tuple")=some false)
  (Mi:PySem.W.subIn K (.type "tuple") (.ref aD)=some false)
  (Ou:PySem.W.findIn K (.ref aD) "__class__"=some (some (.builtin "object.__class__")))
  (cn:PySem.W.specialIn K (.builtin "object.__class__") "__get__"=some (some (.builtin "getset_descriptor.__get__")))
  (ct:PySem.W.takesIn K (.builtin "object.__class__")=some true)
  (iTF:PySem.W.kitOne K (.type "tuple") (.ref ao)=some false)
  (iTL:PySem.W.kitOne K (.type "tuple") (.ref aD)=some false)
  (iFF:PySem.W.kitOne K (.ref ao) (.ref ao)=some true)
  (iLF:PySem.W.kitOne K (.ref aD) (.ref ao)=some false)
  (iLL:PySem.W.kitOne K (.ref aD) (.ref aD)=some true)
  (iu:PySem.W.findIn K (.ref ao) "__init__"=some (some (.ref jC)))
  (qR:PySem.W.isFn K (.ref jC)=true)
  (qP:K.lookup jC=some ⟨Hx,Hw,.func (PySem.W.fnOf "__init__" "Fronted.__init__" (defArgs g_) (defBody g_) (defScope g_) .none Hy HB Ht HF vQ HD),Hq⟩)
  (q_:PySem.W.codeIn K vQ "Fronted.__init__"=true)
  (qQ:PySem.W.keepIn K (.ref jC)=true)
  (jq:PySem.W.findIn K (.ref aD) "__init__"=some (some (.ref lF)))
  (t_:PySem.W.isFn K (.ref lF)=true)
  (tW:K.lookup lF=some ⟨K3,KZ,.func (PySem.W.fnOf "__init__" "Later.__init__" (defArgs jk) (defBody jk) (defScope jk) .none K5 K8 KN Lb yS K_),KC⟩)
  (ug:PySem.W.codeIn K yS "Later.__init__"=true)
  (tY:PySem.W.keepIn K (.ref lF)=true)
  (jN:PySem.W.findIn K (.ref aG) "__init__"=some (some (.ref mZ)))
  (vh:PySem.W.isFn K (.ref mZ)=true)
  (uX:K.lookup mZ=some ⟨M9,M4,.func (PySem.W.fnOf "__init__" "Word.__init__" (defArgs jK) (defBody jK) (defScope jK) .none Ny Od Ms Ov Aw Ol),LK⟩)
  (vC:PySem.W.codeIn K Aw "Word.__init__"=true)
  (u6:PySem.W.keepIn K (.ref mZ)=true)
  (iZ:PySem.W.findIn K (.ref aG) "body_parts"=some (some (.ref jX)))
  (rT:PySem.W.isFn K (.ref jX)=true)
  (rR:K.lookup jX=some ⟨Iw,Iu,.func (PySem.W.fnOf "body_parts" "Word.body_parts" (defArgs iW) (defBody iW) (defScope iW) .none Jb Jk Il JD xZ Ju),Ib⟩)
  (rW:PySem.W.codeIn K xZ "Word.body_parts"=true)
  (nY:PySem.W.keepIn K (.ref jX)=true)
  (fJ:PySem.W.findIn K (.ref aL) "__init__"=some (some (.ref ni)))
  (vo:PySem.W.isFn K (.ref ni)=true)
  (uZ:K.lookup ni=some ⟨Nb,M8,.func (PySem.W.fnOf "__init__" "Text.__init__" (defArgs jL) (defBody jL) (defScope jL) .none NK Og Mu Ox Ay Oo),LR⟩)
  (vG:PySem.W.codeIn K Ay "Text.__init__"=true)
  (vg:PySem.W.keepIn K (.ref ni)=true)
  (kY:PySem.W.findIn K (.ref aL) "word_at"=some (some (.ref oG)))
  (wu:PySem.W.isFn K (.ref oG)=true)
  (wj:K.lookup oG=some ⟨Qd,Qc,.func (PySem.W.fnOf "word_at" "Text.word_at" (defArgs kO) (defBody kO) (defScope kO) .none Qh Qm PX Qp B_ Qn),Pq⟩)
  (wH:PySem.W.codeIn K B_ "Text.word_at"=true)
  (rO:PySem.W.keepIn K (.ref oG)=true)
  (eE:PySem.W.findIn K (.ref aM) "__init__"=some (some (.ref lG)))
  (uc:PySem.W.isFn K (.ref lG)=true)
  (tX:K.lookup lG=some ⟨K4,K1,.func (PySem.W.fnOf "__init__" "Going.__init__" (defArgs jl) (defBody jl) (defScope jl) .none K6 K9 KQ Ld yU La),KD⟩)
  (uh:PySem.W.codeIn K yU "Going.__init__"=true)
  (tZ:PySem.W.keepIn K (.ref lG)=true)
  (jO:PySem.W.findIn K (.ref aK) "__init__"=some (some (.ref m_)))
  (vm:PySem.W.isFn K (.ref m_)=true)
  (uY:K.lookup m_=some ⟨M_,M5,.func (PySem.W.fnOf "__init__" "Walk.__init__" (defArgs iK) (defBody iK) (defScope iK) .none Nz Oe Mt Ow Ax Om),LQ⟩)
  (vD:PySem.W.codeIn K Ax "Walk.__init__"=true)
  (vf:PySem.W.keepIn K (.ref m_)=true)
  (gU:PySem.W.findIn K (.ref aK) "at_end"=some (some (.ref pN)))
  (yI:PySem.W.isFn K (.ref pN)=true)
  (yH:K.lookup pN=some ⟨RK,RJ,.func (PySem.W.fnOf "at_end" "Walk.at_end" (defArgs lY) (defBody lY) (defScope lY) .none R8 Td Rt Tz Es Tn),Ra⟩)
  (yK:PySem.W.codeIn K Es "Walk.at_end"=true)
  (tK:PySem.W.keepIn K (.ref pN)=true)
  (j7:PySem.W.findIn K (.ref aK) "top"=some (some (.ref vq)))
  (Gf:PySem.W.isFn K (.ref vq)=true)
  (Gd:K.lookup vq=some ⟨Zv,Zu,.func (PySem.W.fnOf "top" "Walk.top" (defArgs rJ) (defBody rJ) (defScope rJ) .none ZD ZF Zn ZQ Lk ZG),Zd⟩)
  (Gw:PySem.W.codeIn K Lk "Walk.top"=true)
  (za:PySem.W.keepIn K (.ref vq)=true)
  (eN:PySem.W.findIn K (.ref aK) "tally"=some (some (.ref qT)))
  (Ah:PySem.W.isFn K (.ref qT)=true)
  (Af:K.lookup qT=some ⟨Vb,U_,.func (PySem.W.fnOf "tally" "Walk.tally" (defArgs oh) (defBody oh) (defScope oh) .none Vd Vg UL Vl Hi Vi),Uv⟩)
  (Az:PySem.W.codeIn K Hi "Walk.tally"=true)
  (u9:PySem.W.keepIn K (.ref qT)=true)
  (oJ:PySem.W.findIn K (.ref aK) "stand"=some (some (.ref qU)))
  (Ai:PySem.W.isFn K (.ref qU)=true)
  (Ag:K.lookup qU=some ⟨Vc,Va,.func (PySem.W.fnOf "stand" "Walk.stand" (defArgs jA) (defBody jA) (defScope jA) .none Ve Vh UW Vm Hj Vj),Uw⟩)
  (A_:PySem.W.codeIn K Hj "Walk.stand"=true)
  (u_:PySem.W.keepIn K (.ref qU)=true)
  (qd:PySem.W.findIn K (.ref aK) "step"=some (some (.ref sV)))
  (CN:PySem.W.isFn K (.ref sV)=true)
  (CJ:K.lookup sV=some ⟨Xd,Xb,.func (PySem.W.fnOf "step" "Walk.step" (defArgs pW) (defBody pW) (defScope pW) .none Xu Yd WL YB Jx Yl),Wh⟩)
  (Di:PySem.W.codeIn K Jx "Walk.step"=true)
  (wO:PySem.W.keepIn K (.ref sV)=true)
  (qe:PySem.W.findIn K (.ref aK) "move"=some (some (.ref sW)))
  (CP:PySem.W.isFn K (.ref sW)=true)
  (CK:K.lookup sW=some ⟨Xe,Xc,.func (PySem.W.fnOf "move" "Walk.move" (defArgs pX) (defBody pX) (defScope pX) .none Xv Ye WM YC Jy Ym),Wi⟩)
  (Dj:PySem.W.codeIn K Jy "Walk.move"=true)
  (wQ:PySem.W.keepIn K (.ref sW)=true)
  (Aj:PySem.W.nsIn K mainGlobals "WHILE_PAST"=some (some qp))
  (qH:RelV (.int 10) qp)
  (Jf:PySem.W.nsIn K mainGlobals "NO_WORD"=some (some xg))
  (xP:RelV (.int 11) xg)
  (N_:PySem.W.nsIn K mainGlobals "PLACES"=some (some zH))
  (zU:RelV (.int 15) zH)
  (Ob:PySem.W.nsIn K mainGlobals "BODIES"=some (some zJ))
  (zV:RelV (.int 14) zJ)
  (SN:PySem.W.nsIn K mainGlobals "NAMES"=some (some (.ref rQ)))
  (Kr:K.lookup rQ=some Kp)
  (QD:YK Kp [.str (PySem.Str.ofString "lay"),.str (PySem.Str.ofString "drop"),.str (PySem.Str.ofString "twin"),.str (PySem.Str.ofString "swap"),.str (PySem.Str.ofString "front"),.str (PySem.Str.ofString "part"),.str (PySem.Str.ofString "turn"),.str (PySem.Str.ofString "fork"),.str (PySem.Str.ofString "while")])
  (QF:Kp.cls=.type "tuple"∧Kp.dict=none)
  (Gk:PySem.W.nsIn K mainGlobals "NAMELESS"=some (some mL))
  (mW:RelV (.int 9) mL)
  (X6:PySem.W.nsIn K mainGlobals "FORK"=some (some mO))
  (mX:RelV (.int 7) mO)
  (SM:PySem.W.nsIn K mainGlobals "WHILE"=some (some dR))
  (dU:RelV (.int 8) dR)
  (SQ:PySem.W.nsIn K mainGlobals "LOOKS"=some (some (.ref kZ)))
  (R4:K.lookup kZ=some aaB)
  (QL:YK aaB [.int 0,.int 1,.int 1,.int 2,.int 2,.int 1,.int 3,.int 1,.int 1,.int 1,.int 1,.int 0,.int 0])
  (X3:PySem.W.nsIn K mainGlobals "SHUT"=some (some mK))
  (mV:RelV (.int 12) mK)
  (Gn:PySem.W.nsIn K mainGlobals "FORK_YES"=some (some iH))
  (iM:RelV (.int 7) iH)
  (Jh:PySem.W.nsIn K mainGlobals "FORK_NO"=some (some jx))
  (jB:RelV (.int 8) jx)
  (Ak:PySem.W.nsIn K mainGlobals "WHILE_INTO"=some (some fU))
  (fX:RelV (.int 9) fU)
  (abU:PySem.W.nsIn K mainGlobals "LAY"=some (some uM))
  (uQ:RelV (.int 0) uM)
  (X7:PySem.W.nsIn K mainGlobals "DROP"=some (some xr))
  (xR:RelV (.int 1) xr)
  (XQ:PySem.W.nsIn K mainGlobals "TWIN"=some (some mJ))
  (lC:RelV (.int 2) mJ)
  (XS:PySem.W.nsIn K mainGlobals "SWAP"=some (some wY))
  (xM:RelV (.int 3) wY)
  (SX:PySem.W.nsIn K mainGlobals "FRONT"=some (some uq))
  (uz:RelV (.int 4) uq)
  (X4:PySem.W.nsIn K mainGlobals "PART"=some (some wZ))
  (xO:RelV (.int 5) wZ)
  (XR:PySem.W.nsIn K mainGlobals "TURN"=some (some wX))
  (xJ:RelV (.int 6) wX)
  (Oa:PySem.W.nsIn K mainGlobals "COPIED"=some (some qu))
  (oZ:RelV (.int 13) qu)
  (X5:PySem.W.nsIn K mainGlobals "LAID"=some (some HN))
  (Ii:RelV (.str (PySem.Str.ofString "turn turn front turn turn front swap")) HN)
  (yJ:PySem.W.nsIn K mainGlobals "TOP_REACHED"=some (some i_))
  (jc:RelV (.str (PySem.Str.ofString "turn turn front turn part")) i_)
  (Jg:PySem.W.nsIn K mainGlobals "INTO_NO"=some (some xq))
  (xQ:RelV (.str (PySem.Str.ofString "front swap turn part drop front")) xq)
  (Gm:PySem.W.nsIn K mainGlobals "INTO_YES"=some (some uN))
  (uR:RelV (.str (PySem.Str.ofString "front swap turn part swap drop front")) uN)
  (wz:PySem.W.nsIn K mainGlobals "STACK_PARTED"=some (some n_))
  (ou:RelV (.str (PySem.Str.ofString "drop front swap part")) n_)
  (N8:PySem.W.nsIn K mainGlobals "WORKED"=some (some (.ref jV)))
  (Nu:K.lookup jV=some Xf)
  (Lw:YK Xf [.str (PySem.Str.ofString ""),.str (PySem.Str.ofString "drop"),.str (PySem.Str.ofString "twin turn swap front swap front"),.str (PySem.Str.ofString "swap part swap turn front swap front"),.str (PySem.Str.ofString "swap part turn front front"),.str (PySem.Str.ofString "part turn turn front swap front"),.str (PySem.Str.ofString "swap part swap part swap turn front turn front swap front")])
  (CQ:PySem.W.nsIn K mainGlobals "PAST_BODY"=some (some sy))
  (sI:RelV (.str (PySem.Str.ofString "front turn drop swap")) sy)
  (CV:PySem.W.nsIn K mainGlobals "INTO_BODY"=some (some sE))
  (sJ:RelV (.str (PySem.Str.ofString "front swap turn part swap twin turn front turn part turn front front swap front")) sE)
  (zG:PySem.W.nsIn K mainGlobals "isinstance"=some none) (aa0:PySem.W.nsIn K mainGlobals "len"=some none) (QB:PySem.W.nsIn K mainGlobals "tuple"=some none) (aaZ:PySem.W.nsIn K mainGlobals "min"=some none) (aaY:PySem.W.nsIn K mainGlobals "sum"=some none) (Ey:PySem.W.nsIn K mainGlobals "reversed"=some none) (QC:PySem.W.nsIn K mainGlobals "range"=some none) (aa1:PySem.W.nsIn K mainGlobals "int"=some none) (VD:PySem.W.nsIn K mainGlobals "list"=some none) :
  ∃ fd:FuncData,(∀ (s:Shared) (v:Value),BindsTo s fd ⟨[v],[]⟩ [("_law_script",v)])∧∀ base:Heap,K.In base→base.Ns mainGlobals mg→FnOk l.prog w K mg base CX0 60 fa fd ["_law_script"] (spLaw K):=by
 have e:=hfa.symm.trans (PySem.W.mg_of X G a55)
 cases e
 have F1:=fun_mk (st:=jJ) l1 c1 k1
 have F2:=fun_mk (st:=sG) l2 c2 k2
 have F3:=fun_mk (st:=vV) l3 c3 k3
 have F4:=fun_mk (st:=oY) l4 c4 k4
 have F5:=fun_mk (st:=qz) l5 c5 k5
 have F6:=fun_mk (st:=vW) l6 c6 k6
 have F7:=fun_mk (st:=j8) l7 c7 k7
 have F8:=fun_mk (st:=ji) l8 c8 k8
 have F9:=fun_mk (st:=oN) l9 c9 k9
 have F10:=fun_mk (st:=mU) l10 c10 k10
 have F11:=fun_mk (st:=oM) l11 c11 k11
 have F12:=fun_mk (st:=Fo) l12 c12 k12
 have F13:=fun_mk (st:=vU) l13 c13 k13
 have F14:=fun_mk (st:=sH) l14 c14 k14
 have F15:=fun_mk (st:=zP) l15 c15 k15
 have F16:=fun_mk (st:=iI) l16 c16 k16
 have F17:=fun_mk (st:=uy) l17 c17 k17
 have F18:=fun_mk (st:=ux) l18 c18 k18
 have F19:=fun_mk (st:=qD) l19 c19 k19
 have F20:=fun_mk (st:=oK) l20 c20 k20
 have F21:=fun_mk (st:=jZ) l21 c21 k21
 have F22:=fun_mk (st:=tO) l22 c22 k22
 have F23:=fun_mk (st:=tM) l23 c23 k23
 have F24:=fun_mk (st:=zR) l24 c24 k24
 have F25:=fun_mk (st:=Fl) l25 c25 k25
 have F26:=fun_mk (st:=oX) l26 c26 k26
 have F27:=fun_mk (st:=zQ) l27 c27 k27
 have F28:=fun_mk (st:=oW) l28 c28 k28
 have F29:=fun_mk (st:=zO) l29 c29 k29
 have F30:=fun_mk (st:=lA) l30 c30 k30
 have F31:=fun_mk (st:=qC) l31 c31 k31
 have F32:=fun_mk (st:=j9) l32 c32 k32
 have F33:=fun_mk (st:=qy) l33 c33 k33
 have F34:=fun_mk (st:=qG) l34 c34 k34
 have F35:=fun_mk (st:=qF) l35 c35 k35
 have F36:=fun_mk (st:=lu) l36 c36 k36
 have F37:=fun_mk (st:=iJ) l37 c37 k37
 have F38:=fun_mk (st:=uw) l38 c38 k38
 have F39:=fun_mk (st:=kj) l39 c39 k39
 have F40:=fun_mk (st:=iB) l40 c40 k40
 have F41:=fun_mk (st:=iz) l41 c41 k41
 have F42:=fun_mk (st:=nJ) l42 c42 k42
 have F43:=fun_mk (st:=pU) l43 c43 k43
 have F44:=fun_mk (st:=j_) l44 c44 k44
 have F45:=fun_mk (st:=eG) l45 c45 k45
 have F46:=fun_mk (st:=jz) l46 c46 k46
 have F47:=fun_mk (st:=nH) l47 c47 k47
 have F48:=fun_mk (st:=jw) l48 c48 k48
 have F49:=fun_mk (st:=lB) l49 c49 k49
 have F50:=fun_mk (st:=gP) l50 c50 k50
 have F51:=fun_mk (st:=jy) l51 c51 k51
 have F52:=fun_mk (st:=kh) l52 c52 k52
 have F53:=fun_mk (st:=jj) l53 c53 k53
 have F54:=fun_mk (st:=d8) l54 c54 k54
 have F55:=fun_mk (st:=tH) l55 c55 k55
 have b1:=F1.binds (ps:=["tree"]) fun _ _ _ _ _ _ us hl=>match us,hl with | [_],_=>rfl
 have m1:=PySem.W.mg_of X G a1
 have b2:=F2.binds (ps:=["tree"]) fun _ _ _ _ _ _ us hl=>match us,hl with | [_],_=>rfl
 have m2:=PySem.W.mg_of X G a2
 have b3:=F3.binds (ps:=["tree"]) fun _ _ _ _ _ _ us hl=>match us,hl with | [_],_=>rfl
 have m3:=PySem.W.mg_of X G a3
 have b4:=F4.binds (ps:=["row"]) fun _ _ _ _ _ _ us hl=>match us,hl with | [_],_=>rfl
 have m4:=PySem.W.mg_of X G a4
 have b5:=F5.binds (ps:=["row"]) fun _ _ _ _ _ _ us hl=>match us,hl with | [_],_=>rfl
 have m5:=PySem.W.mg_of X G a5
 have b6:=F6.binds (ps:=["tree","place"]) fun _ _ _ _ _ _ us hl=>match us,hl with | [_,_],_=>rfl
 have m6:=PySem.W.mg_of X G a6
 have b7:=F7.binds (ps:=["row"]) fun _ _ _ _ _ _ us hl=>match us,hl with | [_],_=>rfl
 have m7:=PySem.W.mg_of X G a7
 have b8:=F8.binds (ps:=["row","most"]) fun _ _ _ _ _ _ us hl=>match us,hl with | [_,_],_=>rfl
 have m8:=PySem.W.mg_of X G a8
 have b9:=F9.binds (ps:=["row"]) fun _ _ _ _ _ _ us hl=>match us,hl with | [_],_=>rfl
 have m9:=PySem.W.mg_of X G a9
 have b10:=F10.binds (ps:=["word"]) fun _ _ _ _ _ _ us hl=>match us,hl with | [_],_=>rfl
 have m10:=PySem.W.mg_of X G a10
 have b11:=F11.binds (ps:=["word"]) fun _ _ _ _ _ _ us hl=>match us,hl with | [_],_=>rfl
 have m11:=PySem.W.mg_of X G a11
 have b12:=F12.binds (ps:=["tree"]) fun _ _ _ _ _ _ us hl=>match us,hl with | [_],_=>rfl
 have m12:=PySem.W.mg_of X G a12
 have b13:=F13.binds (ps:=["sort"]) fun _ _ _ _ _ _ us hl=>match us,hl with | [_],_=>rfl
 have m13:=PySem.W.mg_of X G a13
 have b14:=F14.binds (ps:=["yes","no"]) fun _ _ _ _ _ _ us hl=>match us,hl with | [_,_],_=>rfl
 have m14:=PySem.W.mg_of X G a14
 have b15:=F15.binds (ps:=["body"]) fun _ _ _ _ _ _ us hl=>match us,hl with | [_],_=>rfl
 have m15:=PySem.W.mg_of X G a15
 have b16:=F16.binds (ps:=["names"]) fun _ _ _ _ _ _ us hl=>match us,hl with | [_],_=>rfl
 have m16:=PySem.W.mg_of X G a16
 have b17:=F17.binds (ps:=["text","tree"]) fun _ _ _ _ _ _ us hl=>match us,hl with | [_,_],_=>rfl
 have m17:=PySem.W.mg_of X G a17
 have b18:=F18.binds (ps:=["stand"]) fun _ _ _ _ _ _ us hl=>match us,hl with | [_],_=>rfl
 have m18:=PySem.W.mg_of X G a18
 have b19:=F19.binds (ps:=["stand"]) fun _ _ _ _ _ _ us hl=>match us,hl with | [_],_=>rfl
 have m19:=PySem.W.mg_of X G a19
 have b20:=F20.binds (ps:=["stand"]) fun _ _ _ _ _ _ us hl=>match us,hl with | [_],_=>rfl
 have m20:=PySem.W.mg_of X G a20
 have b21:=F21.binds (ps:=["sort","top"]) fun _ _ _ _ _ _ us hl=>match us,hl with | [_,_],_=>rfl
 have m21:=PySem.W.mg_of X G a21
 have b22:=F22.binds (ps:=["stack","count"]) fun _ _ _ _ _ _ us hl=>match us,hl with | [_,_],_=>rfl
 have m22:=PySem.W.mg_of X G a22
 have b23:=F23.binds (ps:=["step","load","stack"]) fun _ _ _ _ _ _ us hl=>match us,hl with | [_,_,_],_=>rfl
 have m23:=PySem.W.mg_of X G a23
 have b24:=F24.binds (ps:=["tally"]) fun _ _ _ _ _ _ us hl=>match us,hl with | [_],_=>rfl
 have m24:=PySem.W.mg_of X G a24
 have b25:=F25.binds (ps:=["text","tree","budget"]) fun _ _ _ _ _ _ us hl=>match us,hl with | [_,_,_],_=>rfl
 have m25:=PySem.W.mg_of X G a25
 have b26:=F26.binds (ps:=["text","tree","budget"]) fun _ _ _ _ _ _ us hl=>match us,hl with | [_,_,_],_=>rfl
 have m26:=PySem.W.mg_of X G a26
 have b27:=F27.binds (ps:=["stand","budget"]) fun _ _ _ _ _ _ us hl=>match us,hl with | [_,_],_=>rfl
 have m27:=PySem.W.mg_of X G a27
 have b28:=F28.binds (ps:=["stand","budget"]) fun _ _ _ _ _ _ us hl=>match us,hl with | [_,_],_=>rfl
 have m28:=PySem.W.mg_of X G a28
 have b29:=F29.binds (ps:=["step","load","stack"]) fun _ _ _ _ _ _ us hl=>match us,hl with | [_,_,_],_=>rfl
 have m29:=PySem.W.mg_of X G a29
 have b30:=F30.binds (ps:=[]) fun _ _ _ _ _ _ us hl=>match us,hl with | [],_=>rfl
 have m30:=PySem.W.mg_of X G a30
 have b31:=F31.binds (ps:=[]) fun _ _ _ _ _ _ us hl=>match us,hl with | [],_=>rfl
 have m31:=PySem.W.mg_of X G a31
 have b32:=F32.binds (ps:=[]) fun _ _ _ _ _ _ us hl=>match us,hl with | [],_=>rfl
 have m32:=PySem.W.mg_of X G a32
 have b33:=F33.binds (ps:=[]) fun _ _ _ _ _ _ us hl=>match us,hl with | [],_=>rfl
 have m33:=PySem.W.mg_of X G a33
 have b34:=F34.binds (ps:=[]) fun _ _ _ _ _ _ us hl=>match us,hl with | [],_=>rfl
 have m34:=PySem.W.mg_of X G a34
 have b35:=F35.binds (ps:=["sort"]) fun _ _ _ _ _ _ us hl=>match us,hl with | [_],_=>rfl
 have m35:=PySem.W.mg_of X G a35
 have b36:=F36.binds (ps:=[]) fun _ _ _ _ _ _ us hl=>match us,hl with | [],_=>rfl
 have m36:=PySem.W.mg_of X G a36
 have b37:=F37.binds (ps:=[]) fun _ _ _ _ _ _ us hl=>match us,hl with | [],_=>rfl
 have m37:=PySem.W.mg_of X G a37
 have b38:=F38.binds (ps:=["stand"]) fun _ _ _ _ _ _ us hl=>match us,hl with | [_],_=>rfl
 have m38:=PySem.W.mg_of X G a38
 have b39:=F39.binds (ps:=["_law_script"]) fun _ _ _ _ _ _ us hl=>match us,hl with | [_],_=>rfl
 have m39:=PySem.W.mg_of X G a39
 have b40:=F40.binds (ps:=["_law_deck_here","_law_many"]) fun _ _ _ _ _ _ us hl=>match us,hl with | [_,_],_=>rfl
 have m40:=PySem.W.mg_of X G a40
 have b41:=F41.binds (ps:=["_law_deck_here","_law_deep"]) fun _ _ _ _ _ _ us hl=>match us,hl with | [_,_],_=>rfl
 have m41:=PySem.W.mg_of X G a41
 have b42:=F42.binds (ps:=["_law_deck_here"]) fun _ _ _ _ _ _ us hl=>match us,hl with | [_],_=>rfl
 have m42:=PySem.W.mg_of X G a42
 have b43:=F43.binds (ps:=["_law_deck_here","_law_deep"]) fun _ _ _ _ _ _ us hl=>match us,hl with | [_,_],_=>rfl
 have m43:=PySem.W.mg_of X G a43
 have b44:=F44.binds (ps:=["_law_deck_here","_law_deep","_law_many"]) fun _ _ _ _ _ _ us hl=>match us,hl with | [_,_,_],_=>rfl
 have m44:=PySem.W.mg_of X G a44
 have b45:=F45.binds (ps:=["_law_tree_here"]) fun _ _ _ _ _ _ us hl=>match us,hl with | [_],_=>rfl
 have m45:=PySem.W.mg_of X G a45
 have b46:=F46.binds (ps:=["_law_tree_here"]) fun _ _ _ _ _ _ us hl=>match us,hl with | [_],_=>rfl
 have m46:=PySem.W.mg_of X G a46
 have b47:=F47.binds (ps:=["_law_stack_here","_law_sort_here"]) fun _ _ _ _ _ _ us hl=>match us,hl with | [_,_],_=>rfl
 have m47:=PySem.W.mg_of X G a47
 have b48:=F48.binds (ps:=["_law_stand"]) fun _ _ _ _ _ _ us hl=>match us,hl with | [_],_=>rfl
 have m48:=PySem.W.mg_of X G a48
 have b49:=F49.binds (ps:=["_law_sort_here","_law_load_here","_law_stack_here"]) fun _ _ _ _ _ _ us hl=>match us,hl with | [_,_,_],_=>rfl
 have m49:=PySem.W.mg_of X G a49
 have b50:=F50.binds (ps:=["_law_stand"]) fun _ _ _ _ _ _ us hl=>match us,hl with | [_],_=>rfl
 have m50:=PySem.W.mg_of X G a50
 have b51:=F51.binds (ps:=["_law_stand"]) fun _ _ _ _ _ _ us hl=>match us,hl with | [_],_=>rfl
 have m51:=PySem.W.mg_of X G a51
 have b52:=F52.binds (ps:=["_law_stand"]) fun _ _ _ _ _ _ us hl=>match us,hl with | [_],_=>rfl
 have m52:=PySem.W.mg_of X G a52
 have b53:=F53.binds (ps:=["_law_stand","_law_room_here"]) fun _ _ _ _ _ _ us hl=>match us,hl with | [_,_],_=>rfl
 have m53:=PySem.W.mg_of X G a53
 have b54:=F54.binds (ps:=["_law_stand","_law_due","_law_many"]) fun _ _ _ _ _ _ us hl=>match us,hl with | [_,_,_],_=>rfl
 have m54:=PySem.W.mg_of X G a54
 have cJ:=PySem.W.mg_none_of X G zG
 have dF:=PySem.W.mg_none_of X G aa0
 have dM:=PySem.W.mg_none_of X G QB
 have Kq:=PySem.W.mg_none_of X G aaZ
 have abI:=PySem.W.mg_none_of X G aaY
 have iQ:=PySem.W.mg_none_of X G Ey
 have eO:=PySem.W.mg_none_of X G QC
 have Vt:=PySem.W.mg_none_of X G aa1
 have Xj:=PySem.W.mg_none_of X G VD
 have fZ:=PySem.W.mg_of X G GF
 have mC:=PySem.W.mg_of X G OJ
 have Xm:=PySem.W.mg_of X G TY
 have xX:=PySem.W.mg_of X G T4
 have uF:=PySem.W.mg_of X G O_
 have Xn:=PySem.W.mg_of X G T3
 have O:Own K ao aD aG aL aM aK:=⟨⟨⟨Fw,Gi,Fv,Fj⟩,Gj,FJ,Fb,Fi,Gv,cn,ct⟩,⟨⟨Mv,NZ,Mq,Mj⟩,N7,Nf,Lq,Mi,Ou,cn,ct⟩,⟨Ru,Ss,Rp,Rg⟩,⟨Rw,SJ,Rr,Ri⟩,⟨Mw,N5,Mr,Ml⟩,⟨Rv,Sv,Rq,Rh⟩,vZ,tU,z_,yE,Cp,Cm,FW,Iz,Cq,Ck,Cu,z7,Aa,yF,yD,zZ,vY,Cr,iTF,iTL,iFF,iLF,iLL⟩
 have yw:=fun_mk (st:=g_) qP q_ qQ
 have rm:=yw.binds (ps:=["self","item","behind"]) fun _ _ _ _ _ _ us hl=>match us,hl with | [_,_,_],_=>rfl
 have GK:Mk K ao jC:=⟨FZ,iu,qR,Ge⟩
 have Bt:=fun_mk (st:=jk) tW ug tY
 have um:=Bt.binds (ps:=["self","tree","place"]) fun _ _ _ _ _ _ us hl=>match us,hl with | [_,_,_],_=>rfl
 have Pg:Mk K aD lF:=⟨Nj,jq,t_,Nv⟩
 have Cg:=fun_mk (st:=jK) uX vC u6
 have vI:=Cg.binds (ps:=["self","tree"]) fun _ _ _ _ _ _ us hl=>match us,hl with | [_,_],_=>rfl
 have T6:Mk K aG mZ:=⟨RM,jN,vh,R5⟩
 have yV:=fun_mk (st:=iW) rR rW nY
 have rY:=yV.binds (ps:=["self"]) fun _ _ _ _ _ _ us hl=>match us,hl with | [_],_=>rfl
 have rZ:Meth K aG "body_parts" jX:=⟨iZ,rT,nY⟩
 have Cj:=fun_mk (st:=jL) uZ vG vg
 have gD:=Cj.binds (ps:=["self","tree"]) fun _ _ _ _ _ _ us hl=>match us,hl with | [_,_],_=>rfl
 have uI:Mk K aL ni:=⟨RP,fJ,vo,R7⟩
 have Ew:=fun_mk (st:=kO) wj wH rO
 have wI:=Ew.binds (ps:=["self","place"]) fun _ _ _ _ _ _ us hl=>match us,hl with | [_,_],_=>rfl
 have wM:Meth K aL "word_at" oG:=⟨kY,wu,rO⟩
 have Bu:=fun_mk (st:=jl) tX uh tZ
 have gb:=Bu.binds (ps:=["self","text"]) fun _ _ _ _ _ _ us hl=>match us,hl with | [_,_],_=>rfl
 have rD:Mk K aM lG:=⟨Nk,eE,uc,Nx⟩
 have Ci:=fun_mk (st:=iK) uY vD vf
 have vJ:=Ci.binds (ps:=["self","stand","budget"]) fun _ _ _ _ _ _ us hl=>match us,hl with | [_,_,_],_=>rfl
 have T7:Mk K aK m_:=⟨RN,jO,vm,R6⟩
 have Ho:=fun_mk (st:=lY) yH yK tK
 have mF:=Ho.binds (ps:=["self"]) fun _ _ _ _ _ _ us hl=>match us,hl with | [_],_=>rfl
 have mH:Meth K aK "at_end" pN:=⟨gU,yI,tK⟩
 have Qy:=fun_mk (st:=rJ) Gd Gw za
 have pC:=Qy.binds (ps:=["self"]) fun _ _ _ _ _ _ us hl=>match us,hl with | [_],_=>rfl
 have pG:Meth K aK "top" vq:=⟨j7,Gf,za⟩
 have J5:=fun_mk (st:=oh) Af Az u9
 have iU:=J5.binds (ps:=["self"]) fun _ _ _ _ _ _ us hl=>match us,hl with | [_],_=>rfl
 have iV:Meth K aK "tally" qT:=⟨eN,Ah,u9⟩
 have J6:=fun_mk (st:=jA) Ag A_ u_
 have Bf:=J6.binds (ps:=["self"]) fun _ _ _ _ _ _ us hl=>match us,hl with | [_],_=>rfl
 have Bo:Meth K aK "stand" qU:=⟨oJ,Ai,u_⟩
 have Ln:=fun_mk (st:=pW) CJ Di wO
 have Dm:=Ln.binds (ps:=["self"]) fun _ _ _ _ _ _ us hl=>match us,hl with | [_],_=>rfl
 have Dy:Meth K aK "step" sV:=⟨qd,CN,wO⟩
 have Lp:=fun_mk (st:=pX) CK Dj wQ
 have Dn:=Lp.binds (ps:=["self","step","going","word"]) fun _ _ _ _ _ _ us hl=>match us,hl with | [_,_,_,_],_=>rfl
 have Dz:Meth K aK "move" sW:=⟨qe,CP,wQ⟩
 have Ad:=PySem.W.mg_of X G Aj
 have I_:=PySem.W.mg_of X G Jf
 have Nq:=PySem.W.mg_of X G N_
 have Nr:=PySem.W.mg_of X G Ob
 have RZ:=PySem.W.mg_of X G SN
 have Rn:=fun H=>QD.sq (H:=H) Kr
 have QK:∃ ob,K.lookup rQ=some ob∧ob.cls=.type "tuple"∧ob.dict=none:=⟨_,Kr,QF⟩
 have rM:=PySem.W.mg_of X G Gk
 have pL:=PySem.W.mg_of X G X6
 have eV:=PySem.W.mg_of X G SM
 have zB:=PySem.W.mg_of X G SQ
 have zu:=fun H=>QL.sq (H:=H) R4
 have pK:=PySem.W.mg_of X G X3
 have j4:=PySem.W.mg_of X G Gn
 have mY:=PySem.W.mg_of X G Jh
 have iR:=PySem.W.mg_of X G Ak
 have yZ:=PySem.W.mg_of X G abU
 have Ej:=PySem.W.mg_of X G X7
 have oF:=PySem.W.mg_of X G XQ
 have Eh:=PySem.W.mg_of X G XS
 have zE:=PySem.W.mg_of X G SX
 have Ei:=PySem.W.mg_of X G X4
 have Ef:=PySem.W.mg_of X G XR
 have tV:=PySem.W.mg_of X G Oa
 have Xo:=PySem.W.mg_of X G X5
 have mq:=PySem.W.mg_of X G yJ
 have Ja:=PySem.W.mg_of X G Jg
 have Gb:=PySem.W.mg_of X G Gm
 have wg:=PySem.W.mg_of X G wz
 have Np:=PySem.W.mg_of X G N8
 have qN:=fun H=>Lw.sq (H:=H) Nu
 have Cy:=PySem.W.mg_of X G CQ
 have Cz:=PySem.W.mg_of X G CV
 refine⟨PySem.W.fnOf "law" "law" (defArgs tH) (defBody tH) (defScope tH) .none ah9 aiA ahK ajr afa aiB,fun s v=>.of_eq rfl,fun base _ _=>?_⟩
 have O1:=aeK (P:=l.prog) (w:=w) (mg:=mg) (base:=base) F1
 have O2:=agr (P:=l.prog) (w:=w) (mg:=mg) (base:=base) F2
 have O3:=aeI (P:=l.prog) (w:=w) (mg:=mg) (base:=base) F3
 have O7:=WW (P:=l.prog) (w:=w) (mg:=mg) (base:=base) O cJ mC F7
 have O12:=ahW (P:=l.prog) (w:=w) (mg:=mg) (base:=base) F12
 have O13:=aeH (P:=l.prog) (w:=w) (mg:=mg) (base:=base) F13
 have O14:=agu (P:=l.prog) (w:=w) (mg:=mg) (base:=base) pL mX F14
 have O15:=ags (P:=l.prog) (w:=w) (mg:=mg) (base:=base) eV dU F15
 have O17:=aeM (P:=l.prog) (w:=w) (mg:=mg) (base:=base) F17
 have O18:=aeL (P:=l.prog) (w:=w) (mg:=mg) (base:=base) F18
 have O21:=Zq (P:=l.prog) (w:=w) (mg:=mg) (base:=base) O pL mX mY jB j4 iM eV dU Ad qH iR fX rM mW I_ xP F21
 have O22:=adh (P:=l.prog) (w:=w) (mg:=mg) (base:=base) dF F22
 have O24:=agv (P:=l.prog) (w:=w) (mg:=mg) (base:=base) abI tV oZ oF lC F24
 have O40:=W4 (P:=l.prog) (w:=w) (mg:=mg) (base:=base) dF F40
 have O45:=U7 (P:=l.prog) (w:=w) (mg:=mg) (base:=base) dF F45
 have O46:=U6 (P:=l.prog) (w:=w) (mg:=mg) (base:=base) dF F46
 have O47:=WY (P:=l.prog) (w:=w) (mg:=mg) (base:=base) dF F47
 have JV:=Hv (P:=l.prog) (w:=w) (mg:=mg) (base:=base) O yw
 have Pb:=KR (P:=l.prog) (w:=w) (mg:=mg) (base:=base) O Bt
 have Cd:=MN (P:=l.prog) (w:=w) (mg:=mg) (base:=base) O Cj
 have Bm:=KY (P:=l.prog) (w:=w) (mg:=mg) (base:=base) O Bu
 have Hl:=RG (P:=l.prog) (w:=w) (mg:=mg) (base:=base) O Ho
 have Qs:=Zt (P:=l.prog) (w:=w) (mg:=mg) (base:=base) O Qy
 have Bl:=U8 (P:=l.prog) (w:=w) (mg:=mg) (base:=base) O dM J5
 have O4:=Zr (P:=l.prog) (w:=w) (mg:=mg) (base:=base) O cJ F1 (O1.mono (by decide)) b1 m1 fZ mC F4
 have O8:=P0 (P:=l.prog) (w:=w) (mg:=mg) (base:=base) O cJ F7 (O7.mono (by decide)) b7 m7 fZ F8
 have O9:=abA (P:=l.prog) (w:=w) (mg:=mg) (base:=base) O cJ dM F7 (O7.mono (by decide)) b7 m7 fZ F9
 have O10:=abt (P:=l.prog) (w:=w) (mg:=mg) (base:=base) Kq dF rM mW F1 (O1.mono (by decide)) b1 m1 F10
 have O11:=abx (P:=l.prog) (w:=w) (mg:=mg) (base:=base) F2 (O2.mono (by decide)) b2 m2 F11
 have O16:=adg (P:=l.prog) (w:=w) (mg:=mg) (base:=base) dM RZ Rn F13 (O13.mono (by decide)) b13 m13 QK F16
 have O39:=W6 (P:=l.prog) (w:=w) (mg:=mg) (base:=base) eO dF F39
 have O48:=W0 (P:=l.prog) (w:=w) (mg:=mg) (base:=base) Kq dF F45 (O45.mono (by decide)) b45 m45 F48
 have O49:=U5 (P:=l.prog) (w:=w) (mg:=mg) (base:=base) F45 (O45.mono (by decide)) b45 m45 F49
 have O6:=aeJ (P:=l.prog) (w:=w) (mg:=mg) (base:=base) O dF mC Pg (Pb.mono (by decide)) um F6
 have O20:=abr (P:=l.prog) (w:=w) (mg:=mg) (base:=base) pK mV F1 (O1.mono (by decide)) b1 m1 F21 (O21.mono (by decide)) b21 m21 F10 (O10.mono (by decide)) b10 m10 F20
 have O23:=ade (P:=l.prog) (w:=w) (mg:=mg) (base:=base) yZ uQ Ej xR oF lC Eh xM zE uz Ei xO Ef xJ F2 (O2.mono (by decide)) b2 m2 F1 (O1.mono (by decide)) b1 m1 F23
 have O31:=abv (P:=l.prog) (w:=w) (mg:=mg) (base:=base) F12 (O12.mono (by decide)) b12 m12 F16 (O16.mono (by decide)) b16 m16 F31
 have O36:=U0 (P:=l.prog) (w:=w) (mg:=mg) (base:=base) eV dU mq jc Cy sI Cz sJ F16 (O16.mono (by decide)) b16 m16 F14 (O14.mono (by decide)) b14 m14 F36
 have O37:=MF (P:=l.prog) (w:=w) (mg:=mg) (base:=base) eV dU F16 (O16.mono (by decide)) b16 m16 F37
 have Le:=Ip (P:=l.prog) (w:=w) (mg:=mg) (base:=base) O F3 (O3.mono (by decide)) b3 m3 yV
 have Qt:=MK (P:=l.prog) (w:=w) (mg:=mg) (base:=base) O iQ Xj Nq zU uF xX rD (Bm.mono (by decide)) gb uI (Cd.mono (by decide)) gD Ci
 have YX:=U9 (P:=l.prog) (w:=w) (mg:=mg) (base:=base) O iQ dM F9 (O9.mono (by decide)) b9 m9 J6
 have O5:=abu (P:=l.prog) (w:=w) (mg:=mg) (base:=base) O cJ F6 (O6.mono (by decide)) b6 m6 fZ mC F5
 have O19:=abw (P:=l.prog) (w:=w) (mg:=mg) (base:=base) zB zu pK mV j4 iM mY jB iR fX F20 (O20.mono (by decide)) b20 m20 F22 (O22.mono (by decide)) b22 m22 F11 (O11.mono (by decide)) b11 m11 F2 (O2.mono (by decide)) b2 m2 F1 (O1.mono (by decide)) b1 m1 F23 (O23.mono (by decide)) b23 m23 F19
 have O35:=aby (P:=l.prog) (w:=w) (mg:=mg) (base:=base) yZ uQ Xo Ii pL mX mq jc Ja xQ Gb uR wg ou Np qN F16 (O16.mono (by decide)) b16 m16 F14 (O14.mono (by decide)) b14 m14 F35
 have O50:=RD (P:=l.prog) (w:=w) (mg:=mg) (base:=base) F48 (O48.mono (by decide)) b48 m48 F47 (O47.mono (by decide)) b47 m47 F45 (O45.mono (by decide)) b45 m45 F49 (O49.mono (by decide)) b49 m49 F50
 have O51:=U4 (P:=l.prog) (w:=w) (mg:=mg) (base:=base) F48 (O48.mono (by decide)) b48 m48 F46 (O46.mono (by decide)) b46 m46 F45 (O45.mono (by decide)) b45 m45 F51
 have O52:=W3 (P:=l.prog) (w:=w) (mg:=mg) (base:=base) F48 (O48.mono (by decide)) b48 m48 F46 (O46.mono (by decide)) b46 m46 F45 (O45.mono (by decide)) b45 m45 F52
 have Qq:=MJ (P:=l.prog) (w:=w) (mg:=mg) (base:=base) O pL mX eV dU F10 (O10.mono (by decide)) b10 m10 F11 (O11.mono (by decide)) b11 m11 F1 (O1.mono (by decide)) b1 m1 F2 (O2.mono (by decide)) b2 m2 xX uI (Cd.mono (by decide)) gD Cg
 have O41:=aeN (P:=l.prog) (w:=w) (mg:=mg) (base:=base) dM eO F40 (O40.mono (by decide)) b40 m40 F41 b41 m41 3
 have O34:=abz (P:=l.prog) (w:=w) (mg:=mg) (base:=base) eO iQ eV dU F14 (O14.mono (by decide)) b14 m14 F36 (O36.mono (by decide)) b36 m36 F37 (O37.mono (by decide)) b37 m37 F35 (O35.mono (by decide)) b35 m35 F16 (O16.mono (by decide)) b16 m16 F34
 have O29:=agq (P:=l.prog) (w:=w) (mg:=mg) (base:=base) O yZ uQ Ej xR oF lC Eh xM zE uz Ei xO Ef xJ F5 (O5.mono (by decide)) b5 m5 F4 (O4.mono (by decide)) b4 m4 fZ GK (JV.mono (by decide)) rm F29
 have O33:=abq (P:=l.prog) (w:=w) (mg:=mg) (base:=base) F16 (O16.mono (by decide)) b16 m16 F34 (O34.mono (by decide)) b34 m34 F14 (O14.mono (by decide)) b14 m14 F33
 have O42:=W5 (P:=l.prog) (w:=w) (mg:=mg) (base:=base) F40 (O40.mono (by decide)) b40 m40 F41 (O41.mono (by decide)) b41 m41 F42
 have T5:=Qa (P:=l.prog) (w:=w) (mg:=mg) (base:=base) O dF Xm T6 (Qq.mono (by decide)) vI Ew
 have O32:=WX (P:=l.prog) (w:=w) (mg:=mg) (base:=base) F15 (O15.mono (by decide)) b15 m15 F33 (O33.mono (by decide)) b33 m33 F16 (O16.mono (by decide)) b16 m16 F32
 have ZS:=Xa (P:=l.prog) (w:=w) (mg:=mg) (base:=base) O pK mV iR fX Nr zV j4 iM mY jB F29 (O29.mono (by decide)) b29 m29 uF rZ (Le.mono (by decide)) rY rD (Bm.mono (by decide)) gb Lp
 have O30:=U3 (P:=l.prog) (w:=w) (mg:=mg) (base:=base) F31 (O31.mono (by decide)) b31 m31 F32 (O32.mono (by decide)) b32 m32 F30
 have O38:=aeG (P:=l.prog) (w:=w) (mg:=mg) (base:=base) eV dU F1 (O1.mono (by decide)) b1 m1 F32 (O32.mono (by decide)) b32 m32 F10 (O10.mono (by decide)) b10 m10 F38
 have ZR:=W_ (P:=l.prog) (w:=w) (mg:=mg) (base:=base) O dF pK mV oF lC tV oZ zB zu F21 (O21.mono (by decide)) b21 m21 F8 (O8.mono (by decide)) b8 m8 wM (T5.mono (by decide)) wI pG (Qs.mono (by decide)) pC Dz (ZS.mono (by decide)) Dn Ln
 have O28:=adf (P:=l.prog) (w:=w) (mg:=mg) (base:=base) O Xn T7 (Qt.mono (by decide)) vJ Dy (ZR.mono (by decide)) Dm mH (Hl.mono (by decide)) mF F28
 have O25:=ahV (P:=l.prog) (w:=w) (mg:=mg) (base:=base) O F28 (O28.mono (by decide)) b28 m28 F17 (O17.mono (by decide)) b17 m17 F24 (O24.mono (by decide)) b24 m24 F9 (O9.mono (by decide)) b9 m9 iV (Bl.mono (by decide)) iU mH (Hl.mono (by decide)) mF pG (Qs.mono (by decide)) pC F25
 have O26:=Zo (P:=l.prog) (w:=w) (mg:=mg) (base:=base) O F28 (O28.mono (by decide)) b28 m28 F17 (O17.mono (by decide)) b17 m17 iV (Bl.mono (by decide)) iU F26
 have O27:=agt (P:=l.prog) (w:=w) (mg:=mg) (base:=base) O F28 (O28.mono (by decide)) b28 m28 iV (Bl.mono (by decide)) iU Bo (YX.mono (by decide)) Bf F27
 have O53:=P_ (P:=l.prog) (w:=w) (mg:=mg) (base:=base) F18 (O18.mono (by decide)) b18 m18 F51 (O51.mono (by decide)) b51 m51 F19 (O19.mono (by decide)) b19 m19 F38 (O38.mono (by decide)) b38 m38 F53
 have O43:=(adi (P:=l.prog) (w:=w) (mg:=mg) (base:=base) eO dM Vt F40 (O40.mono (by decide)) b40 m40 F41 (O41.mono (by decide)) b41 m41 F42 (O42.mono (by decide)) b42 m42 F43 b43 m43 F44 b44 m44 2 (by decide)).1
 have O54:=Hu (P:=l.prog) (w:=w) (mg:=mg) (base:=base) eO F53 (O53.mono (by decide)) b53 m53 F52 (O52.mono (by decide)) b52 m52 F50 (O50.mono (by decide)) b50 m50 F54
 have O44:=(adi (P:=l.prog) (w:=w) (mg:=mg) (base:=base) eO dM Vt F40 (O40.mono (by decide)) b40 m40 F41 (O41.mono (by decide)) b41 m41 F42 (O42.mono (by decide)) b42 m42 F43 b43 m43 F44 b44 m44 2 (by decide)).2
 exact ok_law (P:=l.prog) (w:=w) (mg:=mg) (base:=base) dM eO F39 (O39.mono (by decide)) b39 m39 F44 (O44.mono (by decide)) b44 m44 F41 (O41.mono (by decide)) b41 m41 F40 (O40.mono (by decide)) b40 m40 F30 (O30.mono (by decide)) b30 m30 F54 (O54.mono (by decide)) b54 m54 F50 (O50.mono (by decide)) b50 m50 F25 (O25.mono (by decide)) b25 m25 F45 (O45.mono (by decide)) b45 m45 F26 (O26.mono (by decide)) b26 m26 F27 (O27.mono (by decide)) b27 m27 F55
theorem walk {l:PySem.W.OpenLaw}{q:Program}{loose:List Str}{XP:(Str→Option Value)→Heap→Prop}{YP:World→Heap→Prop}{d:DefRec}{K:Params→PySem.W.Frag} (hn:l.most=some 63) (hdf:d.params.defaults=[])
  (hY:∀ (w:World) (h:Heap),YP w h→(K w.params).In h)
  (F:∀ (w:World) (mg:Str→Option Value) (fa:Addr) (h:Heap),(K w.params).In h→h.Ns mainGlobals mg→mg d.name=some (.ref fa) →
   ∃ fd:FuncData,(∀ (s:Shared) (u:Value),BindsTo s fd ⟨[u],[]⟩ [("_law_script",u)])∧∀ base:Heap,(K w.params).In base→base.Ns mainGlobals mg→FnOk l.prog w (K w.params) mg base CX0 60 fa fd ["_law_script"] (spLaw (K w.params))) :
  PySem.W.WalkO q loose XP YP l.row.toRowW d [] (fun f vs=>PySem.call f vs) :=
 L2.walk_of (n:=63) (k:=60) (x:="_law_script") (CX:=fun _=>CX0) (sp:=fun w=>spLaw (K w.params)) hn (by decide) hdf ⟨rfl,by decide,by decide⟩ hY F (fun _ _ a ns hl _ hS=>⟨a,ns,rfl,hS,hl,fun _=>rfl⟩) fun _ _ _ _ _ z=>z
theorem aeb {q:Program}{loose:List Str}{XP:(Str→Option Value)→Heap→Prop}{K:Params→PySem.W.Frag}{n t:Nat}{ad:List Addr}{r:PySem.W.RowW}{d:DefRec}{kwd:List (Str×Expr)}{run:Value→List Value→Sem Value}
  (h:PySem.W.WalkO q loose XP (fun w hp=>(K w.params).In hp) r d kwd run)
  (hI:∀ (w:World) (s₀ s₁:Shared) (args:List PySem.W.WData) (vals:List Value) (as:List Addr),PySem.W.X.obsZ ad s₀=PySem.W.X.valZ K n t w→PySem.W.Laid r.records w s₀ s₁ args vals as→(K w.params).In s₁.heap) :
  PySem.W.WalkX q loose XP (PySem.W.X.obsZ ad) (PySem.W.X.valZ K n t) r d kwd run :=
 fun w s₀ s₁ mg mb G y a o pm cd doc dV kV ho hd hcd hD hmg hg args vals as L hpre hlay hrd hwl hlo=>h w s₀ s₁ mg mb G (hI w s₀ s₁ args vals as y L) a o pm cd doc dV kV ho hd hcd hD hmg hg args vals as hpre hlay hrd hwl hlo
end fM
def PySem.W.Fast.tw5430203772799276406:Nat:=0
def PySem.W.Fast.tw2775632797227718170:Nat:=0
def PySem.W.Fast.tw8722269770223162277:Nat:=0
def PySem.W.Fast.tw281866652015061293:Nat:=0
def PySem.W.Fast.tw13040881890719999397:Nat:=0
def PySem.W.Fast.tw16547146094726041164:Nat:=0
def PySem.W.Fast.tw3724016560912100993:Nat:=0
def PySem.W.Fast.tw4677429985520964119:Nat:=0
def PySem.W.Fast.tw8485838890167982166:Nat:=0
def PySem.W.Fast.tw1135371915181629149:Nat:=0
def PySem.W.Fast.tw3528706562456433298:Nat:=0
def PySem.W.Fast.tw6352460673889611737:Nat:=0
def PySem.W.Fast.tw9090372944070590459:Nat:=0
def PySem.W.Fast.tw2509166127513404404:Nat:=0
def PySem.W.Fast.tw6150322555066264239:Nat:=0
def PySem.W.Fast.tw8185766112552507813:Nat:=0
def PySem.W.Fast.tw7128214592159214907:Nat:=0
def PySem.W.Fast.tw9098029028809794845:Nat:=0
def PySem.W.Fast.tw16598465255761379538:Nat:=0
def PySem.W.Fast.tw13399734334316055301:Nat:=0
def PySem.W.Fast.tw10428511102590078726:Nat:=0
def PySem.W.Fast.tw6978344482359169359:Nat:=0
def PySem.W.Fast.tw15083301090353836512:Nat:=0
def PySem.W.Fast.tw13274703067840445326:Nat:=0
def PySem.W.Fast.tw11619386162645296265:Nat:=0
def PySem.W.Fast.tw4314359180616960684:Nat:=0
def PySem.W.Fast.tw14094354236140328697:Nat:=0
def PySem.W.Fast.tw3599624976322137736:Nat:=0
def PySem.W.Fast.tw9827930898458924675:Nat:=0
def PySem.W.Fast.tw11626140618573002842:Nat:=0
def PySem.W.Fast.tw18138575998599110378:Nat:=0
def PySem.W.Fast.tw9667607792762369749:Nat:=0
def PySem.W.Fast.tw1176964611093164490:Nat:=0
def PySem.W.Fast.tw15414407738299742842:Nat:=0
def PySem.W.Fast.tw16723146118937017744:Nat:=0
def PySem.W.Fast.tw7508758455763923263:Nat:=0
def PySem.W.Fast.tw13180879184500915360:Nat:=0
def PySem.W.Fast.tw8391272652360806931:Nat:=0
def PySem.W.Fast.tw858816666857469246:Nat:=0
open PySem PySem.W PyProof.Rows
set_option maxRecDepth 100000 in
set_option maxHeartbeats 0 in
theorem PySem.Challenge.cw_selfword_k52_nothing_beneath_holds : PySem.Challenge.rw_selfword_k52_nothing_beneath.Holds := by
 w_on; o_law; z_head; (case hw=>w_witness2)
 k_fill
 refine fM.aeb (fM.walk (l:=PySem.Challenge.rw_selfword_k52_nothing_beneath) rfl rfl (fun w h Y=>Y) ?F) ?I
 case I =>
  intro w s₀ s₁ args vals as y L
  z_open y L KX ZH ZN ZT
  exact KX
 case F =>
  intro w mg fa h KX G hmg
  refine' fM.all_mk KX G hmg ?a1 ?l1 ?c1 ?k1 ?a2 ?l2 ?c2 ?k2 ?a3 ?l3 ?c3 ?k3 ?a4 ?l4 ?c4 ?k4 ?a5 ?l5 ?c5 ?k5 ?a6 ?l6 ?c6 ?k6 ?a7 ?l7 ?c7 ?k7 ?a8 ?l8 ?c8 ?k8 ?a9 ?l9 ?c9 ?k9 ?a10 ?l10 ?c10 ?k10 ?a11 ?l11 ?c11 ?k11 ?a12 ?l12 ?c12 ?k12 ?a13 ?l13 ?c13 ?k13 ?a14 ?l14 ?c14 ?k14 ?a15 ?l15 ?c15 ?k15 ?a16 ?l16 ?c16 ?k16 ?a17 ?l17 ?c17 ?k17 ?a18 ?l18 ?c18 ?k18 ?a19 ?l19 ?c19 ?k19 ?a20 ?l20 ?c20 ?k20 ?a21 ?l21 ?c21 ?k21 ?a22 ?l22 ?c22 ?k22 ?a23 ?l23 ?c23 ?k23 ?a24 ?l24 ?c24 ?k24 ?a25 ?l25 ?c25 ?k25 ?a26 ?l26 ?c26 ?k26 ?a27 ?l27 ?c27 ?k27 ?a28 ?l28 ?c28 ?k28 ?a29 ?l29 ?c29 ?k29 ?a30 ?l30 ?c30 ?k30 ?a31 ?l31 ?c31 ?k31 ?a32 ?l32 ?c32 ?k32 ?a33 ?l33 ?c33 ?k33 ?a34 ?l34 ?c34 ?k34 ?a35 ?l35 ?c35 ?k35 ?a36 ?l36 ?c36 ?k36 ?a37 ?l37 ?c37 ?k37 ?a38 ?l38 ?c38 ?k38 ?a39 ?l39 ?c39 ?k39 ?a40 ?l40 ?c40 ?k40 ?a41 ?l41 ?c41 ?k41 ?a42 ?l42 ?c42 ?k42 ?a43 ?l43 ?c43 ?k43 ?a44 ?l44 ?c44 ?k44 ?a45 ?l45 ?c45 ?k45 ?a46 ?l46 ?c46 ?k46 ?a47 ?l47 ?c47 ?k47 ?a48 ?l48 ?c48 ?k48 ?a49 ?l49 ?c49 ?k49 ?a50 ?l50 ?c50 ?k50 ?a51 ?l51 ?c51 ?k51 ?a52 ?l52 ?c52 ?k52 ?a53 ?l53 ?c53 ?k53 ?a54 ?l54 ?c54 ?k54 ?a55 ?l55 ?c55 ?k55 ?GF ?Fw ?Gi ?Fv ?Fj ?FZ ?Ge ?vZ ?tU ?OJ ?Mv ?NZ ?Mq ?Mj ?Nj ?Nv ?z_ ?yE ?TY ?Ru ?Ss ?Rp ?Rg ?RM ?R5 ?Cp ?Cm ?FW ?Iz ?Cq ?Ck ?T4 ?Rw ?SJ ?Rr ?Ri ?RP ?R7 ?Cu ?z7 ?O_ ?Mw ?N5 ?Mr ?Ml ?Nk ?Nx ?Aa ?yF ?T3 ?Rv ?Sv ?Rq ?Rh ?RN ?R6 ?yD ?zZ ?vY ?Cr ?Gj ?FJ ?Fb ?Fi ?Gv ?N7 ?Nf ?Lq ?Mi ?Ou ?cn ?ct ?iTF ?iTL ?iFF ?iLF ?iLL ?iu ?qR ?qP ?q_ ?qQ ?jq ?t_ ?tW ?ug ?tY ?jN ?vh ?uX ?vC ?u6 ?iZ ?rT ?rR ?rW ?nY ?fJ ?vo ?uZ ?vG ?vg ?kY ?wu ?wj ?wH ?rO ?eE ?uc ?tX ?uh ?tZ ?jO ?vm ?uY ?vD ?vf ?gU ?yI ?yH ?yK ?tK ?j7 ?Gf ?Gd ?Gw ?za ?eN ?Ah ?Af ?Az ?u9 ?oJ ?Ai ?Ag ?A_ ?u_ ?qd ?CN ?CJ ?Di ?wO ?qe ?CP ?CK ?Dj ?wQ ?Aj ?qH ?Jf ?xP ?N_ ?zU ?Ob ?zV ?SN ?Kr ?QD ?QF ?Gk ?mW ?X6 ?mX ?SM ?dU ?SQ ?R4 ?QL ?X3 ?mV ?Gn ?iM ?Jh ?jB ?Ak ?fX ?abU ?uQ ?X7 ?xR ?XQ ?lC ?XS ?xM ?SX ?uz ?X4 ?xO ?XR ?xJ ?Oa ?oZ ?X5 ?Ii ?yJ ?jc ?Jg ?xQ ?Gm ?uR ?wz ?ou ?N8 ?Nu ?Lw ?CQ ?sI ?CV ?sJ ?zG ?aa0 ?QB ?aaZ ?aaY ?Ey ?QC ?aa1 ?VD
  (case a1=>k_is); (case l1=>k_is); (case c1=>k_is); (case k1=>k_is)
  (case a2=>k_is); (case l2=>k_is); (case c2=>k_is); (case k2=>k_is)
  (case a3=>k_is); (case l3=>k_is); (case c3=>k_is); (case k3=>k_is)
  (case a4=>k_is); (case l4=>k_is); (case c4=>k_is); (case k4=>k_is)
  (case a5=>k_is); (case l5=>k_is); (case c5=>k_is); (case k5=>k_is)
  (case a6=>k_is); (case l6=>k_is); (case c6=>k_is); (case k6=>k_is)
  (case a7=>k_is); (case l7=>k_is); (case c7=>k_is); (case k7=>k_is)
  (case a8=>k_is); (case l8=>k_is); (case c8=>k_is); (case k8=>k_is)
  (case a9=>k_is); (case l9=>k_is); (case c9=>k_is); (case k9=>k_is)
  (case a10=>k_is); (case l10=>k_is); (case c10=>k_is); (case k10=>k_is)
  (case a11=>k_is); (case l11=>k_is); (case c11=>k_is); (case k11=>k_is)
  (case a12=>k_is); (case l12=>k_is); (case c12=>k_is); (case k12=>k_is)
  (case a13=>k_is); (case l13=>k_is); (case c13=>k_is); (case k13=>k_is)
  (case a14=>k_is); (case l14=>k_is); (case c14=>k_is); (case k14=>k_is)
  (case a15=>k_is); (case l15=>k_is); (case c15=>k_is); (case k15=>k_is)
  (case a16=>k_is); (case l16=>k_is); (case c16=>k_is); (case k16=>k_is)
  (case a17=>k_is); (case l17=>k_is); (case c17=>k_is); (case k17=>k_is)
  (case a18=>k_is); (case l18=>k_is); (case c18=>k_is); (case k18=>k_is)
  (case a19=>k_is); (case l19=>k_is); (case c19=>k_is); (case k19=>k_is)
  (case a20=>k_is); (case l20=>k_is); (case c20=>k_is); (case k20=>k_is)
  (case a21=>k_is); (case l21=>k_is); (case c21=>k_is); (case k21=>k_is)
  (case a22=>k_is); (case l22=>k_is); (case c22=>k_is); (case k22=>k_is)
  (case a23=>k_is); (case l23=>k_is); (case c23=>k_is); (case k23=>k_is)
  (case a24=>k_is); (case l24=>k_is); (case c24=>k_is); (case k24=>k_is)
  (case a25=>k_is); (case l25=>k_is); (case c25=>k_is); (case k25=>k_is)
  (case a26=>k_is); (case l26=>k_is); (case c26=>k_is); (case k26=>k_is)
  (case a27=>k_is); (case l27=>k_is); (case c27=>k_is); (case k27=>k_is)
  (case a28=>k_is); (case l28=>k_is); (case c28=>k_is); (case k28=>k_is)
  (case a29=>k_is); (case l29=>k_is); (case c29=>k_is); (case k29=>k_is)
  (case a30=>k_is); (case l30=>k_is); (case c30=>k_is); (case k30=>k_is)
  (case a31=>k_is); (case l31=>k_is); (case c31=>k_is); (case k31=>k_is)
  (case a32=>k_is); (case l32=>k_is); (case c32=>k_is); (case k32=>k_is)
  (case a33=>k_is); (case l33=>k_is); (case c33=>k_is); (case k33=>k_is)
  (case a34=>k_is); (case l34=>k_is); (case c34=>k_is); (case k34=>k_is)
  (case a35=>k_is); (case l35=>k_is); (case c35=>k_is); (case k35=>k_is)
  (case a36=>k_is); (case l36=>k_is); (case c36=>k_is); (case k36=>k_is)
  (case a37=>k_is); (case l37=>k_is); (case c37=>k_is); (case k37=>k_is)
  (case a38=>k_is); (case l38=>k_is); (case c38=>k_is); (case k38=>k_is)
  (case a39=>k_is); (case l39=>k_is); (case c39=>k_is); (case k39=>k_is)
  (case a40=>k_is); (case l40=>k_is); (case c40=>k_is); (case k40=>k_is)
  (case a41=>k_is); (case l41=>k_is); (case c41=>k_is); (case k41=>k_is)
  (case a42=>k_is); (case l42=>k_is); (case c42=>k_is); (case k42=>k_is)
  (case a43=>k_is); (case l43=>k_is); (case c43=>k_is); (case k43=>k_is)
  (case a44=>k_is); (case l44=>k_is); (case c44=>k_is); (case k44=>k_is)
  (case a45=>k_is); (case l45=>k_is); (case c45=>k_is); (case k45=>k_is)
  (case a46=>k_is); (case l46=>k_is); (case c46=>k_is); (case k46=>k_is)
  (case a47=>k_is); (case l47=>k_is); (case c47=>k_is); (case k47=>k_is)
  (case a48=>k_is); (case l48=>k_is); (case c48=>k_is); (case k48=>k_is)
  (case a49=>k_is); (case l49=>k_is); (case c49=>k_is); (case k49=>k_is)
  (case a50=>k_is); (case l50=>k_is); (case c50=>k_is); (case k50=>k_is)
  (case a51=>k_is); (case l51=>k_is); (case c51=>k_is); (case k51=>k_is)
  (case a52=>k_is); (case l52=>k_is); (case c52=>k_is); (case k52=>k_is)
  (case a53=>k_is); (case l53=>k_is); (case c53=>k_is); (case k53=>k_is)
  (case a54=>k_is); (case l54=>k_is); (case c54=>k_is); (case k54=>k_is)
  (case a55=>k_is); (case l55=>k_is); (case c55=>k_is); (case k55=>k_is)
  (case GF=>k_is)
  (case Fw=>k_is)
  (case Gi=>k_is)
  (case Fv=>k_is)
  (case Fj=>k_is)
  (case FZ=>k_is)
  (case Ge=>k_is)
  (case vZ=>k_is)
  (case tU=>k_is)
  (case OJ=>k_is)
  (case Mv=>k_is)
  (case NZ=>k_is)
  (case Mq=>k_is)
  (case Mj=>k_is)
  (case Nj=>k_is)
  (case Nv=>k_is)
  (case z_=>k_is)
  (case yE=>k_is)
  (case TY=>k_is)
  (case Ru=>k_is)
  (case Ss=>k_is)
  (case Rp=>k_is)
  (case Rg=>k_is)
  (case RM=>k_is)
  (case R5=>k_is)
  (case Cp=>k_is)
  (case Cm=>k_is)
  (case FW=>k_is)
  (case Iz=>k_is)
  (case Cq=>k_is)
  (case Ck=>k_is)
  (case T4=>k_is)
  (case Rw=>k_is)
  (case SJ=>k_is)
  (case Rr=>k_is)
  (case Ri=>k_is)
  (case RP=>k_is)
  (case R7=>k_is)
  (case Cu=>k_is)
  (case z7=>k_is)
  (case O_=>k_is)
  (case Mw=>k_is)
  (case N5=>k_is)
  (case Mr=>k_is)
  (case Ml=>k_is)
  (case Nk=>k_is)
  (case Nx=>k_is)
  (case Aa=>k_is)
  (case yF=>k_is)
  (case T3=>k_is)
  (case Rv=>k_is)
  (case Sv=>k_is)
  (case Rq=>k_is)
  (case Rh=>k_is)
  (case RN=>k_is)
  (case R6=>k_is)
  (case yD=>k_is)
  (case zZ=>k_is)
  (case vY=>k_is)
  (case Cr=>k_is)
  (case Gj=>k_is)
  (case FJ=>k_is)
  (case Fb=>k_is)
  (case Fi=>k_is)
  (case Gv=>k_is)
  (case N7=>k_is)
  (case Nf=>k_is)
  (case Lq=>k_is)
  (case Mi=>k_is)
  (case Ou=>k_is)
  (case cn=>k_is)
  (case ct=>k_is)
  (case iTF=>kit_is)
  (case iTL=>kit_is)
  (case iFF=>kit_is)
  (case iLF=>kit_is)
  (case iLL=>kit_is)
  (case iu=>k_is)
  (case qR=>k_is)
  (case qP=>k_is)
  (case q_=>k_is)
  (case qQ=>k_is)
  (case jq=>k_is)
  (case t_=>k_is)
  (case tW=>k_is)
  (case ug=>k_is)
  (case tY=>k_is)
  (case jN=>k_is)
  (case vh=>k_is)
  (case uX=>k_is)
  (case vC=>k_is)
  (case u6=>k_is)
  (case iZ=>k_is)
  (case rT=>k_is)
  (case rR=>k_is)
  (case rW=>k_is)
  (case nY=>k_is)
  (case fJ=>k_is)
  (case vo=>k_is)
  (case uZ=>k_is)
  (case vG=>k_is)
  (case vg=>k_is)
  (case kY=>k_is)
  (case wu=>k_is)
  (case wj=>k_is)
  (case wH=>k_is)
  (case rO=>k_is)
  (case eE=>k_is)
  (case uc=>k_is)
  (case tX=>k_is)
  (case uh=>k_is)
  (case tZ=>k_is)
  (case jO=>k_is)
  (case vm=>k_is)
  (case uY=>k_is)
  (case vD=>k_is)
  (case vf=>k_is)
  (case gU=>k_is)
  (case yI=>k_is)
  (case yH=>k_is)
  (case yK=>k_is)
  (case tK=>k_is)
  (case j7=>k_is)
  (case Gf=>k_is)
  (case Gd=>k_is)
  (case Gw=>k_is)
  (case za=>k_is)
  (case eN=>k_is)
  (case Ah=>k_is)
  (case Af=>k_is)
  (case Az=>k_is)
  (case u9=>k_is)
  (case oJ=>k_is)
  (case Ai=>k_is)
  (case Ag=>k_is)
  (case A_=>k_is)
  (case u_=>k_is)
  (case qd=>k_is)
  (case CN=>k_is)
  (case CJ=>k_is)
  (case Di=>k_is)
  (case wO=>k_is)
  (case qe=>k_is)
  (case CP=>k_is)
  (case CK=>k_is)
  (case Dj=>k_is)
  (case wQ=>k_is)
  (case Aj=>k_is)
  (case qH=>exact⟨_,rfl⟩)
  (case Jf=>k_is)
  (case xP=>exact⟨_,rfl⟩)
  (case N_=>k_is)
  (case zU=>exact⟨_,rfl⟩)
  (case Ob=>k_is)
  (case zV=>exact⟨_,rfl⟩)
  (case SN=>k_is)
  (case Kr=>k_is)
  (case QD=>exact⟨_,_,rfl,rfl,by decide,by repeat (first | exact .nil | refine .cons ⟨_,rfl⟩ ?_)⟩)
  (case QF=>exact⟨rfl,rfl⟩)
  (case Gk=>k_is)
  (case mW=>exact⟨_,rfl⟩)
  (case X6=>k_is)
  (case mX=>exact⟨_,rfl⟩)
  (case SM=>k_is)
  (case dU=>exact⟨_,rfl⟩)
  (case SQ=>k_is)
  (case R4=>k_is)
  (case QL=>exact⟨_,_,rfl,rfl,by decide,by repeat (first | exact .nil | refine .cons ⟨_,rfl⟩ ?_)⟩)
  (case X3=>k_is)
  (case mV=>exact⟨_,rfl⟩)
  (case Gn=>k_is)
  (case iM=>exact⟨_,rfl⟩)
  (case Jh=>k_is)
  (case jB=>exact⟨_,rfl⟩)
  (case Ak=>k_is)
  (case fX=>exact⟨_,rfl⟩)
  (case abU=>k_is)
  (case uQ=>exact⟨_,rfl⟩)
  (case X7=>k_is)
  (case xR=>exact⟨_,rfl⟩)
  (case XQ=>k_is)
  (case lC=>exact⟨_,rfl⟩)
  (case XS=>k_is)
  (case xM=>exact⟨_,rfl⟩)
  (case SX=>k_is)
  (case uz=>exact⟨_,rfl⟩)
  (case X4=>k_is)
  (case xO=>exact⟨_,rfl⟩)
  (case XR=>k_is)
  (case xJ=>exact⟨_,rfl⟩)
  (case Oa=>k_is)
  (case oZ=>exact⟨_,rfl⟩)
  (case X5=>k_is)
  (case Ii=>exact⟨_,rfl⟩)
  (case yJ=>k_is)
  (case jc=>exact⟨_,rfl⟩)
  (case Jg=>k_is)
  (case xQ=>exact⟨_,rfl⟩)
  (case Gm=>k_is)
  (case uR=>exact⟨_,rfl⟩)
  (case wz=>k_is)
  (case ou=>exact⟨_,rfl⟩)
  (case N8=>k_is)
  (case Nu=>k_is)
  (case Lw=>exact⟨_,_,rfl,rfl,by decide,by repeat (first | exact .nil | refine .cons ⟨_,rfl⟩ ?_)⟩)
  (case CQ=>k_is)
  (case sI=>exact⟨_,rfl⟩)
  (case CV=>k_is)
  (case sJ=>exact⟨_,rfl⟩)
  (case zG=>k_is)
  (case aa0=>k_is)
  (case QB=>k_is)
  (case aaZ=>k_is)
  (case aaY=>k_is)
  (case Ey=>k_is)
  (case QC=>k_is)
  (case aa1=>k_is)
  (case VD=>k_is)
#print axioms PySem.Challenge.cw_selfword_k52_nothing_beneath_holds
