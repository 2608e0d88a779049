import PyProof.Rows.All
import Wide.All
import OpenK.AllK
import Wide.FinOn
import PyProof.EqAt
import PyProof.EqKinds
import PyProof.TupleCall
import PySem.Challenge.RW_selfword_k74_knots_of_two
set_option Elab.async false
set_option linter.all false
set_option maxRecDepth 100000
namespace L2
open PySem PySem.Spec PyProof.Rows
abbrev Key:=Sum Int Str
def keyIs:Key→Value→Bool
 | .inl k,v=>Value.isInt k v
 | .inr x,v=>Value.isStrOf x v
def keyH (w:World):Key→Int
 | .inl k=>hashInt k
 | .inr x=>hashStr w x
theorem keyIs_shape:∀ {k:Key}{v:Value},keyIs k v=true→(∃ i t,k=Sum.inl i∧v=Value.int i t)∨(∃ x t,k=Sum.inr x∧v=Value.str x t)
 | .inl i,v,h=>by
  obtain⟨t,e⟩:=Value.isInt_shape (k:=i) (v:=v) h
  exact .inl ⟨i,t,rfl,e⟩
 | .inr x,v,h=>by
  obtain⟨t,e⟩:=Value.isStrOf_shape (x:=x) (v:=v) h
  exact .inr ⟨x,t,rfl,e⟩
theorem key_ll (a b:Int):decide ((Sum.inl a:Key)=Sum.inl b)=(a == b):=by
 by_cases e:a=b
 ·subst e; simp
 ·have h:¬ (Sum.inl a:Key)=Sum.inl b:=fun q=>e (Sum.inl.inj q)
  rw [decide_eq_false h]
  exact (beq_eq_false_iff_ne.mpr e).symm
theorem key_rr (a b:Str):decide ((Sum.inr a:Key)=Sum.inr b)=decide (a=b):=by
 by_cases e:a=b
 ·subst e; simp
 ·have h:¬ (Sum.inr a:Key)=Sum.inr b:=fun q=>e (Sum.inr.inj q)
  rw [decide_eq_false h,decide_eq_false e]
theorem key_lr (a:Int) (b:Str):decide ((Sum.inl a:Key)=Sum.inr b)=false:=decide_eq_false (fun q=>nomatch q)
theorem key_rl (a:Str) (b:Int):decide ((Sum.inr a:Key)=Sum.inl b)=false:=decide_eq_false (fun q=>nomatch q)
def mixKind (prog:Program) (w:World):PySem.KeyKind prog w Key where
 is:=keyIs
 hash:=keyH w
 inj:=fun v a b ha hb=>by
  rcases keyIs_shape ha with⟨i,t,rfl,rfl⟩ | ⟨x,t,rfl,rfl⟩
  ·rcases keyIs_shape hb with⟨j,u,rfl,e⟩ | ⟨y,u,rfl,e⟩
   ·injection e with e1 _; rw [e1]
   ·exact nomatch e
  ·rcases keyIs_shape hb with⟨j,u,rfl,e⟩ | ⟨y,u,rfl,e⟩
   ·exact nomatch e
   ·injection e with e1 _; rw [e1]
 byValue:=fun k v h=>by
  rcases keyIs_shape h with⟨i,t,rfl,rfl⟩ | ⟨x,t,rfl,rfl⟩ <;> rfl
 pyHash:=fun hv h=>by
  rcases keyIs_shape hv with⟨i,t,rfl,rfl⟩ | ⟨x,t,rfl,rfl⟩
  ·exact wpAny_pyHash_int h
  ·exact wpAny_pyHash_str h
 eqBool:=fun hu hv h=>by
  rcases keyIs_shape hu with⟨i,t,rfl,rfl⟩ | ⟨x,t,rfl,rfl⟩
  ·rcases keyIs_shape hv with⟨j,u,rfl,rfl⟩ | ⟨y,u,rfl,rfl⟩
   ·rw [key_ll] at h; exact wpAny_eqBool_int h
   ·rw [key_lr] at h; exact SeqAt.EqAt.int_str i t y u _ _ _ _ h
  ·rcases keyIs_shape hv with⟨j,u,rfl,rfl⟩ | ⟨y,u,rfl,rfl⟩
   ·rw [key_rl] at h; exact SeqAt.EqAt.str_int x t j u _ _ _ _ h
   ·rw [key_rr] at h; exact wpAny_eqBool_str h
 «strs»:=fun k x t v h=>by
  rcases keyIs_shape h with⟨i,u,rfl,e⟩ | ⟨y,u,rfl,e⟩
  ·exact nomatch e
  ·injection e with e1 _
   subst e1
   cases v <;> rfl
end L2
namespace L2
open PySem PySem.Spec PyProof.Rows
inductive V where
 | non | bl (b:Bool) | int (i:Int) | str (x:Str) | byt (b:Array UInt8) | flt (b:UInt64) | ref (a:Addr) | ty (n:String)
 deriving DecidableEq
def RelV:V→Value→Prop
 | .non,u=>u=Value.none
 | .bl b,u=>u=Value.bool b
 | .int i,u=>∃ t,u=Value.int i t
 | .str x,u=>∃ t,u=Value.str x t
 | .byt b,u=>∃ t,u=Value.bytes b t
 | .flt b,u=>∃ t,u=Value.float b t
 | .ref a,u=>u=Value.ref a
 | .ty n,u=>u=Value.type n
abbrev Vals:List V→List Value→Prop:=Paired RelV
theorem Vals.length {xs:List V}{us:List Value} (r:Vals xs us):xs.length=us.length:=Paired.length r
theorem Vals.get:∀ {xs:List V}{us:List Value}{i:Nat}{x:V},Vals xs us→xs[i]?=some x→∃ u,us[i]?=some u∧RelV x u
 | _,_,_,_,.nil,e=>by simp at e
 | _,_,0,_,.cons r _,e=>by simp at e; subst e; exact⟨_,rfl,r⟩
 | _,_,i+1,x,.cons _ t,e=>by
  obtain⟨u,h1,h2⟩:=Vals.get (i:=i) (x:=x) t (by simpa using e)
  exact⟨u,by simpa using h1,h2⟩
theorem Vals.set {x:V}{u:Value} (r:RelV x u):∀ {xs:List V}{us:List Value} (i:Nat),Vals xs us→Vals (xs.set i x) (us.set i u)
 | _,_,_,.nil=>.nil
 | _,_,0,.cons _ t=>.cons r t
 | _,_,i+1,.cons q t=>.cons q (Vals.set r i t)
theorem Vals.append:∀ {xs ys:List V}{us ws:List Value},Vals xs us→Vals ys ws→Vals (xs++ys) (us++ws)
 | _,_,_,_,.nil,s=>s
 | _,_,_,_,.cons r t,s=>.cons r (Vals.append t s)
theorem Vals.take:∀ {xs:List V}{us:List Value} (n:Nat),Vals xs us→Vals (xs.take n) (us.take n)
 | _,_,0,_=>.nil
 | _,_,_+1,.nil=>.nil
 | _,_,n+1,.cons r t=>.cons r (Vals.take n t)
theorem Vals.drop:∀ {xs:List V}{us:List Value} (n:Nat),Vals xs us→Vals (xs.drop n) (us.drop n)
 | _,_,0,r=>r
 | _,_,_+1,.nil=>.nil
 | _,_,n+1,.cons _ t=>Vals.drop n t
def RelO:Option V→Option Value→Prop
 | some v,some u=>RelV v u
 | none,none=>True
 | _,_=>False
def KV {κ:Type}:List (κ×V)→List (κ×Value)→Prop:=Paired fun (p:κ×V) (q:κ×Value)=>p.1=q.1∧RelV p.2 q.2
def kV:Key→V
 | .inl i=>.int i
 | .inr x=>.str x
inductive HO where
 | lst (xs:List V)
 | tup (xs:List V)
 | dK (kvs:List (Key×V)) | dT (kvs:List (List Key×V))
 | set (S:Int→Bool) (n:Nat)
 | ins (C dx:Addr) (fs:List (Str×V))
 | own (x:Addr)
 | xd (fs:List (Str×V))
 | met (f x:Addr)
 | rng (lo hi:Int)
 | frz (o:Obj) (u:HO)
 | tbl (ps:Array Value)
 | ext (φ:Heap→Prop)
abbrev Hp:=Addr→Option HO
def upd (H:Hp) (a:Addr) (o:HO):Hp:=fun b=>if b=a then some o else H b
theorem upd_same {H:Hp}{a:Addr}{o:HO}:upd H a o a=some o:=by unfold upd; rw [if_pos rfl]
theorem upd_ne {H:Hp}{a b:Addr}{o:HO} (h:b≠a):upd H a o b=H b:=by unfold upd; rw [if_neg h]
theorem Qm {H:Hp}{a:Addr}{o u:HO}:upd (upd H a o) a u=upd H a u:=by
 funext b; unfold upd; split <;> rfl
theorem ne_of {H:Hp}{a b:Addr}{o u:HO} (h:H a=some o) (h':H b=some u) (d:o≠u):a≠b:=by
 intro e; subst e; rw [h] at h'; exact d (Option.some.inj h')
theorem ne_of_none {H:Hp}{a b:Addr}{o:HO} (h:H a=some o) (h':H b=none):a≠b:=by
 intro e; subst e; rw [h] at h'; cases h'
section
variable (P:Program) (w:World)
def ObjOk (H:Hp) (h:Heap) (a:Addr):HO→Prop
 | .lst xs=>xs.length≤sizeLine∧∃ (its:List Value) (n:Nat),Vals xs its∧h.get? a=some { cls:=.type "list",data:=.seq its.toArray n }
 | .tup xs=>xs.length≤sizeLine∧∃ its:List Value,Vals xs its∧IsTup h a its.toArray
 | .dK kvs=>kvs.length≤sizeLine∧(a == sysModules)=false∧∃ vs,KV kvs vs∧h.DictOf (mixKind P w) a vs
 | .dT kvs=>kvs.length≤sizeLine∧(a == sysModules)=false∧∃ xs:List (List Key×Addr×Value),
   Paired (fun (p:List Key×V) (q:List Key×Addr×Value)=>p.1=q.1∧H q.2.1=some (.tup (p.1.map kV))∧RelV p.2 q.2.2) kvs xs ∧
   ∃ o es ep,h.get? a=some o∧o.ExactDict∧o.data=.dict es ep∧es.toList=xs.map (entryOfKey (tupleKind (mixKind P w)))∧(xs.map (·.1)).Nodup
 | .set S n=>h.SetOf (intKind P w) a S n
 | .ins C dx fs=>H dx=some (.own a)∧fs.length≤1000∧dx≠a∧h.get? a=some (PySem.W.instObj C dx) ∧
   ∃ mA,h.Ns1 dx mA∧(∀ f,RelO (fs.lookup f) (mA f))∧PySem.Within mA (fs.map (·.1))
 | .own _=>∃ o,h.get? a=some o
 | .xd fs=>∃ mA,h.Ns1 a mA∧∀ f,RelO (fs.lookup f) (mA f)
 | .rng lo hi=>∃ t u v,h.get? a=some { cls:=.type "range",data:=.fields #[.int lo t,.int hi u,.int 1 v] }
 | .frz o u=>h.get? a=some o∧ObjOk H h a u
 | .tbl ps=>h.get? a=some { cls:=.none,data:=.fields ps }
 | .met f x=>h.get? a=some (PySem.W.methodObj (.ref f) (.ref x))
 | .ext φ=>φ h∧(∃ o,h.get? a=some o)∧∀ h1 h2:Heap,φ h1→(∀ o,h1.get? a=some o→h2.get? a=some o)→φ h2
def HOk (H:Hp) (h:Heap):Prop:=∀ a o,H a=some o→ObjOk P w H h a o
end
section
variable {P:Program}{w:World}{H H':Hp}{h h':Heap}{a:Addr}{o:HO}
theorem ObjOk.lt (x:ObjOk P w H h a o):a<h.objs.size:=by
 cases o with
 | lst xs=>obtain⟨_,_,_,_,e⟩:=x; exact Heap.lt_size e
 | tup xs=>obtain⟨_,_,_,p⟩:=x; exact p.lt
 | dK kvs=>obtain⟨_,_,_,_,o,_,_,e,_⟩:=x; exact Heap.lt_size e
 | dT kvs=>obtain⟨_,_,_,_,o,_,_,e,_⟩:=x; exact Heap.lt_size e
 | set S n=>obtain⟨o,_,_,_,e,_⟩:=x; exact Heap.lt_size e
 | ins C dx fs=>obtain⟨_,_,_,e,_⟩:=x; exact Heap.lt_size e
 | own y=>obtain⟨_,e⟩:=x; exact Heap.lt_size e
 | xd fs=>obtain⟨_,⟨_,_,_,e,_⟩,_⟩:=x; exact Heap.lt_size e
 | rng lo hi=>obtain⟨_,_,_,e⟩:=x; exact Heap.lt_size e
 | frz ob u=>obtain⟨e,_⟩:=x; exact Heap.lt_size e
 | tbl ps=>exact Heap.lt_size (show h.get? a=some _ from x)
 | met f y=>exact Heap.lt_size (show h.get? a=some _ from x)
 | ext φ=>obtain⟨_,⟨_,e⟩,_⟩:=x; exact Heap.lt_size e
theorem Paired.mapP {α β:Type}{F G:α→β→Prop}:∀ {l₁:List α}{l₂:List β},Paired F l₁ l₂→(∀ a b,F a b→G a b)→Paired G l₁ l₂
 | _,_,.nil,_=>.nil
 | _,_,.cons r t,f=>.cons (f _ _ r) (Paired.mapP t f)
theorem ObjOk.stay (x:ObjOk P w H h a o) (k:∀ b u,(b=a∨H b=some (.own a))→h.get? b=some u→h'.get? b=some u)
  (ho:∀ b,H b=some (.own a)→H' b=some (.own a)) (ht:∀ b xs,H b=some (.tup xs)→H' b=some (.tup xs)):ObjOk P w H' h' a o:=by
 induction o with
 | lst xs=>obtain⟨z,its,n,r,e⟩:=x; exact⟨z,its,n,r,k _ _ (.inl rfl) e⟩
 | tup xs=>obtain⟨z,its,r,ob,e,c⟩:=x; exact⟨z,its,r,ob,k _ _ (.inl rfl) e,c⟩
 | dK kvs=>obtain⟨z,y,vs,r,ob,es,ep,e,c⟩:=x; exact⟨z,y,vs,r,ob,es,ep,k _ _ (.inl rfl) e,c⟩
 | dT kvs =>
  obtain⟨z,y,xs,r,ob,es,ep,e,c⟩:=x
  exact⟨z,y,xs,Paired.mapP r fun p q z=>⟨z.1,ht _ _ z.2.1,z.2.2⟩,ob,es,ep,k _ _ (.inl rfl) e,c⟩
 | set S n=>obtain⟨ob,es,ep,t,e,c⟩:=x; exact⟨ob,es,ep,t,k _ _ (.inl rfl) e,c⟩
 | ins C dx fs =>
  obtain⟨d,z,ne,e,mA,⟨od,es,ep,e2,c⟩,r⟩:=x
  exact⟨ho _ d,z,ne,k _ _ (.inl rfl) e,mA,⟨od,es,ep,k _ _ (.inr d) e2,c⟩,r⟩
 | own y=>obtain⟨ob,e⟩:=x; exact⟨ob,k _ _ (.inl rfl) e⟩
 | xd fs=>obtain⟨mA,⟨od,es,ep,e,c⟩,r⟩:=x; exact⟨mA,⟨od,es,ep,k _ _ (.inl rfl) e,c⟩,r⟩
 | rng lo hi=>obtain⟨t,u,v,e⟩:=x; exact⟨t,u,v,k _ _ (.inl rfl) e⟩
 | frz ob u ih=>obtain⟨e,q⟩:=x; exact⟨k _ _ (.inl rfl) e,ih q⟩
 | tbl ps =>
  have e:h.get? a=some { cls:=.none,data:=.fields ps }:=x
  show h'.get? a=some { cls:=.none,data:=.fields ps }
  exact k a _ (.inl rfl) e
 | met f y =>
  have e:h.get? a=some (PySem.W.methodObj (.ref f) (.ref y)):=x
  show h'.get? a=some (PySem.W.methodObj (.ref f) (.ref y))
  exact k a _ (.inl rfl) e
 | ext φ=>obtain⟨p,⟨o,e⟩,st⟩:=x; exact⟨st _ _ p fun o q=>k _ _ (.inl rfl) q,⟨o,k _ _ (.inl rfl) e⟩,st⟩
theorem HOk.lt (x:HOk P w H h) (e:H a=some o):a<h.objs.size:=(x a o e).lt
theorem HOk.fresh (x:HOk P w H h) (e:h.objs.size≤a):H a=none:=by
 cases q:H a with
 | none=>rfl
 | some u=>exact absurd (Nat.lt_of_lt_of_le (x.lt q) e) (Nat.lt_irrefl _)
theorem HOk.kept (x:HOk P w H h) (k:∀ b u,h.get? b=some u→h'.get? b=some u):HOk P w H h':=fun a o e =>
 (x a o e).stay (fun b u _ q=>k b u q) (fun _ q=>q) fun _ _ q=>q
theorem HOk.laid (x:HOk P w H h) (k:∀ b u,h.get? b=some u→h'.get? b=some u) (hp:h.objs.size≤a) (new:ObjOk P w (upd H a o) h' a o):HOk P w (upd H a o) h':=fun b u e=>by
 have hn:=x.fresh hp
 by_cases hb:b=a
 ·subst hb; rw [upd_same] at e; cases e; exact new
 ·rw [upd_ne hb] at e
  exact (x b u e).stay (fun c v _ q=>k c v q) (fun c q=>by rw [upd_ne (ne_of_none q hn)]; exact q) fun c xs q=>by rw [upd_ne (ne_of_none q hn)]; exact q
end
def Rd (H:Hp) (a:Addr) (u:HO):Prop:=H a=some u∨∃ o,H a=some (.frz o u)
theorem Rd.ok {P:Program}{w:World}{H:Hp}{h:Heap}{a:Addr}{u:HO} (r:Rd H a u) (x:HOk P w H h):ObjOk P w H h a u:=by
 rcases r with r | ⟨o,r⟩
 ·exact x a u r
 ·obtain⟨_,q⟩:=x a _ r
  exact q
def Mut:Option HO→Prop
 | some (.lst _)=>True
 | some (.dK _)=>True
 | some (.dT _)=>True
 | some (.set _ _)=>True
 | some (.ins _ _ _)=>True
 | some (.ext _)=>True
 | _=>False
section
variable {P:Program}{w:World}{H:Hp}{h h':Heap}{x e:Addr}{o':HO}
theorem HOk.write (ok:HOk P w H h) (mu:Mut (H x)) (he:e=x∨H e=some (.own x)) (k:∀ b u,b≠e→h.get? b=some u→h'.get? b=some u) (heo:∃ u,h'.get? e=some u)
  (new:ObjOk P w (upd H x o') h' x o'):HOk P w (upd H x o') h':=fun b u q=>by
 have nown:∀ c y,H c=some (.own y)→c≠x:=fun c y r z=>by subst z; rw [r] at mu; exact mu
 have ntup:∀ c xs,H c=some (.tup xs)→c≠x:=fun c xs r z=>by subst z; rw [r] at mu; exact mu
 by_cases hb:b=x
 ·subst hb; rw [upd_same] at q; cases q; exact new
 ·rw [upd_ne hb] at q
  by_cases hbe:b=e
  ·have q':H b=some (.own x):=by
    rcases he with z | z
    ·exact absurd (hbe.trans z) hb
    ·rw [hbe]; exact z
   rw [q] at q'; cases q'
   obtain⟨v,hv⟩:=heo
   exact⟨v,by rw [hbe]; exact hv⟩
  ·refine (ok b u q).stay (fun c v hc r=>k c v ?_ r) (fun c r=>by rw [upd_ne (nown c b r)]; exact r) fun c xs r=>by rw [upd_ne (ntup c xs r)]; exact r
   rcases hc with rfl | hc
   ·exact hbe
   ·rintro rfl
    rcases he with z | z
    ·exact nown c b hc z
    ·rw [hc] at z; cases z; exact hb rfl
end
structure Un (fs ex:List Addr) (H H':Hp) (h h':Heap):Prop where
 keep:∀ b o,h.get? b=some o→H b=none→b ∉ fs→b ∉ ex→h'.get? b=some o
 slot:∀ b o,h.get? b=some o→H b=none→b∈fs→b ∉ ex→∃ sl,h'.get? b=some { o with slots:=sl }
 free:∀ b o,h.get? b=some o→H b=none→b ∉ ex→H' b=none
 there:∀ b o,h.get? b=some o→b ∉ ex→∃ o',h'.get? b=some o'
 tups:∀ b xs,H b=some (.tup xs)→H' b=some (.tup xs)
 frzs:∀ b o u,H b=some (.frz o u)→H' b=some (.frz o u)
 tbls:∀ b ps,H b=some (.tbl ps)→∃ more,H' b=some (.tbl (ps++more))
section
variable {fs fs' ex ex':List Addr}{H H1 H2:Hp}{h h1 h2 h':Heap}{a x e:Addr}{o:HO}
theorem Un.any (u:Un fs ex H H1 h h1) {b:Addr}{ob:Obj} (q:h.get? b=some ob) (n:H b=none) (hx:b ∉ ex):∃ sl,h1.get? b=some { ob with slots:=sl }:=by
 by_cases hb:b∈fs
 ·exact u.slot b ob q n hb hx
 ·exact⟨ob.slots,u.keep b ob q n hb hx⟩
theorem Un.kept (k:∀ b u,h.get? b=some u→h'.get? b=some u):Un fs ex H H h h' :=
 ⟨fun b ob q _ _ _=>k b ob q,fun b ob q _ _ _=>⟨ob.slots,k b ob q⟩,fun _ _ _ n _=>n,fun b ob q _=>⟨ob,k b ob q⟩,fun _ _ q=>q,fun _ _ _ q=>q,fun _ ps q=>⟨#[],by rw [q]; simp⟩⟩
theorem Un.refl:Un fs ex H H h h:=Un.kept fun _ _ q=>q
theorem Un.laid (k:∀ b u,h.get? b=some u→h'.get? b=some u) (hp:h.objs.size≤a) (hn:H a=none):Un fs ex H (upd H a o) h h' where
 keep:=fun b u q _ _ _=>k b u q
 slot:=fun b u q _ _ _=>⟨u.slots,k b u q⟩
 free:=fun b u q n _=>by rw [upd_ne (Nat.ne_of_lt (Nat.lt_of_lt_of_le (Heap.lt_size q) hp))]; exact n
 there:=fun b u q _=>⟨u,k b u q⟩
 tups:=fun b xs q=>by rw [upd_ne (ne_of_none q hn)]; exact q
 frzs:=fun b u xs q=>by rw [upd_ne (ne_of_none q hn)]; exact q
 tbls:=fun b ps q=>⟨#[],by rw [upd_ne (ne_of_none q hn),q]; simp⟩
theorem Un.write (mu:Mut (H x)) (he:e=x∨H e=some (.own x)) (k:∀ b u,b≠e→h.get? b=some u→h'.get? b=some u) (heo:∃ u,h'.get? e=some u):Un fs ex H (upd H x o) h h':=by
 have hx:∀ b,H b=none→b≠x:=fun b n z=>by subst z; rw [n] at mu; exact mu
 have hb:∀ b,H b=none→b≠e:=fun b n z=>by
  subst z
  rcases he with r | r
  ·exact hx b n r
  ·rw [n] at r; cases r
 have hm:∀ b u,H b=some u→¬ Mut (some u)→b≠x:=fun b u q nm z=>by subst z; rw [q] at mu; exact nm mu
 refine⟨fun b u q n _ _=>k b u (hb b n) q,fun b u q n _ _=>⟨u.slots,k b u (hb b n) q⟩,fun b u q n _=>by rw [upd_ne (hx b n)]; exact n,fun b u q _=>?_,
  fun b xs q=>by rw [upd_ne (hm b _ q fun z=>z)]; exact q,fun b u xs q=>by rw [upd_ne (hm b _ q fun z=>z)]; exact q,fun b ps q=>⟨#[],by rw [upd_ne (hm b _ q fun z=>z),q]; simp⟩⟩
 by_cases hbe:b=e
 ·subst hbe; exact heo
 ·exact⟨u,k b u hbe q⟩
end
def trk (h:Heap) (H:Hp):List Addr:=(List.range h.objs.size).filter fun a=>(H a).isSome
def hidT (h:Heap) (H:Hp):Heap:=PySem.W.hideAll h (trk h H)
theorem hidT_size (h:Heap) (H:Hp):(hidT h H).objs.size=h.objs.size:=PySem.W.hideAll_size _ _
theorem hidT_get {h:Heap}{H:Hp}{b:Addr}{o:Obj} (e:h.get? b=some o) (n:H b=none):(hidT h H).get? b=some o :=
 PySem.W.hideAll_get _ e fun hm=>by
  have q:(H b).isSome=true:=(List.mem_filter.mp hm).2
  rw [n] at q; simp at q
theorem of_hidT {h:Heap}{H:Hp}{b:Addr}{o:Obj} (e:(hidT h H).get? b=some o):h.get? b=some o∧H b=none:=by
 have e':h.get? b=some o:=PySem.W.of_hideAll (trk h H) e
 refine⟨e',?_⟩
 cases q:H b with
 | none=>rfl
 | some x =>
  have hm:b∈trk h H:=List.mem_filter.mpr ⟨List.mem_range.mpr (Heap.lt_size e'),by simp [q]⟩
  have z:(hidT h H).get? b=none:=PySem.W.hideAll_none (trk h H) hm
  rw [z] at e; cases e
end L2
namespace L2
open PySem PySem.Spec PyProof.Rows
structure Mod (K:PySem.W.Frag) (mg:Str→Option Value) (base:Heap):Prop where
 kin:K.In base
 glob:base.Ns mainGlobals mg
 blt:∃ mb,base.Ns builtinsNs mb∧∀ x:Str,x≠"__name__"→mb x=bootBuiltins x
 nolimit:base.NoLimit
structure Cx where
 prog:Program
 w:World
 K:PySem.W.Frag
 mg:Str→Option Value
 base:Heap
 A:Around
 N:List Str
 s₀:Shared
 H₀:Hp
 env:Env
 outer:List Env
 stack:List Env
 ex:List Addr
 fn:Str→Bool
 calm:Bool
 pn:List (Addr×Obj)
 xe:Value→Shared→Prop
def frs (l:List Env):List Addr:=l.filterMap (·.frame)
abbrev Cx.fs (X:Cx):List Addr:=frs X.outer
def Vis (sc:Scope) (x:Str):Prop:=sc.names.lookup x=some .local∨sc.names.lookup x=some .cell∨sc.names.lookup x=some .free
def Loc (sc:Scope) (x:Str):Prop:=sc.names.lookup x=some .local∨sc.names.lookup x=some .cell
def Look (env:Env) (h:Heap) (m:Str→Option Value) (x:Str) (u:Value):Prop :=
 (env.kindOf x=some .local∧m x=some u)∨((env.kindOf x=some .cell∨env.kindOf x=some .free)∧∃ c,env.cells.lookup x=some c∧h.IsCell c (some u))
structure Cx.Ok (X:Cx):Prop where
 mod:Mod X.K X.mg X.base
 kind:X.env.scope.kind=.function
 glob:X.env.globals=mainGlobals
 blt:X.env.builtins=builtinsNs
 above:X.s₀.heap.objs.size≤X.env.locals
 inj:∀ x y c,X.env.cells.lookup x=some c→X.env.cells.lookup y=some c→x=y
 has:∀ x,(X.env.kindOf x=some .cell∨X.env.kindOf x=some .free)→∃ c,X.env.cells.lookup x=some c
 cab:∀ x c,X.fn x=true→X.env.cells.lookup x=some c→X.s₀.heap.objs.size≤c
 hd:X.calm=true→X.A.handled=none
 frames:X.A.frames=some X.stack
 stk:X.stack=X.outer∨(X.stack=X.env::X.outer∧X.env.frame=some X.env.locals)
 exf:∀ b∈X.ex,b≠X.env.locals∧∀ x c,X.env.cells.lookup x=some c→c≠b
 bs:∀ b o,X.base.get? b=some o→X.s₀.heap.get? b=some o∧X.H₀ b=none
 bsz:X.base.objs.size≤X.s₀.heap.objs.size
 noex:∀ b o,X.base.get? b=some o→b ∉ X.ex
 exfs:∀ b∈X.ex,b ∉ X.fs
 funs:X.s₀.heap.FunFrames X.base X.outer
 frf:∀ b∈X.fs,X.H₀ b=none
structure Inv (X:Cx) (pins:List (Addr×Obj)) (σ:List (Option V)) (H:Hp) (s:Shared):Prop where
 ok:X.Ok
 os:s.os=X.s₀.os
 bare:AllBare s.gens
 base:Un X.fs X.ex X.H₀ H X.s₀.heap s.heap
 loc:∃ m,s.heap.Ns X.env.locals m∧∀ (i:Nat) (x:Str) (v:V),X.N[i]?=some x→σ[i]?=some (some v)→Vis X.env.scope x→∃ u,RelV v u∧Look X.env s.heap m x u
 cell:∀ x c,X.env.cells.lookup x=some c→∃ v,s.heap.IsCell c v
 free:H X.env.locals=none
 freeC:∀ x c,X.env.cells.lookup x=some c→H c=none
 pin:∀ p∈X.pn++pins,s.heap.get? p.1=some p.2∧H p.1=none∧p.1≠X.env.locals∧p.1 ∉ X.fs∧∀ v,p.2.data≠.cell v
 hok:HOk X.prog X.w H s.heap
 len:σ.length=X.N.length
section
variable {X:Cx}{pins:List (Addr×Obj)}{σ:List (Option V)}{H H':Hp}{s:Shared}{h':Heap}
theorem Cx.Ok.nofr (ok:X.Ok) {b:Addr}{o:Obj} (e:X.base.get? b=some o):b ∉ X.fs:=fun hb=>by
 have:=(ok.funs.mem hb).1
 rw [e] at this; cases this
theorem Inv.bs (I:Inv X pins σ H s):∀ b o,X.base.get? b=some o→s.heap.get? b=some o∧H b=none:=fun b o e =>
 ⟨I.base.keep b o (I.ok.bs b o e).1 (I.ok.bs b o e).2 (I.ok.nofr e) (I.ok.noex b o e),I.base.free b o (I.ok.bs b o e).1 (I.ok.bs b o e).2 (I.ok.noex b o e)⟩
theorem Inv.bk (I:Inv X pins σ H s):∀ b o,X.base.get? b=some o→s.heap.get? b=some o:=fun b o e=>(I.bs b o e).1
theorem Inv.mod (I:Inv X pins σ H s):Mod X.K X.mg X.base:=I.ok.mod
theorem Inv.kIn (I:Inv X pins σ H s):X.K.In s.heap:=I.ok.mod.kin.keeps I.bk
theorem Inv.lt (I:Inv X pins σ H s):X.env.locals<s.heap.objs.size:=let ⟨_,hn,_⟩:=I.loc; hn.lt
theorem Inv.sz (I:Inv X pins σ H s):X.s₀.heap.objs.size≤s.heap.objs.size:=Nat.le_trans I.ok.above (Nat.le_of_lt I.lt)
theorem Inv.nofs (I:Inv X pins σ H s) {a:Addr} (h:s.heap.objs.size≤a):a ∉ X.fs:=fun hb=>by
 obtain⟨_,o,ho,_⟩:=I.ok.funs.mem hb
 exact absurd (Nat.lt_of_lt_of_le (Heap.lt_size ho) (Nat.le_trans I.sz h)) (Nat.lt_irrefl _)
theorem Inv.cne (I:Inv X pins σ H s):∀ x c,X.env.cells.lookup x=some c→c≠X.env.locals:=fun x c e z=>by
 obtain⟨v,o,ho,hd⟩:=I.cell x c e
 obtain⟨m,⟨o',es,ep,ho',hd',_⟩,_⟩:=I.loc
 rw [z,ho'] at ho; cases ho; rw [hd'] at hd; cases hd
theorem Inv.funs (I:Inv X pins σ H s):s.heap.FunFrames X.base X.outer:=by
 have all:∀ (l:List Env),(∀ b∈frs l,b∈X.fs)→X.s₀.heap.FunFrames X.base l→s.heap.FunFrames X.base l:=by
  intro l
  induction l with
  | nil=>intro _ _; trivial
  | cons env r ih =>
   intro hs hl
   obtain⟨hk,⟨L,o,hf,hn,ho,hd⟩,hr⟩:=hl
   have hL:L∈X.fs:=hs L (by unfold frs; rw [List.filterMap_cons,hf]; exact List.mem_cons_self)
   obtain⟨sl,e⟩:=I.base.slot L o ho (I.ok.frf L hL) hL fun z=>I.ok.exfs L z hL
   exact⟨hk,⟨L,_,hf,hn,e,hd⟩,ih (fun b hb=>hs b (by unfold frs; rw [List.filterMap_cons,hf]; exact List.mem_cons_of_mem _ hb)) hr⟩
 exact all X.outer (fun _ hb=>hb) I.ok.funs
theorem Inv.stack (I:Inv X pins σ H s):s.heap.FunFrames X.base X.stack:=by
 rcases I.ok.stk with e | ⟨e,hf⟩
 ·rw [e]; exact I.funs
 ·rw [e]
  obtain⟨m,hn,_⟩:=I.loc
  refine .cons (by rw [I.ok.kind]; decide) hf hn ?_ I.funs
  exact Heap.get?_none_of_le (Nat.le_trans I.ok.bsz I.ok.above)
theorem Inv.stkSub (I:Inv X pins σ H s):∀ b∈frs X.stack,b∈X.env.locals::X.fs:=fun b hb=>by
 rcases I.ok.stk with e | ⟨e,hf⟩
 ·rw [e] at hb; exact List.mem_cons_of_mem _ hb
 ·rw [e] at hb
  unfold frs at hb
  rw [List.filterMap_cons,hf] at hb
  exact hb
theorem Inv.stkFree (I:Inv X pins σ H s):∀ b∈frs X.stack,H b=none:=fun b hb=>by
 rcases List.mem_cons.mp (I.stkSub b hb) with e | hb
 ·rw [e]; exact I.free
 ·obtain⟨_,o,ho,_⟩:=I.ok.funs.mem hb
  exact I.base.free b o ho (I.ok.frf b hb) fun z=>I.ok.exfs b z hb
theorem Inv.step {g':Array GenState}{t':Nat}{d':Drawn}{ch:List Addr} (I:Inv X pins σ H s)
  (hch:∀ b∈ch,(b∈X.ex∨X.s₀.heap.objs.size≤b)∧b≠X.env.locals∧(∀ x c,X.env.cells.lookup x=some c→c≠b)∧∀ p∈X.pn++pins,p.1≠b)
  (keep:∀ b o,b≠X.env.locals→b ∉ X.fs→b ∉ ch→s.heap.get? b=some o→H b=none→h'.get? b=some o)
  (slot:∀ b o,b≠X.env.locals→b∈X.fs→b ∉ ch→s.heap.get? b=some o→H b=none→∃ sl,h'.get? b=some { o with slots:=sl }) (free:∀ b o,b ∉ ch→s.heap.get? b=some o→H b=none→H' b=none)
  (there:∀ b o,b ∉ ch→s.heap.get? b=some o→∃ o',h'.get? b=some o')
  (tups:∀ b xs,H b=some (.tup xs)→H' b=some (.tup xs)) (frzs:∀ b o u,H b=some (.frz o u)→H' b=some (.frz o u)) (tbls:∀ b ps,H b=some (.tbl ps)→∃ more,H' b=some (.tbl (ps++more)))
  (ns:∀ m,s.heap.Ns X.env.locals m→h'.Ns X.env.locals m) (hok:HOk X.prog X.w H' h') (hg:AllBare g') :
  Inv X pins σ H' { s with heap:=h',gens:=g',drawn:=d',toks:=t' }:=by
 have neL:∀ b o,X.s₀.heap.get? b=some o→b≠X.env.locals:=fun b o e=>Nat.ne_of_lt (Nat.lt_of_lt_of_le (Heap.lt_size e) I.ok.above)
 have neC:∀ b o,X.s₀.heap.get? b=some o→b ∉ X.ex→b ∉ ch:=fun b o e hx hb=>by
  rcases (hch b hb).1 with z | z
  ·exact hx z
  ·exact absurd (Nat.lt_of_lt_of_le (Heap.lt_size e) z) (Nat.lt_irrefl _)
 have cellK:∀ x c,X.env.cells.lookup x=some c→∀ v,s.heap.IsCell c v→h'.IsCell c v:=fun x c e v ⟨o,ho,hd⟩=>by
  have nch:c ∉ ch:=fun z=>(hch c z).2.2.1 x c e rfl
  by_cases hc:c∈X.fs
  ·obtain⟨sl,q⟩:=slot c o (I.cne x c e) hc nch ho (I.freeC x c e)
   exact⟨_,q,hd⟩
  ·exact⟨o,keep c o (I.cne x c e) hc nch ho (I.freeC x c e),hd⟩
 refine⟨I.ok,I.os,hg,⟨fun b o e n hb hx=>?_,fun b o e n hb hx=>?_,fun b o e n hx=>?_,fun b o e hx=>?_,fun b xs e=>tups b xs (I.base.tups b xs e),fun b o xs e=>frzs b o xs (I.base.frzs b o xs e),fun b ps e=>?_⟩,?_,fun x c e=>?_,?_,fun x c e=>?_,fun p hp=>?_,hok,I.len⟩
 ·exact keep b o (neL b o e) hb (neC b o e hx) (I.base.keep b o e n hb hx) (I.base.free b o e n hx)
 ·obtain⟨sl,e1⟩:=I.base.slot b o e n hb hx
  obtain⟨sl',e2⟩:=slot b _ (neL b o e) hb (neC b o e hx) e1 (I.base.free b o e n hx)
  exact⟨sl',e2⟩
 ·obtain⟨o',e1⟩:=I.base.there b o e hx
  exact free b o' (neC b o e hx) e1 (I.base.free b o e n hx)
 ·obtain⟨o',e1⟩:=I.base.there b o e hx
  exact there b o' (neC b o e hx) e1
 ·obtain⟨m1,e1⟩:=I.base.tbls b ps e
  obtain⟨m2,e2⟩:=tbls b _ e1
  exact⟨m1++m2,by rw [e2,Array.append_assoc]⟩
 ·obtain⟨m,hn,hl⟩:=I.loc
  refine⟨m,ns m hn,fun i x v e1 e2 e3=>?_⟩
  obtain⟨u,r,l⟩:=hl i x v e1 e2 e3
  refine⟨u,r,?_⟩
  rcases l with l | ⟨k,c,e,z⟩
  ·exact .inl l
  ·exact .inr ⟨k,c,e,cellK x c e _ z⟩
 ·obtain⟨v,z⟩:=I.cell x c e
  exact⟨v,cellK x c e v z⟩
 ·obtain⟨m,⟨o,_,_,ho,_⟩,_⟩:=I.loc
  exact free _ o (fun z=>(hch _ z).2.1 rfl) ho I.free
 ·obtain⟨v,o,ho,hd⟩:=I.cell x c e
  exact free c o (fun z=>(hch c z).2.2.1 x c e rfl) ho (I.freeC x c e)
 ·obtain⟨e,n,ne,nf,d⟩:=I.pin p hp
  have nch:p.1 ∉ ch:=fun z=>(hch p.1 z).2.2.2 p hp rfl
  exact⟨keep p.1 p.2 ne nf nch e n,free p.1 p.2 nch e n,ne,nf,d⟩
theorem Inv.un {t':Nat} (I:Inv X pins σ H s) (u:Un X.fs [] H H' s.heap h') (hok:HOk X.prog X.w H' h'):Inv X pins σ H' { s with heap:=h',toks:=t' }:=by
 obtain⟨m,⟨o,es,ep,ho,r⟩,_⟩:=id I.loc
 obtain⟨sl,hL⟩:=u.any ho I.free (by simp)
 exact I.step (g':=s.gens) (d':=s.drawn) (ch:=[]) (fun _ z=>nomatch z) (fun b o _ hb _ e n=>u.keep b o e n hb (by simp)) (fun b o _ hb _ e n=>u.slot b o e n hb (by simp)) (fun b o _ e n=>u.free b o e n (by simp)) (fun b o _ e=>u.there b o e (by simp)) u.tups u.frzs u.tbls (fun m' hm=>by
  obtain⟨o',es',ep',ho',r'⟩:=hm
  rw [ho] at ho'; cases ho'
  exact⟨_,es',ep',hL,r'⟩) hok I.bare
theorem Inv.call {g':Array GenState}{t':Nat}{d':Drawn}{ch:List Addr} (I:Inv X pins σ H s) (u:Un (frs X.stack) ch H H' s.heap h') (hok:HOk X.prog X.w H' h') (hg:AllBare g')
  (hch:∀ b∈ch,(b∈X.ex∨X.s₀.heap.objs.size≤b)∧b≠X.env.locals∧(∀ x c,X.env.cells.lookup x=some c→c≠b)∧∀ p∈X.pn++pins,p.1≠b) :
  Inv X pins σ H' { s with heap:=h',gens:=g',drawn:=d',toks:=t' }:=by
 obtain⟨m,⟨o,es,ep,ho,r⟩,_⟩:=id I.loc
 obtain⟨sl,hL⟩:=u.any ho I.free fun z=>(hch _ z).2.1 rfl
 exact I.step (ch:=ch) hch (fun b o hL hb hc e n=>u.keep b o e n (fun z=>(List.mem_cons.mp (I.stkSub b z)).elim hL hb) hc) (fun b o _ _ hc e n=>u.any e n hc) (fun b o hc e n=>u.free b o e n hc) (fun b o hc e=>u.there b o e hc) u.tups u.frzs u.tbls (fun m' hm=>by
  obtain⟨o',es',ep',ho',r'⟩:=hm
  rw [ho] at ho'; cases ho'
  exact⟨_,es',ep',hL,r'⟩) hok hg
theorem Inv.turned {t':Nat}{it:Addr} (I:Inv X pins σ H s) (k:∀ b o,b≠it→s.heap.get? b=some o→h'.get? b=some o) (hn:H it=none) (hL:it≠X.env.locals)
  (h1:it∈X.ex∨X.s₀.heap.objs.size≤it) (h2:∀ x c,X.env.cells.lookup x=some c→c≠it) (h3:∀ p∈X.pn++pins,p.1≠it):Inv X pins σ H { s with heap:=h',toks:=t' }:=by
 have nit:∀ b u,H b=some u→b≠it:=fun b u e z=>by rw [z,hn] at e; cases e
 refine I.step (g':=s.gens) (d':=s.drawn) (ch:=[it]) (fun b hb=>?_) (fun b o _ _ hc e _=>k b o (fun z=>hc (by simp [z])) e) (fun b o _ _ hc e _=>⟨o.slots,k b o (fun z=>hc (by simp [z])) e⟩) (fun _ _ _ _ n=>n)
  (fun b o hc e=>⟨o,k b o (fun z=>hc (by simp [z])) e⟩) (fun _ _ e=>e) (fun _ _ _ e=>e) (fun b ps e=>⟨#[],by rw [e]; simp⟩) (fun m hm=>?_) (fun b u e=>?_) I.bare
 ·have e:b=it:=by simpa using hb
  subst e
  exact⟨h1,hL,h2,h3⟩
 ·obtain⟨o,es,ep,ho,r⟩:=hm
  exact⟨o,es,ep,k _ o (Ne.symm hL) ho,r⟩
 ·refine (I.hok b u e).stay (fun c v hc q=>k c v ?_ q) (fun _ q=>q) fun _ _ q=>q
  rcases hc with z | z
  ·rw [z]; exact nit b u e
  ·exact nit c _ z
theorem Inv.tok (I:Inv X pins σ H s) (t:Nat):Inv X pins σ H { s with toks:=t }:=I.un (h':=s.heap) (t':=t) Un.refl I.hok
theorem Inv.kept {t':Nat} (I:Inv X pins σ H s) (k:∀ b u,s.heap.get? b=some u→h'.get? b=some u):Inv X pins σ H { s with heap:=h',toks:=t' }:=I.un (Un.kept k) (I.hok.kept k)
theorem Inv.laid {a:Addr}{o:HO}{t':Nat} (I:Inv X pins σ H s) (k:∀ b u,s.heap.get? b=some u→h'.get? b=some u) (hp:s.heap.objs.size≤a) (new:ObjOk X.prog X.w (upd H a o) h' a o) :
  Inv X pins σ (upd H a o) { s with heap:=h',toks:=t' }:=I.un (Un.laid k hp (I.hok.fresh hp)) (I.hok.laid k hp new)
theorem Inv.write {x e:Addr}{o:HO}{t':Nat} (I:Inv X pins σ H s) (mu:Mut (H x)) (he:e=x∨H e=some (.own x)) (k:∀ b u,b≠e→s.heap.get? b=some u→h'.get? b=some u) (heo:∃ u,h'.get? e=some u)
  (new:ObjOk X.prog X.w (upd H x o) h' x o):Inv X pins σ (upd H x o) { s with heap:=h',toks:=t' }:=I.un (Un.write mu he k heo) (I.hok.write mu he k heo new)
theorem Inv.pins_of {pins':List (Addr×Obj)} (I:Inv X pins σ H s) (h:∀ p∈pins',s.heap.get? p.1=some p.2∧H p.1=none∧p.1≠X.env.locals∧p.1 ∉ X.fs∧∀ v,p.2.data≠.cell v):Inv X pins' σ H s :=
 ⟨I.ok,I.os,I.bare,I.base,I.loc,I.cell,I.free,I.freeC,fun p hp=>(List.mem_append.mp hp).elim (fun z=>I.pin p (List.mem_append_left _ z)) (h p),I.hok,I.len⟩
theorem nodup_ix {N:List Str} (hN:N.Nodup) {i j:Nat}{x:Str} (a:N[i]?=some x) (b:N[j]?=some x):i=j:=by
 obtain⟨h1,e1⟩:=List.getElem?_eq_some_iff.mp a
 obtain⟨h2,e2⟩:=List.getElem?_eq_some_iff.mp b
 exact (List.getElem_inj hN).mp (e1.trans e2.symm)
theorem store_ok2 {M:Model}{A:Around}{E:Value→Shared→Prop}{i:Nat}{x:Str}{v:V}{u:Value}{Q:Unit→Shared→Prop} (I:Inv X pins σ H s) (hN:X.N.Nodup) (hi:X.N[i]?=some x) (hx:Loc X.env.scope x) (r:RelV v u)
  (h:∀ s',Inv X pins (σ.set i (some v)) H s'→(∃ a,Heap.SameBut a s.heap s'.heap∧(a=X.env.locals∨X.env.cells.lookup x=some a))→Q () s') (hf:X.fn x=true∨X.env.scope.names.lookup x=some .local:=by first | exact .inl rfl | exact .inr rfl | assumption):wpAny M A (storeName X.env x u) Q E s:=by
 obtain⟨m,hn,hl⟩:=id I.loc
 have hcls:(X.env.scope.kind == .class || (X.env.scope.kind == .module && X.env.locals != X.env.globals))=false:=by rw [I.ok.kind]; rfl
 have hiσ:i<σ.length:=by rw [I.len]; exact (List.getElem?_eq_some_iff.mp hi).1
 have cne:=I.cne
 have tracked:∀ {a:Addr}{h':Heap},(∃ o,s.heap.get? a=some o∧H a=none)→Heap.SameBut a s.heap h'→HOk X.prog X.w H h':=fun {a h'} ha hs b ob e=>by
  obtain⟨_,_,hfree⟩:=ha
  refine (I.hok b ob e).stay (fun c w' hc q=>(hs.2 c ?_).trans q) (fun _ q=>q) fun _ _ q=>q
  rintro rfl
  rcases hc with rfl | hc
  ·rw [hfree] at e; cases e
  ·rw [hfree] at hc; cases hc
 rcases hx with hk | hk
 ·refine wpAny_storeName_local hk hn (fun h' hn' hs=>?_) hcls
  obtain⟨oL,_,_,hoL,_⟩:=id hn
  refine h _ ⟨I.ok,I.os,I.bare,⟨fun b o e n hb hx=>?_,fun b o e n hb hx=>?_,I.base.free,fun b o e hx=>?_,I.base.tups,I.base.frzs,I.base.tbls⟩,⟨_,hn',fun j y v' e1 e2 e3=>?_⟩,fun y c e=>?_,I.free,I.freeC,fun p hp=>?_,tracked ⟨oL,hoL,I.free⟩ hs,by simpa using I.len⟩ ⟨_,hs,.inl rfl⟩
  ·exact (hs.2 b (Nat.ne_of_lt (Nat.lt_of_lt_of_le (Heap.lt_size e) I.ok.above))).trans (I.base.keep b o e n hb hx)
  ·obtain⟨sl,e1⟩:=I.base.slot b o e n hb hx
   exact⟨sl,(hs.2 b (Nat.ne_of_lt (Nat.lt_of_lt_of_le (Heap.lt_size e) I.ok.above))).trans e1⟩
  ·obtain⟨o',e1⟩:=I.base.there b o e hx
   exact⟨o',(hs.2 b (Nat.ne_of_lt (Nat.lt_of_lt_of_le (Heap.lt_size e) I.ok.above))).trans e1⟩
  ·by_cases hj:j=i
   ·subst hj
    rw [hi] at e1; cases e1
    rw [List.getElem?_set_self hiσ] at e2
    cases e2
    exact⟨u,r,.inl ⟨hk,by simp⟩⟩
   ·rw [List.getElem?_set_ne (Ne.symm hj)] at e2
    obtain⟨u',r',q⟩:=hl j y v' e1 e2 e3
    refine⟨u',r',?_⟩
    rcases q with⟨k,e⟩ | ⟨k,c,e,z⟩
    ·refine .inl ⟨k,?_⟩
     have:y≠x:=fun e=>hj (nodup_ix hN e1 (e ▸ hi))
     simp [this,e]
    ·exact .inr ⟨k,c,e,z.sameBut hs (cne y c e)⟩
  ·obtain⟨w',z⟩:=I.cell y c e
   exact⟨w',z.sameBut hs (cne y c e)⟩
  ·obtain⟨e,n,ne,nf,d⟩:=I.pin p hp
   exact⟨(hs.2 p.1 ne).trans e,n,ne,nf,d⟩
 ·have hfn:X.fn x=true:=by
   rcases hf with z | z
   ·exact z
   ·rw [z] at hk; cases hk
  obtain⟨c,hc⟩:=I.ok.has x (.inl hk)
  obtain⟨w',z⟩:=I.cell x c hc
  refine wpAny_storeName_cell I.ok.kind hk hc z (fun h' hc' hs=>?_)
  obtain⟨oc,hoc,hocd⟩:=id z
  refine h { s with heap:=h' } ⟨I.ok,I.os,I.bare,⟨fun b o e n hb hx=>?_,fun b o e n hb hx=>?_,I.base.free,fun b o e hx=>?_,I.base.tups,I.base.frzs,I.base.tbls⟩,⟨m,hn.sameBut hs (Ne.symm (cne x c hc)),fun j y v' e1 e2 e3=>?_⟩,fun y c' e=>?_,I.free,I.freeC,fun p hp=>?_,tracked ⟨oc,hoc,I.freeC x c hc⟩ hs,by simpa using I.len⟩ ⟨c,hs,.inr hc⟩
  ·exact (hs.2 b (Nat.ne_of_lt (Nat.lt_of_lt_of_le (Heap.lt_size e) (I.ok.cab x c hfn hc)))).trans (I.base.keep b o e n hb hx)
  ·obtain⟨sl,e1⟩:=I.base.slot b o e n hb hx
   exact⟨sl,(hs.2 b (Nat.ne_of_lt (Nat.lt_of_lt_of_le (Heap.lt_size e) (I.ok.cab x c hfn hc)))).trans e1⟩
  ·obtain⟨o',e1⟩:=I.base.there b o e hx
   exact⟨o',(hs.2 b (Nat.ne_of_lt (Nat.lt_of_lt_of_le (Heap.lt_size e) (I.ok.cab x c hfn hc)))).trans e1⟩
  ·by_cases hj:j=i
   ·subst hj
    rw [hi] at e1; cases e1
    rw [List.getElem?_set_self hiσ] at e2
    cases e2
    exact⟨u,r,.inr ⟨.inl hk,c,hc,hc'⟩⟩
   ·rw [List.getElem?_set_ne (Ne.symm hj)] at e2
    obtain⟨u',r',q⟩:=hl j y v' e1 e2 e3
    refine⟨u',r',?_⟩
    rcases q with q | ⟨k,c',e,z'⟩
    ·exact .inl q
    ·refine .inr ⟨k,c',e,z'.sameBut hs ?_⟩
     rintro rfl
     exact hj (nodup_ix hN e1 (I.ok.inj _ _ _ e hc ▸ hi))
  ·by_cases hcc:c'=c
   ·subst hcc; exact⟨_,hc'⟩
   ·obtain⟨w2,z2⟩:=I.cell y c' e
    exact⟨w2,z2.sameBut hs hcc⟩
  ·obtain⟨e,n,ne,nf,d⟩:=I.pin p hp
   refine⟨(hs.2 p.1 ?_).trans e,n,ne,nf,d⟩
   intro q
   rw [q,hoc] at e
   have q':oc=p.2:=Option.some.inj e
   exact d w' (by rw [← q']; exact hocd)
theorem store_ok {M:Model}{A:Around}{E:Value→Shared→Prop}{i:Nat}{x:Str}{v:V}{u:Value}{Q:Unit→Shared→Prop} (I:Inv X pins σ H s) (hN:X.N.Nodup) (hi:X.N[i]?=some x) (hx:Loc X.env.scope x) (r:RelV v u)
  (h:∀ s',Inv X pins (σ.set i (some v)) H s'→Q () s') (hf:X.fn x=true∨X.env.scope.names.lookup x=some .local:=by first | exact .inl rfl | exact .inr rfl | assumption):wpAny M A (storeName X.env x u) Q E s :=
 store_ok2 I hN hi hx r (fun s' I' _=>h s' I') hf
end
abbrev XK:=Value→Option Addr→Hp→Prop
abbrev St:=List (Option V)
abbrev VK:=V→Hp→Prop
abbrev TE:=St→Hp→VK→Prop
abbrev TT:=St→Hp→(Bool→Hp→Prop)→Prop
abbrev TA:=St→Hp→(List V→Hp→Prop)→Prop
structure Ends where
 nx:St→Hp→Prop
 rt:VK
 bk:St→Hp→Prop:=fun _ _=>False
 ct:St→Hp→Prop:=fun _ _=>False
abbrev TS:=Ends→St→Hp→Prop
def EP (X:Cx) (pins:List (Addr×Obj)) (σ:St) (Q:VK) (u:Value) (s':Shared):Prop:=∃ v H',Inv X pins σ H' s'∧RelV v u∧Q v H'
def TP (X:Cx) (pins:List (Addr×Obj)) (σ:St) (Q:Bool→Hp→Prop) (b:Bool) (s':Shared):Prop:=∃ H',Inv X pins σ H' s'∧Q b H'
def AP (X:Cx) (pins:List (Addr×Obj)) (σ:St) (Q:List V→Hp→Prop) (us:List Value) (s':Shared):Prop:=∃ vs H',Inv X pins σ H' s'∧Vals vs us∧Q vs H'
def SP (X:Cx) (pins:List (Addr×Obj)) (D:Ends) (f:Flow) (s':Shared):Prop :=
 match f with
 | .next=>∃ σ' H',Inv X pins σ' H' s'∧D.nx σ' H'
 | .brk=>∃ σ' H',Inv X pins σ' H' s'∧D.bk σ' H'
 | .cont=>∃ σ' H',Inv X pins σ' H' s'∧D.ct σ' H'
 | .ret u=>∃ v σ' H',Inv X pins σ' H' s'∧RelV v u∧D.rt v H'
def PE (X:Cx) (e:Expr) (t:TE):Prop :=
 ∀ (pins:List (Addr×Obj)) (s:Shared) (σ:St) (H:Hp) (Q:VK),Inv X pins σ H s→t σ H Q→wpAny (model X.prog X.w) X.A (eval e X.env) (EP X pins σ Q) X.xe s
def PT (X:Cx) (e:Expr) (t:TT):Prop :=
 ∀ (pins:List (Addr×Obj)) (s:Shared) (σ:St) (H:Hp) (Q:Bool→Hp→Prop),Inv X pins σ H s→t σ H Q→wpAny (model X.prog X.w) X.A (isTrue e X.env (eval e X.env)) (TP X pins σ Q) X.xe s
def PW (X:Cx) (e:Expr) (t:TT):Prop :=
 ∀ (whole:Sem Value) (pins:List (Addr×Obj)) (s:Shared) (σ:St) (H:Hp) (Q:Bool→Hp→Prop),Inv X pins σ H s→t σ H Q→wpAny (model X.prog X.w) X.A (isTrue e X.env whole) (TP X pins σ Q) X.xe s
theorem PW.pt {X:Cx}{e:Expr}{t:TT} (h:PW X e t):PT X e t:=h _
def PA (X:Cx) (es:List Expr) (t:TA):Prop :=
 ∀ (pos:Pos) (pins:List (Addr×Obj)) (s:Shared) (σ:St) (H:Hp) (Q:List V→Hp→Prop),Inv X pins σ H s→t σ H Q→wpAny (model X.prog X.w) X.A (spliced (backTo pos (starEach es X.env))) (AP X pins σ Q) X.xe s
def PS (X:Cx) (st:Stmt) (t:TS):Prop :=
 ∀ (pins:List (Addr×Obj)) (s:Shared) (σ:St) (H:Hp) (D:Ends),Inv X pins σ H s→t D σ H→wpAny (model X.prog X.w) X.A (exec st X.env) (SP X pins D) X.xe s
def PSs (X:Cx) (st:List Stmt) (t:TS):Prop :=
 ∀ (pins:List (Addr×Obj)) (s:Shared) (σ:St) (H:Hp) (D:Ends),Inv X pins σ H s→t D σ H→wpAny (model X.prog X.w) X.A (execs st X.env) (SP X pins D) X.xe s
theorem thn {α:Type}{t:Sem α}{Q Q':α→Shared→Prop}{M:Model}{A:Around}{E:Value→Shared→Prop}{s:Shared} (h:wpAny M A t Q E s) (hQ:∀ a s,Q a s→Q' a s):wpAny M A t Q' E s:=wpAny_mono h hQ fun _ _ x=>x
end L2
namespace L2
open PySem PySem.Spec PyProof.Rows
section
variable {X:Cx}
def tVar (i:Nat):TE:=fun σ H Q=>∃ v,σ[i]?=some (some v)∧Q v H
def tC (v:V):TE:=fun _ H Q=>Q v H
theorem pe_var {i:Nat}{x:Str}{pos:Pos} (hN:X.N[i]?=some x) (hv:Vis X.env.scope x) (hd:(x == ("__debug__":Str))=false:=by decide) (hcd:(x == ("__classdict__":Str))=false:=by decide):PE X (.Name x pos) (tVar i):=by
 intro pins s σ H Q I h
 obtain⟨v,e,h⟩:=h
 obtain⟨m,hn,hl⟩:=I.loc
 obtain⟨u,r,l⟩:=hl i x v hN e hv
 have fin:EP X pins σ Q u s:=⟨v,H,I,r,h⟩
 rcases l with⟨hk,hm⟩ | ⟨hk,c,hc,hcell⟩
 ·exact wpAny_Name (wpAny_loadName_local I.ok.kind hk hn hm fin) hd
 ·rcases hk with hk | hk
  ·exact wpAny_Name (wpAny_loadName_cell I.ok.kind hk hc hcell fin) hd
  ·exact wpAny_Name (wpAny_loadName_free I.ok.kind hk hc hcell fin hcd) hd
theorem pe_int {i j pos}:PE X (.Constant (.int i) j pos) (tC (.int i)):=fun _ _ _ H _ I h=>wpAny_Constant_int ⟨.int i,H,I.tok _,⟨_,rfl⟩,h⟩
theorem pe_bl {b j pos}:PE X (.Constant (.bool b) j pos) (tC (.bl b)):=fun _ _ _ H _ I h=>Constant_bool ⟨.bl b,H,I,rfl,h⟩
theorem ahY {j pos}:PE X (.Constant .none j pos) (tC .non):=fun _ _ _ H _ I h=>Constant_none ⟨.non,H,I,rfl,h⟩
theorem ahW {x j pos}:PE X (.Constant (.str x) j pos) (tC (.str x)):=fun _ _ _ H _ I h=>Calls.Constant_str ⟨.str x,H,I.tok _,⟨_,rfl⟩,h⟩
def Gl (X:Cx) (x:Str):Prop:=X.env.kindOf x=some .globalImplicit
theorem ld_glob {E:Value→Shared→Prop}{pins:List (Addr×Obj)}{s:Shared}{σ:St}{H:Hp}{x:Str}{u:Value}{pos:Pos}{Q:Value→Shared→Prop} (I:Inv X pins σ H s) (hg:Gl X x) (hm:X.mg x=some u) (h:Q u s)
  (hd:(x == ("__debug__":Str))=false:=by decide):wpAny (model X.prog X.w) X.A (eval (.Name x pos) X.env) Q E s :=
 Calls.Name_function_global I.ok.kind hg (Calls.loadGlobal_global (by rw [I.ok.glob]; exact I.mod.glob.keeps I.bk) hm h) hd
theorem ld_blt {E:Value→Shared→Prop}{pins:List (Addr×Obj)}{s:Shared}{σ:St}{H:Hp}{x:Str}{u:Value}{pos:Pos}{Q:Value→Shared→Prop} (I:Inv X pins σ H s) (hg:Gl X x) (hm:X.mg x=none) (hv:bootBuiltins x=some u) (h:Q u s)
  (hn:x≠"__name__":=by decide) (hd:(x == ("__debug__":Str))=false:=by decide):wpAny (model X.prog X.w) X.A (eval (.Name x pos) X.env) Q E s:=by
 obtain⟨mb,h1,h2⟩:=I.mod.blt
 exact Calls.Name_function_global I.ok.kind hg (Calls.loadGlobal_builtin (by rw [I.ok.glob]; exact I.mod.glob.keeps I.bk) hm (by rw [I.ok.blt]; exact h1.keeps I.bk) ((h2 x hn).trans hv) h) hd
theorem agB {x:Str}{v:V}{u:Value}{pos:Pos} (hg:Gl X x) (hm:X.mg x=some u) (r:RelV v u) (hd:(x == ("__debug__":Str))=false:=by decide):PE X (.Name x pos) (tC v) :=
 fun _ _ _ H _ I h=>ld_glob I hg hm ⟨v,H,I,r,h⟩ hd
theorem agC {x:Str}{v:V}{u:Value}{pos:Pos} (hg:Gl X x) (hm:X.mg x=none) (hv:bootBuiltins x=some u) (r:RelV v u) (hn:x≠"__name__":=by decide) (hd:(x == ("__debug__":Str))=false:=by decide):PE X (.Name x pos) (tC v) :=
 fun _ _ _ H _ I h=>ld_blt I hg hm hv ⟨v,H,I,r,h⟩ hn hd
variable {a b:Expr}{ta tb:TE}{pos:Pos}
def tB (t:TE):TT:=fun σ H Q=>t σ H fun x H1=>∃ c,x=.bl c∧Q c H1
theorem ahN {e:Expr}{t:TE} (h:PE X e t) (he:∀ whole,isTrue e X.env whole=(do let v ← whole; standAt e.pos; holding [v] (truthy v)):=by intro _; rfl):PT X e (tB t):=by
 intro pins s σ H Q I hw
 refine isTrue_plain (thn (h pins s σ H _ I hw) fun v s1 ⟨x,H1,I1,r1,q1⟩=>?_) (he _)
 obtain⟨d,rfl,q⟩:=q1
 cases r1
 exact wpAny_truthy_bool ⟨H1,I1,q⟩
variable {tA tB':TT}{rest:List Expr}
def aaJ (t u:TT):TT:=fun σ H Q=>t σ H fun c H1=>if c=true then u σ H1 Q else Q false H1
def tOr (t u:TT):TT:=fun σ H Q=>t σ H fun c H1=>if c=true then Q true H1 else u σ H1 Q
def ahq (t:TT):TT:=fun σ H Q=>t σ H fun c H1=>Q (!c) H1
theorem agr (ha:PT X a tA):PW X (.BoolOp .And [a] pos) tA:=by
 intro wh pins s σ H Q I h
 refine isTrue_and (thn (ha pins s σ H Q I h) fun c s1 e=>?_)
 cases c with
 | true=>exact isTrue_and_nil e
 | false=>exact e
theorem ahL (ha:PT X a tA):PW X (.BoolOp .Or [a] pos) tA:=by
 intro wh pins s σ H Q I h
 refine isTrue_or (thn (ha pins s σ H Q I h) fun c s1 e=>?_)
 cases c with
 | false=>exact isTrue_or_nil e
 | true=>exact e
theorem ahM (ha:PT X a tA) (hb:PW X (.BoolOp .And (b::rest) pos) tB'):PW X (.BoolOp .And (a::b::rest) pos) (aaJ tA tB'):=by
 intro wh pins s σ H Q I h
 refine isTrue_and (thn (ha pins s σ H _ I h) fun c s1 ⟨H1,I1,q1⟩=>?_)
 cases c with
 | true=>exact hb wh pins s1 σ H1 Q I1 q1
 | false=>exact⟨H1,I1,q1⟩
theorem akc (ha:PT X a tA) (hb:PW X (.BoolOp .Or (b::rest) pos) tB'):PW X (.BoolOp .Or (a::b::rest) pos) (tOr tA tB'):=by
 intro wh pins s σ H Q I h
 refine isTrue_or (thn (ha pins s σ H _ I h) fun c s1 ⟨H1,I1,q1⟩=>?_)
 cases c with
 | true=>exact⟨H1,I1,q1⟩
 | false=>exact hb wh pins s1 σ H1 Q I1 q1
theorem ahO (ha:PT X a tA):PT X (.UnaryOp .Not a pos) (ahq tA):=by
 intro pins s σ H Q I h
 exact isTrue_not (ha pins s σ H (fun c H1=>Q (!c) H1) I h)
def afP (ta tb:TE):TE:=fun σ H Q=>ta σ H fun x H1=>∃ c,x=.bl c∧if c=true then tb σ H1 Q else Q (.bl false) H1
theorem ahX {op}{t:TE} (h:PE X a t):PE X (.BoolOp op [a] pos) t:=fun pins s σ H Q I hw=>BoolOp_one (h pins s σ H Q I hw)
theorem ah1 (ha:PE X a ta) (hb:PE X (.BoolOp .And (b::rest) pos) tb):PE X (.BoolOp .And (a::b::rest) pos) (afP ta tb):=by
 intro pins s σ H Q I h
 refine BoolOp_and (thn (ha pins s σ H _ I h) fun v s1 ⟨x,H1,I1,r1,q1⟩=>?_)
 obtain⟨c,rfl,q1⟩:=q1
 cases r1
 refine wpAny_truthy_bool ?_
 cases c with
 | true=>exact hb pins s1 σ H1 Q I1 q1
 | false=>exact⟨.bl false,H1,I1,rfl,q1⟩
def tIf (t:TT) (ta tb:TE):TE:=fun σ H Q=>t σ H fun c H1=>if c=true then ta σ H1 Q else tb σ H1 Q
theorem aeV {c:Expr} (hc:PT X c tA) (ha:PE X a ta) (hb:PE X b tb):PE X (.IfExp c a b pos) (tIf tA ta tb):=by
 intro pins s σ H Q I h
 refine wpAny_IfExp (thn (hc pins s σ H _ I h) fun d s1 ⟨H1,I1,q1⟩=>?_)
 cases d with
 | true=>exact ha pins s1 σ H1 Q I1 q1
 | false=>exact hb pins s1 σ H1 Q I1 q1
end
end L2
namespace L2
open PySem PySem.Spec PyProof.Rows
def SqL (K:PySem.W.Frag) (H:Hp) (a:Addr) (xs:List V):Prop :=
 Rd H a (.lst xs) ∨
  ∃ (o:Obj) (its:Array Value) (n:Nat),K.lookup a=some o∧o.cls=.type "list"∧o.dict=none∧o.data=.seq its n∧its.size≤sizeLine∧Vals xs its.toList
def SqT (K:PySem.W.Frag) (H:Hp) (a:Addr) (xs:List V):Prop :=
 Rd H a (.tup xs) ∨
  ∃ (o:Obj) (its:Array Value) (n:Nat),K.lookup a=some o∧o.cls=.type "tuple"∧o.data=.seq its n∧its.size≤sizeLine∧Vals xs its.toList
def absV:Value→Option V
 | .none=>some .non
 | .bool b=>some (.bl b)
 | .int i _=>some (.int i)
 | .str x _=>some (.str x)
 | .bytes b _=>some (.byt b)
 | .float b _=>some (.flt b)
 | .ref a=>some (.ref a)
 | .type n=>some (.ty n)
 | _=>none
theorem RelV.abs {x:V}{u:Value} (r:RelV x u):absV u=some x:=by
 cases x with
 | non=>cases r; rfl
 | bl _=>cases r; rfl
 | int _=>obtain⟨t,rfl⟩:=r; rfl
 | str _=>obtain⟨t,rfl⟩:=r; rfl
 | byt _=>obtain⟨t,rfl⟩:=r; rfl
 | flt _=>obtain⟨t,rfl⟩:=r; rfl
 | ref _=>cases r; rfl
 | ty _=>cases r; rfl
theorem RelV.inj {x y:V}{u:Value} (r:RelV x u) (q:RelV y u):x=y:=Option.some.inj (r.abs.symm.trans q.abs)
theorem Vals.inj:∀ {xs ys:List V}{us:List Value},Vals xs us→Vals ys us→xs=ys
 | _,_,_,.nil,.nil=>rfl
 | _,_,_,.cons r t,.cons r' t'=>by rw [r.inj r',Vals.inj t t']
section
variable {X:Cx}{pins:List (Addr×Obj)}{σ:St}{H:Hp}{s:Shared}{a:Addr}{xs ys:List V}
theorem SqL.of {K:PySem.W.Frag} (h:H a=some (.lst xs)):SqL K H a xs:=.inl (.inl h)
theorem SqT.of {K:PySem.W.Frag} (h:H a=some (.tup xs)):SqT K H a xs:=.inl (.inl h)
theorem Inv.list (I:Inv X pins σ H s) (h:SqL X.K H a xs):∃ its:List Value,Vals xs its∧PlainL s.heap a its.toArray∧xs.length≤sizeLine:=by
 rcases h with h | ⟨o,its,n,hk,hc,hd,hs,hz,r⟩
 ·obtain⟨z,its,n,r,e⟩:=h.ok I.hok
  exact⟨its,r,⟨_,n,e,rfl,rfl,rfl⟩,z⟩
 ·refine⟨its.toList,r,⟨o,n,I.kIn a o hk,hc,hd,by simpa using hs⟩,?_⟩
  have e:=r.length
  simp only [Array.length_toList] at e
  lia
theorem Inv.tuple (I:Inv X pins σ H s) (h:SqT X.K H a xs):∃ its:List Value,Vals xs its∧IsTup s.heap a its.toArray∧xs.length≤sizeLine:=by
 rcases h with h | ⟨o,its,n,hk,hc,hs,hz,r⟩
 ·obtain⟨z,its,r,p⟩:=h.ok I.hok
  exact⟨its,r,p,z⟩
 ·refine⟨its.toList,r,⟨o,I.kIn a o hk,hc,n,by simpa using hs⟩,?_⟩
  have e:=r.length
  simp only [Array.length_toList] at e
  lia
theorem Inv.list_inj (I:Inv X pins σ H s) (h:SqL X.K H a xs) (h':SqL X.K H a ys):xs=ys:=by
 obtain⟨its,r,⟨o,n,e,_,_,d⟩,_⟩:=I.list h
 obtain⟨its',r',⟨o',n',e',_,_,d'⟩,_⟩:=I.list h'
 rw [e] at e'; cases e'
 rw [d] at d'
 injection d' with d1 _
 have:its=its':=by simpa using congrArg Array.toList d1
 subst this
 exact r.inj r'
theorem Inv.sy (I:Inv X pins σ H s) (h:SqT X.K H a xs) (h':SqT X.K H a ys):xs=ys:=by
 obtain⟨its,r,⟨o,e,_,n,d⟩,_⟩:=I.tuple h
 obtain⟨its',r',⟨o',e',_,n',d'⟩,_⟩:=I.tuple h'
 rw [e] at e'; cases e'
 rw [d] at d'
 injection d' with d1 _
 have:its=its':=by simpa using congrArg Array.toList d1
 subst this
 exact r.inj r'
end
abbrev Cx.wish (X:Cx) (E:Value→Shared→Prop):Cx:={ X with xe:=E }
abbrev Cx.nox (X:Cx):Cx:=X.wish fun _ _=>False
theorem Cx.Ok.wish {X:Cx} (ok:X.Ok) (E:Value→Shared→Prop):(X.wish E).Ok :=
 ⟨ok.mod,ok.kind,ok.glob,ok.blt,ok.above,ok.inj,ok.has,ok.cab,ok.hd,ok.frames,ok.stk,ok.exf,ok.bs,ok.bsz,ok.noex,ok.exfs,ok.funs,ok.frf⟩
theorem Cx.Ok.unwish {X:Cx}{E:Value→Shared→Prop} (ok:(X.wish E).Ok):X.Ok :=
 ⟨ok.mod,ok.kind,ok.glob,ok.blt,ok.above,ok.inj,ok.has,ok.cab,ok.hd,ok.frames,ok.stk,ok.exf,ok.bs,ok.bsz,ok.noex,ok.exfs,ok.funs,ok.frf⟩
section
variable {X:Cx}{pins:List (Addr×Obj)}{σ:St}{H:Hp}{s:Shared}{E:Value→Shared→Prop}
theorem Inv.wish (I:Inv X pins σ H s) (E:Value→Shared→Prop):Inv (X.wish E) pins σ H s:=⟨I.ok.wish E,I.os,I.bare,I.base,I.loc,I.cell,I.free,I.freeC,I.pin,I.hok,I.len⟩
theorem Inv.unwish (I:Inv (X.wish E) pins σ H s):Inv X pins σ H s:=⟨I.ok.unwish,I.os,I.bare,I.base,I.loc,I.cell,I.free,I.freeC,I.pin,I.hok,I.len⟩
theorem SP.unwish {D:Ends}{f:Flow}{s':Shared} (h:SP (X.wish E) pins D f s'):SP X pins D f s':=by
 cases f with
 | next=>obtain⟨σ',H',I,q⟩:=h; exact⟨σ',H',I.unwish,q⟩
 | brk=>obtain⟨σ',H',I,q⟩:=h; exact⟨σ',H',I.unwish,q⟩
 | cont=>obtain⟨σ',H',I,q⟩:=h; exact⟨σ',H',I.unwish,q⟩
 | ret u=>obtain⟨v,σ',H',I,r,q⟩:=h; exact⟨v,σ',H',I.unwish,r,q⟩
theorem PSs.nox {st:List Stmt}{t:TS} (h:PSs X.nox st t):PSs X st t:=fun pins s σ H D I hw =>
 wpAny_mono (h pins s σ H D (I.wish _) hw) (fun _ _ q=>q.unwish) fun _ _ z=>False.elim z
end
section
variable {X:Cx}{st:Stmt}{rest:List Stmt}{t u:TS}{e:Expr}{te:TE}{pos:Pos}
def tNext:TS:=fun D σ H=>D.nx σ H
def tSeq (t u:TS):TS:=fun D σ H=>t { D with nx:=u D } σ H
theorem pss_nil:PSs X [] tNext:=fun _ _ σ H _ I h=>wpAny_execs_nil ⟨σ,H,I,h⟩
theorem pss_cons (h1:PS X st t) (h2:PSs X rest u):PSs X (st::rest) (tSeq t u):=by
 intro pins s σ H D I h
 refine wpAny_execs_cons (thn (h1 pins s σ H { D with nx:=u D } I h) fun f s1 q=>?_)
 cases f with
 | next =>
  obtain⟨σ',H',I',q⟩:=q
  exact h2 pins s1 σ' H' D I' q
 | ret v=>exact q
 | brk=>exact q
 | cont=>exact q
theorem pss_one (h1:PS X st t):PSs X [st] t:=by
 intro pins s σ H D I h
 refine wpAny_execs_cons (thn (h1 pins s σ H D I h) fun f s1 q=>?_)
 cases f with
 | next=>exact wpAny_execs_nil q
 | ret v=>exact q
 | brk=>exact q
 | cont=>exact q
def afN:TS:=fun D σ H=>D.ct σ H
theorem agt:PS X (.Pass pos) tNext:=fun _ _ σ H _ I h=>wpAny_Pass ⟨σ,H,I,h⟩
theorem YQ:PS X (.Continue pos) afN:=fun _ _ σ H _ I h=>wpAny_Continue ⟨σ,H,I,h⟩
theorem Inv.quiet {pins:List (Addr×Obj)}{σ:St}{H:Hp}{s:Shared} (I:Inv X pins σ H s):interactive X.env=false:=by simp [interactive,I.ok.kind]
def tDrop (te:TE):TS:=fun D σ H=>te σ H fun _ H1=>D.nx σ H1
theorem ps_expr (he:PE X e te) (hs:swapsWith e none pos.line X.env=pure false:=by rfl):PS X (.Expr e pos) (tDrop te):=by
 intro pins s σ H D I h
 exact wpAny_Expr_any (thn (he pins s σ H _ I h) fun v s1 ⟨x,H1,I1,r1,q1⟩=>⟨σ,H1,I1,q1⟩) I.quiet hs
def tRet (te:TE):TS:=fun D σ H=>te σ H D.rt
theorem ps_ret (he:PE X e te):PS X (.Return (some e) pos) (tRet te):=by
 intro pins s σ H D I h
 exact wpAny_Return_some (thn (he pins s σ H _ I h) fun v s1 ⟨x,H1,I1,r1,q1⟩=>⟨x,σ,H1,I1,r1,q1⟩)
def afK:TS:=fun D _ H=>D.rt .non H
theorem ags:PS X (.Return none pos) afK:=fun _ _ σ H _ I h=>wpAny_Return_none ⟨.non,σ,H,I,rfl,h⟩
def tIfS (c:TT) (t u:TS):TS:=fun D σ H=>c σ H fun b H1=>if b=true then t D σ H1 else u D σ H1
theorem ps_if {c:Expr}{a b:List Stmt}{tc:TT} (hc:PT X c tc) (ha:PSs X a t) (hb:PSs X b u):PS X (.If c a b pos) (tIfS tc t u):=by
 intro pins s σ H D I h
 refine wpAny_If (thn (hc pins s σ H _ I h) fun d s1 ⟨H1,I1,q1⟩=>?_)
 cases d with
 | true=>exact ha pins s1 σ H1 D I1 q1
 | false=>exact hb pins s1 σ H1 D I1 q1
def acC:TS:=fun _ _ _=>False
theorem aeR:PS X st acC:=fun _ _ _ _ _ _ h=>h.elim
end
abbrev TG:=V→St→Hp→(St→Hp→Prop)→Prop
abbrev TGs:=List V→St→Hp→(St→Hp→Prop)→Prop
def PG (X:Cx) (target:Expr) (t:TG):Prop :=
 ∀ (pins:List (Addr×Obj)) (s:Shared) (σ:St) (H:Hp) (v:V) (u:Value) (Q:St→Hp→Prop),Inv X pins σ H s→RelV v u→t v σ H Q →
  wpAny (model X.prog X.w) X.A (assign target X.env u) (fun _ s'=>∃ σ' H',Inv X pins σ' H' s'∧Q σ' H') X.xe s
def PGs (X:Cx) (ts:List Expr) (t:TGs):Prop :=
 ∀ (pins:List (Addr×Obj)) (s:Shared) (σ:St) (H:Hp) (vs:List V) (us:List Value) (Q:St→Hp→Prop),Inv X pins σ H s→Vals vs us→t vs σ H Q →
  wpAny (model X.prog X.w) X.A (assignInOrder ((assignEach ts X.env).map (·.2)) us) (fun _ s'=>∃ σ' H',Inv X pins σ' H' s'∧Q σ' H') X.xe s
abbrev NZ:=V→V→V→Hp→(Hp→Prop)→Prop
def Yl (X:Cx) (t:NZ):Prop :=
 ∀ (pins:List (Addr×Obj)) (s:Shared) (σ:St) (H:Hp) (o i v:V) (ov iv u:Value) (Q:Hp→Prop),Inv X pins σ H s→RelV o ov→RelV i iv→RelV v u→t o i v H Q →
  wpAny (model X.prog X.w) X.A (setItem ov iv u) (fun _ s'=>∃ H',Inv X pins σ H' s'∧Q H') X.xe s
abbrev TIp:=V→V→Hp→VK→Prop
def PIp (X:Cx) (op:Operator) (t:TIp):Prop :=
 ∀ (pins:List (Addr×Obj)) (s:Shared) (σ:St) (H:Hp) (x y:V) (v u:Value) (Q:VK),Inv X pins σ H s→RelV x v→RelV y u→t x y H Q →
  wpAny (model X.prog X.w) X.A (inplaceOp op v u) (EP X pins σ Q) X.xe s
section
variable {X:Cx}{pos:Pos}
def gName (i:Nat):TG:=fun v σ H Q=>Q (σ.set i (some v)) H
theorem pg_name {i:Nat}{x:Str} (hN:X.N.Nodup) (hi:X.N[i]?=some x) (hx:Loc X.env.scope x) (hf:X.fn x=true∨X.env.scope.names.lookup x=some .local:=by first | exact .inl rfl | exact .inr rfl | assumption):PG X (.Name x pos) (gName i):=by
 intro pins s σ H v u Q I r h
 exact wpAny_assign_Name (store_ok I hN hi hx r (fun s' I'=>⟨_,H,I',h⟩) hf)
def afl:TGs:=fun vs σ H Q=>vs=[]∧Q σ H
def U8 (t:TG) (u:TGs):TGs:=fun vs σ H Q=>∃ v r,vs=v::r∧t v σ H fun σ' H'=>u r σ' H' Q
theorem Z7:PGs X [] afl:=by
 intro pins s σ H vs us Q I r h
 obtain⟨e,h⟩:=h
 subst e
 cases r
 exact assignInOrder_nil ⟨σ,H,I,h⟩
theorem Lf {e:Expr}{es:List Expr}{t:TG}{u:TGs} (h1:PG X e t) (h2:PGs X es u)
  (hs:(assignEach (e::es) X.env).map (·.2)=assign e X.env::(assignEach es X.env).map (·.2):=by rfl):PGs X (e::es) (U8 t u):=by
 intro pins s σ H vs us Q I r h
 obtain⟨v,vr,e1,h⟩:=h
 subst e1
 cases r with
 | cons r rr =>
  rw [hs]
  refine assignInOrder_cons (thn (h1 pins s σ H _ _ _ I r h) fun _ s1 ⟨σ1,H1,I1,q1⟩=>?_)
  exact h2 pins s1 σ1 H1 _ _ Q I1 rr q1
def afk (K:PySem.W.Frag) (n:Nat) (t:TGs):TG:=fun v σ H Q=>∃ a xs,v=.ref a∧SqT K H a xs∧xs.length=n∧t xs σ H Q
theorem acW {es:List Expr}{k:Nat}{t:TGs}{n:Nat} (hc:X.calm=true) (h:PGs X es t)
  (hn:(assignEach es X.env).length=n:=by rfl) (hst:(assignEach es X.env).findIdx? (·.1)=none:=by rfl):PG X (.Tuple es k pos) (afk X.K n t):=by
 intro pins s σ H v u Q I r hw
 obtain⟨a,xs,e1,hq,hl,hw⟩:=hw
 subst e1
 cases r
 obtain⟨its,rv,ht,hz⟩:=I.tuple hq
 refine assign_Tuple_tuple (I.ok.hd hc) ht (by simp [hn,← hl,rv.length]) hst fun h' hx=>?_
 have I1:Inv X pins σ H { s with heap:=h' }:=I.kept (t':=s.toks) fun b o e=>hx b o (Nat.ne_of_lt (Heap.lt_size e)) e
 exact h pins _ σ H xs _ Q I1 (by simpa using rv) hw
def aiK (to ti:TE) (t:NZ):TG:=fun v σ H Q=>to σ H fun o H1=>ti σ H1 fun i H2=>t o i v H2 fun H3=>Q σ H3
theorem ahU {o i:Expr}{to ti:TE}{t:NZ} (ho:PE X o to) (hi:PE X i ti) (hs:Yl X t)
  (ha:∀ v,assign (.Subscript o i pos) X.env v=(do
   let ov ← holding [v] (eval o X.env)
   let iv ← holding [v,ov] (eval i X.env)
   standAt pos
   holding [v,ov,iv] (setItem ov iv v)
   release [v,ov,iv] []):=by intro _; rfl):PG X (.Subscript o i pos) (aiK to ti t):=by
 intro pins s σ H v u Q I r h
 rw [ha]
 refine wpAny_bind (wpAny_holding (thn (ho pins s σ H _ I h) fun ov s1 ⟨x,H1,I1,r1,q1⟩=>?_))
 refine wpAny_bind (wpAny_holding (thn (hi pins s1 σ H1 _ I1 q1) fun iv s2 ⟨y,H2,I2,r2,q2⟩=>?_))
 refine wpAny_bind (wpAny_standAt (wpAny_bind (wpAny_holding (thn (hs pins s2 σ H2 x y v ov iv u _ I2 r1 r2 r q2) fun _ s3 ⟨H3,I3,q3⟩=>?_))))
 exact wpAny_release ⟨σ,H3,I3,q3⟩
def tAsg (te:TE) (g:TG):TS:=fun D σ H=>te σ H fun x H1=>g x σ H1 D.nx
theorem ahQ {tg e:Expr}{te:TE}{g:TG} (he:PE X e te) (hg:PG X tg g) (hs:swapsWithSole [tg] e pos.line X.env=pure false:=by rfl) (hw:swappedStores [tg] e X.env=pure none:=by rfl)
  (h1:(assignEach [tg] X.env).map (·.2)=[assign tg X.env]:=by rfl):PS X (.Assign [tg] e pos) (tAsg te g):=by
 intro pins s σ H D I h
 refine wpAny_Assign_stores (thn (he pins s σ H _ I h) fun v s1 ⟨x,H1,I1,r1,q1⟩=>?_) hs hw
 rw [h1]
 exact thn (hg pins s1 σ H1 x v _ I1 r1 q1) fun _ s2 q=>q
theorem ps_set {i:Nat}{x:Str}{e:Expr}{te:TE}{pos':Pos} (hN:X.N.Nodup) (hi:X.N[i]?=some x) (hx:Loc X.env.scope x) (he:PE X e te) (hs:swapsWith e (some (.Name x pos')) pos.line X.env=pure false:=by rfl) (hf:X.fn x=true∨X.env.scope.names.lookup x=some .local:=by first | exact .inl rfl | exact .inr rfl | assumption) :
  PS X (.Assign [.Name x pos'] e pos) (tAsg te (gName i)):=by
 intro pins s σ H D I h
 refine wpAny_Assign_Name (thn (he pins s σ H _ I h) fun v s1 ⟨y,H1,I1,r1,q1⟩=>?_) hs
 exact store_ok I1 hN hi hx r1 (fun s2 I2=>⟨_,H1,I2,q1⟩) hf
def aht (i:Nat) (te:TE) (ti:TIp):TS:=fun D σ H=>∃ x,σ[i]?=some (some x)∧te σ H fun y H1=>ti x y H1 fun z H2=>D.nx (σ.set i (some z)) H2
theorem ahP {i:Nat}{x:Str}{e:Expr}{te:TE}{op:Operator}{ti:TIp}{pos':Pos} (hN:X.N.Nodup) (hi:X.N[i]?=some x) (hx:Loc X.env.scope x) (he:PE X e te) (ho:PIp X op ti) (hf:X.fn x=true∨X.env.scope.names.lookup x=some .local:=by first | exact .inl rfl | exact .inr rfl | assumption) :
  PS X (.AugAssign (.Name x pos') op e pos) (aht i te ti):=by
 intro pins s σ H D I h
 obtain⟨v,e1,h⟩:=h
 obtain⟨m,hn,hl⟩:=I.loc
 have vis:Vis X.env.scope x:=by rcases hx with k | k; exact .inl k; exact .inr (.inl k)
 obtain⟨u,r,l⟩:=hl i x v hi e1 vis
 refine wpAny_AugAssign_Name ?_
 have go:wpAny (model X.prog X.w) X.A (eval e X.env) (fun w s₂=>wpAny (model X.prog X.w) X.A (inplaceOp op u w) (fun r s₃=>wpAny (model X.prog X.w) X.A (storeName X.env x r) (fun _=>SP X pins D .next) X.xe s₃) X.xe s₂) X.xe s:=by
  refine thn (he pins s σ H _ I h) fun w s1 ⟨y,H1,I1,r1,q1⟩=>?_
  refine thn (ho pins s1 σ H1 v y u w _ I1 r r1 q1) fun z s2 ⟨zv,H2,I2,r2,q2⟩=>?_
  exact store_ok I2 hN hi hx r2 (fun s3 I3=>⟨_,H2,I3,q2⟩) hf
 rcases l with⟨hk,hm⟩ | ⟨hk,c,hc,hcell⟩
 ·exact wpAny_loadName_local I.ok.kind hk hn hm go
 ·rcases hk with hk | hk
  ·exact wpAny_loadName_cell I.ok.kind hk hc hcell go
  ·rcases hx with k | k
   ·have:X.env.scope.names.lookup x=some .free:=hk
    rw [k] at this; cases this
   ·have:X.env.scope.names.lookup x=some .free:=hk
    rw [k] at this; cases this
def afO (to ti te:TE) (Ky:V→V→Hp→VK→Prop) (tip:TIp) (Kw:NZ):TS:=fun D σ H=>to σ H fun o H1=>ti σ H1 fun i H2=>Ky o i H2 fun x H3=>te σ H3 fun y H4=>tip x y H4 fun z H5=>Kw o i z H5 fun H6=>D.nx σ H6
def afF (X:Cx) (t:V→V→Hp→VK→Prop):Prop :=
 ∀ (pins:List (Addr×Obj)) (s:Shared) (σ:St) (H:Hp) (o i:V) (ov iv:Value) (Q:VK),Inv X pins σ H s→RelV o ov→RelV i iv→t o i H Q →
  wpAny (model X.prog X.w) X.A (getItem ov iv) (EP X pins σ Q) X.xe s
theorem agu {o i e:Expr}{to ti te:TE}{Ky:V→V→Hp→VK→Prop}{tip:TIp}{Kw:NZ}{op:Operator}{tpos:Pos} (ho:PE X o to) (hi:PE X i ti) (hg:afF X Ky) (he:PE X e te) (hp:PIp X op tip) (hs:Yl X Kw)
  (ha:∀ ov iv new,augStore i ov iv new=(do holding [new,ov,iv] (setItem ov iv new); release [new,ov,iv] []; pure .next):=by intros; rfl):PS X (.AugAssign (.Subscript o i tpos) op e pos) (afO to ti te Ky tip Kw):=by
 intro pins s σ H D I h
 refine wpAny_AugAssign_SubscriptAny (thn (ho pins s σ H _ I h) fun ov s1 ⟨x1,H1,I1,r1,q1⟩=>?_) ha
 refine thn (hi pins s1 σ H1 _ I1 q1) fun iv s2 ⟨x2,H2,I2,r2,q2⟩=>?_
 refine thn (hg pins s2 σ H2 x1 x2 ov iv _ I2 r1 r2 q2) fun old s3 ⟨x3,H3,I3,r3,q3⟩=>?_
 refine thn (he pins s3 σ H3 _ I3 q3) fun v s4 ⟨x4,H4,I4,r4,q4⟩=>?_
 refine thn (hp pins s4 σ H4 x3 x4 old v _ I4 r3 r4 q4) fun new s5 ⟨x5,H5,I5,r5,q5⟩=>?_
 exact thn (hs pins s5 σ H5 x1 x2 x5 ov iv new _ I5 r1 r2 r5 q5) fun _ s6 ⟨H6,I6,q6⟩=>⟨σ,H6,I6,q6⟩
def ipI (f:Int→Int→Int):TIp:=fun x y H Q=>∃ i j,x=.int i∧y=.int j∧Q (.int (f i j)) H
theorem Ht:PIp X .Add (ipI fun i j=>i+j):=by
 intro pins s σ H x y v u Q I r1 r2 h
 obtain⟨i,j,e1,e2,q⟩:=h
 subst e1; subst e2
 obtain⟨t,rfl⟩:=r1
 obtain⟨t',rfl⟩:=r2
 exact iadd_int ⟨.int _,H,I.tok _,⟨_,rfl⟩,q⟩
end
section
variable {X:Cx}{pos:Pos}
def vJ (c:TT) (tb:TS):TS:=fun D σ H=>∃ W:Nat→St→Hp→Prop,(∃ m,W m σ H)∧∀ m σ H,W m σ H →
 c σ H fun b H1=>if b=true then ∃ N:St→Hp→Prop,(∀ σ' H',N σ' H'→∃ m',m'<m∧W m' σ' H')∧tb { D with nx:=N,ct:=N,bk:=D.nx } σ H1 else D.nx σ H1
theorem aeP {c:Expr}{body:List Stmt}{tc:TT}{tb:TS} (hp:PassesOwn (model X.prog X.w) X.A X.env X.xe) (hc:PT X c tc) (hb:PSs X body tb):PS X (.While c body [] pos) (vJ tc tb):=by
 intro pins s σ H D I h
 obtain⟨W,⟨m0,w0⟩,turn⟩:=h
 refine wpAny_While (codeAny_whileLoop (fun n s'=>∃ σ' H',Inv X pins σ' H' s'∧W n σ' H') ?_ m0 ⟨σ,H,I,w0⟩)
 rintro n s1 ⟨σ1,H1,I1,w1⟩
 refine wpAny_passesOwn hp (thn (hc pins s1 σ1 H1 _ I1 (turn n σ1 H1 w1)) fun b s2 ⟨H2,I2,q2⟩=>?_)
 cases b with
 | true =>
  obtain⟨N,hN,q2⟩:=q2
  rw [if_pos rfl]
  refine wpAny_passesOwn hp (thn (hb pins s2 σ1 H2 _ I2 q2) fun f s3 q3=>?_)
  cases f with
  | next =>
   obtain⟨σ3,H3,I3,n3⟩:=q3
   obtain⟨m',hm,w3⟩:=hN σ3 H3 n3
   exact⟨m',hm,σ3,H3,I3,w3⟩
  | cont =>
   obtain⟨σ3,H3,I3,n3⟩:=q3
   obtain⟨m',hm,w3⟩:=hN σ3 H3 n3
   exact⟨m',hm,σ3,H3,I3,w3⟩
  | brk=>exact q3
  | ret v=>exact q3
 | false =>
  rw [if_neg Bool.false_ne_true]
  exact wpAny_execs_nil ⟨σ1,H2,I2,q2⟩
end
structure It where
 go:Nat→Hp→Prop
 yld:Nat→Hp→V→Hp→Prop
 stop:Nat→Hp→Prop
def FpOk (X:Cx) (pins:List (Addr×Obj)) (H:Hp) (b:Addr):Prop :=
 H b=none∧b≠X.env.locals∧b ∉ X.fs∧(b∈X.ex∨X.s₀.heap.objs.size≤b)∧(∀ x c,X.env.cells.lookup x=some c→c≠b)∧∀ p∈X.pn++pins,p.1≠b
theorem Inv.fpOk {X:Cx}{pins:List (Addr×Obj)}{σ:St}{H H':Hp}{s:Shared}{b:Addr} (I:Inv X pins σ H s) (hb:s.heap.objs.size≤b) (hn:H' b=none):FpOk X pins H' b:=by
 refine⟨hn,Nat.ne_of_gt (Nat.lt_of_lt_of_le I.lt hb),I.nofs hb,.inr (Nat.le_trans I.sz hb),fun x c e z=>?_,fun p hp z=>?_⟩
 ·obtain⟨v,q⟩:=I.cell x c e
  exact absurd (Nat.lt_of_lt_of_le q.lt (by rw [z]; exact hb)) (Nat.lt_irrefl _)
 ·exact absurd (Nat.lt_of_lt_of_le (Heap.lt_size (I.pin p hp).1) (by rw [z]; exact hb)) (Nat.lt_irrefl _)
structure Turn (P:Program) (w:World) (K:PySem.W.Frag) (tg:Expr) (J:It) (fp:List Addr) (it:Addr) (tn:Nat→Heap→Prop):Prop where
 mem:it∈fp
 obj:∀ i h,tn i h→∀ b∈fp,∃ o,h.get? b=some o∧∀ v,o.data≠.cell v
 keep:∀ i h h',tn i h→(∀ b∈fp,∀ o,h.get? b=some o→h'.get? b=some o)→tn i h'
 item:∀ (X:Cx),X.prog=P→X.w=w→X.K=K→X.calm=true→∀ (i:Nat) (pins:List (Addr×Obj)) (s:Shared) (σ:St) (H:Hp) (E:Value→Shared→Prop),Inv X pins σ H s→(∀ b∈fp,FpOk X pins H b)→tn i s.heap→J.go i H →
  wpAny (model P w) X.A (pyNext (.ref it)) (fun r s1=>∃ u,r=some u ∧
   wpAny (model P w) X.A (letOwnedTupleGo tg (.ref it) u) (fun _ s2=>∃ x H',Inv X pins σ H' s2∧RelV x u∧J.yld i H x H'∧tn (i+1) s2.heap∧∀ b∈fp,H' b=none) E s1) E s
 done:∀ (X:Cx),X.prog=P→X.w=w→X.K=K→X.calm=true→∀ (i:Nat) (pins:List (Addr×Obj)) (s:Shared) (σ:St) (H:Hp) (E:Value→Shared→Prop),Inv X pins σ H s→(∀ b∈fp,FpOk X pins H b)→tn i s.heap→J.stop i H →
  wpAny (model P w) X.A (pyNext (.ref it)) (fun r s1=>r=none∧Inv X pins σ H s1) E s
 self:∀ (A:Around) (i:Nat) (s:Shared) (Q:Value→Shared→Prop) (E:Value→Shared→Prop),tn i s.heap→Q (.ref it) s→wpAny (model P w) A (pyIter (.ref it)) Q E s
abbrev TI:=St→Hp→(It→Hp→Prop)→Prop
def PIE (X:Cx) (pins:List (Addr×Obj)) (σ:St) (tg:Expr) (R:It→Hp→Prop) (itv:Value) (s2:Shared):Prop :=
 ∃ (it:Addr) (fp:List Addr) (tn:Nat→Heap→Prop) (J:It) (H':Hp),itv=.ref it∧Inv X pins σ H' s2∧Turn X.prog X.w X.K tg J fp it tn∧tn 0 s2.heap∧(∀ b∈fp,FpOk X pins H' b)∧R J H'
def PI (X:Cx) (tg iter:Expr) (wi:TI):Prop :=
 ∀ (pins:List (Addr×Obj)) (s:Shared) (σ:St) (H:Hp) (R:It→Hp→Prop),Inv X pins σ H s→wi σ H R →
  wpAny (model X.prog X.w) X.A (eval iter X.env) (fun v s1=>wpAny (model X.prog X.w) X.A (pyIter v) (PIE X pins σ tg R) X.xe s1) X.xe s
theorem go_of {M:Model}{A:Around}{E:Value→Shared→Prop}{s:Shared}{tg:Expr}{it:Addr}{u:Value}{o:Obj}{n:String}{vs:Array Value}{Q:Unit→Shared→Prop} (ho:s.heap.get? it=some o) (hc:o.cls=.type n) (hd:o.data=.fields vs)
  (hn:["enumerate","zip","dict_itemiterator","dict_reverseitemiterator","odict_iterator","itertools.zip_longest","itertools.pairwise"].contains n=false) (hQ:Q () s):wpAny M A (letOwnedTupleGo tg (.ref it) u) Q E s:=by
 unfold letOwnedTupleGo
 cases tg <;> first
  | exact wpAny_pure hQ
  | (cases u <;> first
    | exact wpAny_pure hQ
    | (refine wpAny_bind (wpAny_load ho ?_);rw [hc,hd];show wpAny M A (if (["enumerate","zip","dict_itemiterator","dict_reverseitemiterator","odict_iterator","itertools.zip_longest","itertools.pairwise"].contains n && vs[0]? == some (rawInt _))=true then _ else _) Q E s;rw [if_neg (by intro h; rw [hn,Bool.false_and] at h; cases h)];exact wpAny_pure hQ))
def Itl (K:PySem.W.Frag) (a:Addr):It :=
 ⟨fun i H=>∃ xs x,SqL K H a xs∧xs[i]?=some x,fun i H x H'=>H'=H∧∀ xs,SqL K H a xs→xs[i]?=some x,fun i H=>∃ xs,SqL K H a xs∧xs.length≤i⟩
def Itt (K:PySem.W.Frag) (a:Addr):It :=
 ⟨fun i H=>∃ xs x,SqT K H a xs∧xs[i]?=some x,fun i H x H'=>H'=H∧∀ xs,SqT K H a xs→xs[i]?=some x,fun i H=>∃ xs,SqT K H a xs∧xs.length≤i⟩
def Itr (lo:Int) (n:Nat):It:=⟨fun i _=>i<n,fun i H x H'=>H'=H∧x=.int (lo+i),fun i _=>n≤i⟩
theorem turn_list {P:Program}{w:World}{K:PySem.W.Frag}{tg:Expr} (a it:Addr):Turn P w K tg (Itl K a) [it] it (fun i h=>h.IsListIter it a i) where
 mem:=by simp
 obj:=fun i h st b hb=>by
  have e:b=it:=by simpa using hb
  subst e
  obtain⟨o,e,c,d⟩:=st
  exact⟨o,e,fun v z=>by rw [d] at z; cases z⟩
 keep:=fun i h h' st k=>st.at fun o e=>k it (by simp) o e
 item:=by
  intro X hP hw hK hc i pins s σ H E I hf st hg
  subst hP hw hK
  obtain⟨xs,x,hq,hx⟩:=hg
  obtain⟨its,rv,p,hz⟩:=I.list hq
  obtain⟨u,hu,ru⟩:=rv.get hx
  obtain⟨f0,f1,f2,f3,f4,f5⟩:=hf it (by simp)
  refine wpAny_pyNext_list_item st p.isList (x:=u) (by simpa using hu) fun h' st' sb=>?_
  have I1:Inv X pins σ H { s with heap:=h' }:=I.turned (t':=s.toks) (fun b o hb e=>(sb.2 b hb).trans e) f0 f1 f3 f4 f5
  obtain⟨o,e,c,d⟩:=id st'
  exact⟨u,rfl,go_of (s:={ s with heap:=h' }) e c d (by decide) ⟨x,H,I1,ru,⟨rfl,fun ys hy=>by rw [I.list_inj hy hq]; exact hx⟩,st',fun b hb=>(hf b hb).1⟩⟩
 done:=by
  intro X hP hw hK hc i pins s σ H E I hf st hg
  subst hP hw hK
  obtain⟨xs,hq,hx⟩:=hg
  obtain⟨its,rv,p,hz⟩:=I.list hq
  obtain⟨f0,f1,f2,f3,f4,f5⟩:=hf it (by simp)
  have hl:=rv.length
  exact wpAny_pyNext_list_end (I.ok.hd hc) st p.isList (by simp; lia) fun h' eb=>⟨rfl,I.turned (t':=s.toks) (fun b o hb e=>eb b o hb e) f0 f1 f3 f4 f5⟩
 self:=fun _ _ _ _ _ st h=>wpAny_pyIter_listiter st h
theorem aaE {P:Program}{w:World}{K:PySem.W.Frag}{tg:Expr} (a it:Addr):Turn P w K tg (Itt K a) [it] it (fun i h=>h.IsTupleIter it a i) where
 mem:=by simp
 obj:=fun i h st b hb=>by
  have e:b=it:=by simpa using hb
  subst e
  obtain⟨o,e,c,d⟩:=st
  exact⟨o,e,fun v z=>by rw [d] at z; cases z⟩
 keep:=fun i h h' st k=>st.at fun o e=>k it (by simp) o e
 item:=by
  intro X hP hw hK hc i pins s σ H E I hf st hg
  subst hP hw hK
  obtain⟨xs,x,hq,hx⟩:=hg
  obtain⟨its,rv,p,hz⟩:=I.tuple hq
  obtain⟨u,hu,ru⟩:=rv.get hx
  obtain⟨f0,f1,f2,f3,f4,f5⟩:=hf it (by simp)
  refine wpAny_pyNext_tuple_item st (show s.heap.IsTuple a its.toArray from p) (x:=u) (by simpa using hu) fun h' st' sb=>?_
  have I1:Inv X pins σ H { s with heap:=h' }:=I.turned (t':=s.toks) (fun b o hb e=>(sb.2 b hb).trans e) f0 f1 f3 f4 f5
  obtain⟨o,e,c,d⟩:=id st'
  exact⟨u,rfl,go_of (s:={ s with heap:=h' }) e c d (by decide) ⟨x,H,I1,ru,⟨rfl,fun ys hy=>by rw [I.sy hy hq]; exact hx⟩,st',fun b hb=>(hf b hb).1⟩⟩
 done:=by
  intro X hP hw hK hc i pins s σ H E I hf st hg
  subst hP hw hK
  obtain⟨xs,hq,hx⟩:=hg
  obtain⟨its,rv,p,hz⟩:=I.tuple hq
  obtain⟨f0,f1,f2,f3,f4,f5⟩:=hf it (by simp)
  have hl:=rv.length
  exact wpAny_pyNext_tuple_end (I.ok.hd hc) st (show s.heap.IsTuple a its.toArray from p) (by simp; lia) fun h' eb=>⟨rfl,I.turned (t':=s.toks) (fun b o hb e=>eb b o hb e) f0 f1 f3 f4 f5⟩
 self:=fun _ _ _ _ _ st h=>wpAny_pyIter_tupleiter st h
theorem aaF {P:Program}{w:World}{K:PySem.W.Frag}{tg:Expr} (it:Addr) (lo:Int) (n:Nat):Turn P w K tg (Itr lo n) [it] it (fun i h=>IsRangeIter h it (lo+(i:Nat) * 1) ((n:Int) - (i:Nat)) 1) where
 mem:=by simp
 obj:=fun i h st b hb=>by
  have e:b=it:=by simpa using hb
  subst e
  exact⟨_,st,fun v z=>by
   have z':Data.fields _=Data.cell v:=z
   cases z'⟩
 keep:=fun i h h' st k=>k it (by simp) _ st
 item:=by
  intro X hP hw hK hc i pins s σ H E I hf st hg
  subst hP hw hK
  obtain⟨f0,f1,f2,f3,f4,f5⟩:=hf it (by simp)
  have W:=Walks.range (prog:=X.prog) (w:=X.w) (I.ok.hd hc) it lo 1 n
  refine W.item i s _ _ hg st fun v h' tk hv st' kk=>?_
  obtain⟨t,rfl⟩:=hv
  have I1:Inv X pins σ H { s with heap:=h',toks:=tk }:=I.turned (fun b o hb e=>kk b o (by simpa using hb) e) f0 f1 f3 f4 f5
  refine⟨_,rfl,go_of (s:={ s with heap:=h',toks:=tk }) (n:="range_iterator") st' rfl rfl (by decide) ⟨.int (lo+i),H,I1,⟨t,?_⟩,⟨rfl,rfl⟩,st',fun b hb=>(hf b hb).1⟩⟩
  rw [Int.mul_one]
 done:=by
  intro X hP hw hK hc i pins s σ H E I hf st hg
  subst hP hw hK
  obtain⟨f0,f1,f2,f3,f4,f5⟩:=hf it (by simp)
  exact wpAny_pyNext_range_end (I.ok.hd hc) st (by have:n≤i:=hg; lia) fun h' eb=>⟨rfl,I.turned (t':=s.toks) (fun b o hb e=>eb b o hb e) f0 f1 f3 f4 f5⟩
 self:=fun _ _ _ _ _ st h=>wpAny_pyIter_rangeiter st h
end L2
namespace L2
open PySem PySem.Spec PyProof.Rows
section
variable {X:Cx}{tg:Expr}
def iList (K:PySem.W.Frag) (tl:TE):TI:=fun σ H R=>tl σ H fun x H1=>∃ a,x=.ref a∧(∃ xs,SqL K H1 a xs)∧R (Itl K a) H1
def aiB (K:PySem.W.Frag) (tl:TE):TI:=fun σ H R=>tl σ H fun x H1=>∃ a,x=.ref a∧(∃ xs,SqT K H1 a xs)∧R (Itt K a) H1
theorem pi_list {l:Expr}{tl:TE} (hl:PE X l tl):PI X tg l (iList X.K tl):=by
 intro pins s σ H R I h
 refine thn (hl pins s σ H _ I h) fun v s1 ⟨x,H1,I1,r1,q1⟩=>?_
 obtain⟨a,e,⟨xs,hq⟩,q⟩:=q1
 subst e
 cases r1
 obtain⟨its,rv,p,hz⟩:=I1.list hq
 refine wpAny_pyIter_list p.isList ?_
 refine⟨s1.heap.objs.size,[s1.heap.objs.size],_,_,H1,rfl,I1.kept (t':=s1.toks) fun b o e=>Heap.get?_push_of_some _ e,turn_list a _,⟨_,Heap.get?_push_size _ rfl,rfl,rfl⟩,fun b hb=>?_,q⟩
 have e:b=s1.heap.objs.size:=by simpa using hb
 subst e
 exact I1.fpOk (Nat.le_refl _) (I1.hok.fresh (Nat.le_refl _))
theorem ahT {l:Expr}{tl:TE} (hl:PE X l tl):PI X tg l (aiB X.K tl):=by
 intro pins s σ H R I h
 refine thn (hl pins s σ H _ I h) fun v s1 ⟨x,H1,I1,r1,q1⟩=>?_
 obtain⟨a,e,⟨xs,hq⟩,q⟩:=q1
 subst e
 cases r1
 obtain⟨its,rv,p,hz⟩:=I1.tuple hq
 refine wpAny_pyIter_tuple (show s1.heap.IsTuple a its.toArray from p) ?_
 refine⟨s1.heap.objs.size,[s1.heap.objs.size],_,_,H1,rfl,I1.kept (t':=s1.toks) fun b o e=>Heap.get?_push_of_some _ e,aaE a _,⟨_,Heap.get?_push_size _ rfl,rfl,rfl⟩,fun b hb=>?_,q⟩
 have e:b=s1.heap.objs.size:=by simpa using hb
 subst e
 exact I1.fpOk (Nat.le_refl _) (I1.hok.fresh (Nat.le_refl _))
theorem aeJ {pins:List (Addr×Obj)}{σ:St}{H:Hp}{s:Shared}{R:It→Hp→Prop}{E:Value→Shared→Prop}{lo hi:Int}{t u v:Tok}{tk:Nat} (I:Inv X pins σ H s) (h1:-(2 ^ 62)≤lo) (h2:lo<2 ^ 62) (h3:-(2 ^ 62)≤hi) (h4:hi<2 ^ 62)
  (q:R (Itr lo (hi - lo).toNat) H):wpAny (model X.prog X.w) X.A (pyIter (.ref s.heap.objs.size)) (PIE X pins σ tg R) E { s with heap:=s.heap.push { cls:=.type "range",data:=.fields #[.int lo t,.int hi u,.int 1 v] },toks:=tk }:=by
 refine wpAny_pyIter_range (IsRange.new ..) (small_one h1 h2 h3 h4) ?_
 have I1:Inv X pins σ H { s with heap:=s.heap.push { cls:=.type "range",data:=.fields #[.int lo t,.int hi u,.int 1 v] },toks:=tk }:=I.kept fun b o e=>Heap.get?_push_of_some _ e
 refine⟨(s.heap.push { cls:=.type "range",data:=.fields #[.int lo t,.int hi u,.int 1 v] }).objs.size,[(s.heap.push { cls:=.type "range",data:=.fields #[.int lo t,.int hi u,.int 1 v] }).objs.size],_,_,H,rfl,
  I1.kept (t':=tk) fun b o e=>Heap.get?_push_of_some _ e,aaF _ lo (hi - lo).toNat,?_,fun b hb=>?_,q⟩
 ·have e1:lo+((0:Nat):Int) * 1=lo:=by simp
  have e2:(((hi - lo).toNat:Nat):Int) - ((0:Nat):Int)=Builtin.Range.rangeSize lo hi 1:=by rw [rangeSize_one]; split <;> lia
  show IsRangeIter _ _ (lo+((0:Nat):Int) * 1) ((((hi - lo).toNat:Nat):Int) - ((0:Nat):Int)) 1
  rw [e1,e2]
  exact Heap.get?_push_size _ rfl
 ·have e:b=(s.heap.push { cls:=.type "range",data:=.fields #[.int lo t,.int hi u,.int 1 v] }).objs.size:=by simpa using hb
  subst e
  exact I1.fpOk (Nat.le_refl _) (I1.hok.fresh (Nat.le_refl _))
def afV (ta:TA):TI:=fun σ H R=>ta σ H fun vs H1=>∃ j:Int,vs=[.int j]∧-(2 ^ 62)≤j∧j<2 ^ 62∧R (Itr 0 j.toNat) H1
theorem acV {a:Expr}{ta:TA}{p pos:Pos} (hg:Gl X "range") (hm:X.mg "range"=none) (ha:PA X [a] ta) (hs:starEach [a] X.env=[(false,eval a X.env)]:=by rfl):PI X tg (.Call (.Name "range" p) [a] [] pos) (afV ta):=by
 intro pins s σ H R I h
 refine Call_ (ld_blt I hg hm boot_range (PyProof.Rows.callWith_type1 (thn (ha pos pins s σ H _ I h) fun us s1 ⟨vs,H1,I1,r1,q1⟩=>?_) hs rfl))
 obtain⟨j,e,q1,q2,q⟩:=q1
 subst e
 cases r1 with
 | cons r rr =>
  cases rr
  obtain⟨t,rfl⟩:=r
  exact call_range_1 (aeJ I1 (by lia) (by lia) q1 q2 (by simpa using q))
def tFor (wi:TI) (g:TG) (tb:TS):TS:=fun D σ H=>wi σ H fun J H1=>∃ W:Nat→Nat→St→Hp→Prop,(∃ m,W 0 m σ H1)∧∀ i m σ H,W i m σ H →
 (J.stop i H∧D.nx σ H)∨(J.go i H∧∃ N:St→Hp→Prop,(∀ σ' H',N σ' H'→∃ m',m'<m∧W (i+1) m' σ' H')∧∀ x H',J.yld i H x H'→g x σ H' fun σ2 H2=>tb { D with nx:=N,ct:=N,bk:=D.nx } σ2 H2)
def pinsAt (fp:List Addr) (h:Heap):List (Addr×Obj):=fp.filterMap fun b=>(h.get? b).map fun o=>(b,o)
theorem mem_pinsAt {fp:List Addr}{h:Heap}{b:Addr}{o:Obj} (hb:b∈fp) (e:h.get? b=some o):(b,o)∈pinsAt fp h:=List.mem_filterMap.mpr ⟨b,hb,by rw [e]; rfl⟩
theorem of_pinsAt {fp:List Addr}{h:Heap}{p:Addr×Obj} (hp:p∈pinsAt fp h):p.1∈fp∧h.get? p.1=some p.2:=by
 obtain⟨b,hb,e⟩:=List.mem_filterMap.mp hp
 cases q:h.get? b with
 | none=>rw [q] at e; cases e
 | some o =>
  rw [q] at e
  have e':(b,o)=p:=Option.some.inj e
  subst e'
  exact⟨hb,q⟩
theorem Inv.pinned {pins:List (Addr×Obj)}{σ:St}{H:Hp}{s:Shared}{fp:List Addr} (I:Inv X pins σ H s) (hf:∀ b∈fp,FpOk X pins H b) (ho:∀ b∈fp,∃ o,s.heap.get? b=some o∧∀ v,o.data≠.cell v):Inv X (pins++pinsAt fp s.heap) σ H s :=
 I.pins_of fun p hp=>(List.mem_append.mp hp).elim (fun z=>I.pin p (List.mem_append_right _ z)) fun z=>by
  obtain⟨hb,e⟩:=of_pinsAt z
  obtain⟨f0,f1,f2,_⟩:=hf p.1 hb
  obtain⟨o,e',d⟩:=ho p.1 hb
  rw [e] at e'; cases e'
  exact⟨e,f0,f1,f2,d⟩
theorem Inv.unpinned {pins pl:List (Addr×Obj)}{σ:St}{H:Hp}{s:Shared} (I:Inv X (pins++pl) σ H s):Inv X pins σ H s:=I.pins_of fun p hp=>I.pin p (List.mem_append_right _ (List.mem_append_left _ hp))
theorem ps_for {iter:Expr}{body:List Stmt}{wi:TI}{g:TG}{tb:TS}{pos:Pos} (hp:PassesOwn (model X.prog X.w) X.A X.env X.xe) (hc:X.calm=true) (hi:PI X tg iter wi) (hg:PG X tg g) (hb:PSs X body tb)
  (hs:∀ x,foldedSetIterable iter X.env x=pure x:=by intro _; rfl):PS X (.For tg iter body [] pos) (tFor wi g tb):=by
 intro pins s σ H D I h
 refine wpAny_For (thn (hi pins s σ H _ I h) fun v s1 h1=>thn h1 fun itv s2 h2=>?_) hs
 obtain⟨it,fp,tn,J,H2,e,I2,T,st2,f2,W,⟨m0,w0⟩,turn⟩:=h2
 subst e
 have stat:∀ {H':Hp},(∀ b∈fp,H' b=none)→∀ b∈fp,FpOk X pins H' b:=fun hn b hb=>⟨hn b hb,(f2 b hb).2⟩
 refine codeAny_forLoop_any (fun n s'=>∃ i σ' H',Inv X pins σ' H' s'∧tn i s'.heap∧(∀ b∈fp,H' b=none)∧W i n σ' H') ?_ m0 ⟨0,σ,H2,I2,st2,fun b hb=>(f2 b hb).1,w0⟩
 rintro n s3 ⟨i,σ3,H3,I3,st3,fr3,w3⟩
 rcases turn i n σ3 H3 w3 with⟨stop,qn⟩ | ⟨go,N,hN,step⟩
 ·refine wpAny_passesOwn hp (thn (T.done X rfl rfl rfl hc i pins s3 σ3 H3 X.xe I3 (stat fr3) st3 stop) fun r s4 ⟨hr,I4⟩=>?_)
  subst hr
  exact wpAny_execs_nil ⟨σ3,H3,I4,qn⟩
 ·refine wpAny_passesOwn hp (thn (T.item X rfl rfl rfl hc i pins s3 σ3 H3 X.xe I3 (stat fr3) st3 go) fun r s4 ⟨u,hr,h4⟩=>?_)
  subst hr
  refine wpAny_passesOwn hp (thn h4 fun _ s5 ⟨x,H5,I5,r5,y5,st5,fr5⟩=>?_)
  have I5':=I5.pinned (stat fr5) (T.obj _ _ st5)
  refine wpAny_passesOwn hp (thn (hg _ s5 σ3 H5 x u _ I5' r5 (step x H5 y5)) fun _ s6 ⟨σ6,H6,I6,q6⟩=>?_)
  refine wpAny_passesOwn hp (thn (hb _ s6 σ6 H6 _ I6 q6) fun f s7 q7=>?_)
  have again:∀ {σ7:St}{H7:Hp},Inv X (pins++pinsAt fp s5.heap) σ7 H7 s7→N σ7 H7→∃ m,m<n∧∃ i σ' H',Inv X pins σ' H' s7∧tn i s7.heap∧(∀ b∈fp,H' b=none)∧W i m σ' H':=fun {σ7 H7} I7 n7=>by
   obtain⟨m',hm,w7⟩:=hN σ7 H7 n7
   refine⟨m',hm,i+1,σ7,H7,I7.unpinned,T.keep _ _ _ st5 fun b hb o e=>(I7.pin (b,o) (List.mem_append_right _ (List.mem_append_right _ (mem_pinsAt hb e)))).1,fun b hb=>?_,w7⟩
   obtain⟨o,e,d⟩:=T.obj _ _ st5 b hb
   exact (I7.pin (b,o) (List.mem_append_right _ (List.mem_append_right _ (mem_pinsAt hb e)))).2.1
  cases f with
  | next=>obtain⟨σ7,H7,I7,n7⟩:=q7; exact again I7 n7
  | cont=>obtain⟨σ7,H7,I7,n7⟩:=q7; exact again I7 n7
  | brk=>obtain⟨σ7,H7,I7,q7⟩:=q7; exact⟨σ7,H7,I7.unpinned,q7⟩
  | ret v=>obtain⟨x7,σ7,H7,I7,r7,q7⟩:=q7; exact⟨x7,σ7,H7,I7.unpinned,r7,q7⟩
end
theorem adw {lo:Int}{n:Nat}{g:TG}{tb:TS}{D:Ends}{σ:St}{H:Hp} (Pv:Nat→St→Hp→Prop) (h0:Pv 0 σ H)
  (hs:∀ i σ H,i<n→Pv i σ H→g (.int (lo+i)) σ H fun σ2 H2=>tb { D with nx:=Pv (i+1),ct:=Pv (i+1),bk:=D.nx } σ2 H2) (hd:∀ σ H,Pv n σ H→D.nx σ H) :
  ∃ W:Nat→Nat→St→Hp→Prop,(∃ m,W 0 m σ H)∧∀ i m σ H,W i m σ H →
   ((Itr lo n).stop i H∧D.nx σ H)∨((Itr lo n).go i H∧∃ N:St→Hp→Prop,(∀ σ' H',N σ' H'→∃ m',m'<m∧W (i+1) m' σ' H')∧∀ x H',(Itr lo n).yld i H x H'→g x σ H' fun σ2 H2=>tb { D with nx:=N,ct:=N,bk:=D.nx } σ2 H2):=by
 refine⟨fun i m σ H=>m=n - i∧i≤n∧Pv i σ H,⟨n,by simp,Nat.zero_le _,h0⟩,?_⟩
 rintro i m σ H ⟨rfl,hi,p⟩
 by_cases hlt:i<n
 ·refine .inr ⟨hlt,Pv (i+1),fun σ' H' p'=>⟨n - (i+1),by lia,rfl,hlt,p'⟩,fun x H' y=>?_⟩
  obtain⟨e,y⟩:=y
  subst e y
  exact hs i σ _ hlt p
 ·have e:i=n:=by lia
  subst e
  exact .inl ⟨Nat.le_refl _,hd σ H p⟩
end L2
namespace L2
open PySem PySem.Spec PyProof.Rows
abbrev R2:=V→V→Hp→VK→Prop
def OpR (X:Cx) (f:Value→Value→Sem Value) (r:R2):Prop :=
 ∀ (pins:List (Addr×Obj)) (s:Shared) (σ:St) (H:Hp) (x y:V) (v u:Value) (Q:VK),Inv X pins σ H s→RelV x v→RelV y u→r x y H Q →
  wpAny (model X.prog X.w) X.A (f v u) (EP X pins σ Q) X.xe s
def UnR (X:Cx) (f:Value→Sem Value) (r:V→Hp→VK→Prop):Prop :=
 ∀ (pins:List (Addr×Obj)) (s:Shared) (σ:St) (H:Hp) (x:V) (v:Value) (Q:VK),Inv X pins σ H s→RelV x v→r x H Q →
  wpAny (model X.prog X.w) X.A (f v) (EP X pins σ Q) X.xe s
def CallR (X:Cx) (f:Value) (r:List V→Hp→VK→Prop):Prop :=
 ∀ (pins:List (Addr×Obj)) (s:Shared) (σ:St) (H:Hp) (xs:List V) (us:List Value) (Q:VK),Inv X pins σ H s→Vals xs us→r xs H Q →
  wpAny (model X.prog X.w) X.A (call f us) (EP X pins σ Q) X.xe s
def aq3 (X:Cx) (r:V→Hp→(Bool→Hp→Prop)→Prop):Prop :=
 ∀ (pins:List (Addr×Obj)) (s:Shared) (σ:St) (H:Hp) (x:V) (v:Value) (Q:Bool→Hp→Prop),Inv X pins σ H s→RelV x v→r x H Q →
  wpAny (model X.prog X.w) X.A (truthy v) (TP X pins σ Q) X.xe s
def tOp (r:R2) (ta tb:TE):TE:=fun σ H Q=>ta σ H fun x H1=>tb σ H1 fun y H2=>r x y H2 Q
def tUn (r:V→Hp→VK→Prop) (ta:TE):TE:=fun σ H Q=>ta σ H fun x H1=>r x H1 Q
def rI (C:Int→Int→Prop) (g:Int→Int→V):R2:=fun x y H Q=>∃ i j,x=.int i∧y=.int j∧C i j∧Q (g i j) H
def rI0 (g:Int→Int→V):R2:=fun x y H Q=>∃ i j,x=.int i∧y=.int j∧Q (g i j) H
def rU (g:Int→V):V→Hp→VK→Prop:=fun x H Q=>∃ i,x=.int i∧Q (g i) H
section
variable {X:Cx}{a b c:Expr}{ta tb tc:TE}{pos:Pos}
theorem binT (ha:PE X a ta) (hb:PE X b tb) {pins:List (Addr×Obj)}{s:Shared}{σ:St}{H:Hp}{R:V→V→Hp→Prop} (I:Inv X pins σ H s)
  (h:ta σ H fun x H1=>tb σ H1 fun y H2=>R x y H2) {Q:Value→Shared→Prop}{f:Value→Value→Sem Value}
  (hf:∀ v u s2 x y H2,Inv X pins σ H2 s2→RelV x v→RelV y u→R x y H2→wpAny (model X.prog X.w) X.A (f v u) Q X.xe s2) :
  wpAny (model X.prog X.w) X.A (eval a X.env) (fun v s₁=>wpAny (model X.prog X.w) X.A (eval b X.env) (fun u s₂=>wpAny (model X.prog X.w) X.A (f v u) Q X.xe s₂) X.xe s₁) X.xe s:=by
 refine thn (ha pins s σ H _ I h) fun v s1 ⟨x,H1,I1,r1,q1⟩=>?_
 refine thn (hb pins s1 σ H1 _ I1 q1) fun u s2 ⟨y,H2,I2,r2,q2⟩=>?_
 exact hf v u s2 x y H2 I2 r1 r2 q2
theorem pe_op {op:Operator}{r:R2} (ho:OpR X (binaryOp op) r) (ha:PE X a ta) (hb:PE X b tb):PE X (.BinOp a op b pos) (tOp r ta tb):=by
 intro pins s σ H Q I h
 exact wpAny_BinOp (binT ha hb I h fun v u s2 x y H2 I2 rx ry q=>ho pins s2 σ H2 x y v u Q I2 rx ry q)
theorem akd {op:UnaryOp}{r:V→Hp→VK→Prop} (ho:UnR X (unaryOp op) r) (ha:PE X a ta):PE X (.UnaryOp op a pos) (tUn r ta):=by
 intro pins s σ H Q I h
 exact UnaryOp_ (thn (ha pins s σ H _ I h) fun v s1 ⟨x,H1,I1,r1,q1⟩=>ho pins s1 σ H1 x v Q I1 r1 q1)
theorem opI {f:Value→Value→Sem Value}{C:Int→Int→Prop}{g:Int→Int→Int}
  (rule:∀ (i j:Int) (t u:Tok) (s:Shared) (Q:Value→Shared→Prop) (E:Value→Shared→Prop),C i j→Q (.int (g i j) s.toks) { s with toks:=s.toks+1 }→wpAny (model X.prog X.w) X.A (f (.int i t) (.int j u)) Q E s) :
  OpR X f (rI C fun i j=>.int (g i j)):=by
 intro pins s σ H x y v u Q I rx ry h
 obtain⟨i,j,rfl,rfl,hc,q⟩:=h
 obtain⟨t,rfl⟩:=rx
 obtain⟨t',rfl⟩:=ry
 exact rule i j t t' s _ _ hc ⟨.int (g i j),H,I.tok _,⟨_,rfl⟩,q⟩
theorem opI0 {f:Value→Value→Sem Value}{g:Int→Int→Int}
  (rule:∀ (i j:Int) (t u:Tok) (s:Shared) (Q:Value→Shared→Prop) (E:Value→Shared→Prop),Q (.int (g i j) s.toks) { s with toks:=s.toks+1 }→wpAny (model X.prog X.w) X.A (f (.int i t) (.int j u)) Q E s) :
  OpR X f (rI0 fun i j=>.int (g i j)):=by
 intro pins s σ H x y v u Q I rx ry h
 obtain⟨i,j,rfl,rfl,q⟩:=h
 obtain⟨t,rfl⟩:=rx
 obtain⟨t',rfl⟩:=ry
 exact rule i j t t' s _ _ ⟨.int (g i j),H,I.tok _,⟨_,rfl⟩,q⟩
theorem opB0 {f:Value→Value→Sem Value}{g:Int→Int→Bool}
  (rule:∀ (i j:Int) (t u:Tok) (s:Shared) (Q:Value→Shared→Prop) (E:Value→Shared→Prop),Q (.bool (g i j)) s→wpAny (model X.prog X.w) X.A (f (.int i t) (.int j u)) Q E s) :
  OpR X f (rI0 fun i j=>.bl (g i j)):=by
 intro pins s σ H x y v u Q I rx ry h
 obtain⟨i,j,rfl,rfl,q⟩:=h
 obtain⟨t,rfl⟩:=rx
 obtain⟨t',rfl⟩:=ry
 exact rule i j t t' s _ _ ⟨.bl (g i j),H,I,rfl,q⟩
def CDiv (i j:Int):Prop:=0<j∧j<1073741824
def CMul (i j:Int):Prop:=(-(2 ^ 64)<i∧i<2 ^ 64)∨(-(2 ^ 64)<j∧j<2 ^ 64)
theorem CMul.ok {i j:Int} (h:CMul i j):IntMulOk i j:=by
 rcases h with⟨h1,h2⟩ | ⟨h1,h2⟩
 ·exact .of_left (intBits_le_64 h1 h2)
 ·exact .of_right (intBits_le_64 h1 h2)
theorem op_add:OpR X (binaryOp .Add) (rI0 fun i j=>.int (i+j)):=opI0 fun _ _ _ _ _ _ _ q=>add_int q
theorem op_sub:OpR X (binaryOp .Sub) (rI0 fun i j=>.int (i - j)):=opI0 fun _ _ _ _ _ _ _ q=>sub_int q
theorem sY:OpR X (binaryOp .Mult) (rI CMul fun i j=>.int (i * j)):=opI fun _ _ _ _ _ _ _ hc q=>mul_int q hc.ok
theorem op_fdiv:OpR X (binaryOp .FloorDiv) (rI CDiv fun i j=>.int (i / j)):=opI fun i j _ _ _ _ _ hc q=>by
 have h1:(0:Int)<j:=hc.1
 have h2:j<1073741824:=hc.2
 exact floordiv_int (by lia) (by rw [Int.fdiv_eq_ediv_of_nonneg i (by lia)]; exact q) (.inl (PyProof.noPylong_small (by lia)))
theorem op_mod:OpR X (binaryOp .Mod) (rI (fun _ j=>0<j) fun i j=>.int (i % j)):=opI fun i j _ _ _ _ _ hc q=>by
 have h1:(0:Int)<j:=hc
 exact mod_int' (by lia) (by rw [Int.fmod_eq_emod_of_nonneg i (by lia)]; exact q)
theorem unI {f:Value→Sem Value}{g:Int→Int}
  (rule:∀ (i:Int) (t:Tok) (s:Shared) (Q:Value→Shared→Prop) (E:Value→Shared→Prop),Q (.int (g i) s.toks) { s with toks:=s.toks+1 }→wpAny (model X.prog X.w) X.A (f (.int i t)) Q E s) :
  UnR X f (rU fun i=>.int (g i)):=by
 intro pins s σ H x v Q I rx h
 obtain⟨i,rfl,q⟩:=h
 obtain⟨t,rfl⟩:=rx
 exact rule i t s _ _ ⟨.int (g i),H,I.tok _,⟨_,rfl⟩,q⟩
theorem vD:UnR X (unaryOp .USub) (rU fun i=>.int (-i)):=unI fun _ _ _ _ _ q=>neg_int q
end
def scal:V→V→Bool
 | .non,.non=>true | .non,.int _=>true | .int _,.non=>true | .non,.bl _=>true | .bl _,.non=>true | .non,.str _=>true | .str _,.non=>true
 | .int _,.int _=>true | .bl _,.bl _=>true | .str _,.str _=>true | .byt _,.byt _=>true
 | .int _,.str _=>true | .str _,.int _=>true | .bl _,.str _=>true | .str _,.bl _=>true
 | _,_=>false
def rEq:R2:=fun x y H Q=>scal x y=true∧Q (.bl (decide (x=y))) H
def rNe:R2:=fun x y H Q=>scal x y=true∧Q (.bl (!decide (x=y))) H
theorem dec_int {i j:Int}:decide (V.int i=V.int j)=(i == j):=by
 rw [Bool.eq_iff_iff]
 simp
theorem dec_bl {i j:Bool}:decide (V.bl i=V.bl j)=(i == j):=by
 rw [Bool.eq_iff_iff]
 simp
theorem dec_str {i j:Str}:decide (V.str i=V.str j)=(i == j):=by
 rw [Bool.eq_iff_iff]
 simp
theorem dec_byt {i j:Array UInt8}:decide (V.byt i=V.byt j)=(i.toList == j.toList):=by
 rw [Bool.eq_iff_iff]
 cases i
 cases j
 simp
section
variable {X:Cx}{a b c:Expr}{ta tb tc:TE}{pos:Pos}
theorem fin_bl {pins:List (Addr×Obj)}{σ:St}{H:Hp}{s:Shared}{Q:VK}{k k':Bool} (I:Inv X pins σ H s) (q:Q (.bl k) H) (e:k=k'):EP X pins σ Q (.bool k') s:=by
 subst e
 exact⟨.bl k,H,I,rfl,q⟩
theorem op_eq:OpR X (compareOp .Eq) rEq:=by
 intro pins s σ H x y v u Q I rx ry h
 obtain⟨hs,q⟩:=h
 cases x with
 | non =>
  cases rx
  cases y with
  | non=>cases ry; exact PySem.EqNone.eq_none_none (fin_bl I q (by simp))
  | bl j=>cases ry; exact PySem.EqNone.eq_none_bool (fin_bl I q (by simp))
  | int j=>obtain⟨t',rfl⟩:=ry; exact PySem.EqNone.eq_none_int (fin_bl I q (by simp))
  | str j=>obtain⟨t',rfl⟩:=ry; exact PySem.EqNone.eq_none_str (fin_bl I q (by simp))
  | _=>exact absurd (show false=true from hs) Bool.false_ne_true
 | bl i =>
  cases rx
  cases y with
  | non=>cases ry; exact PySem.EqNone.eq_bool_none (fin_bl I q (by simp))
  | bl j=>cases ry; exact eq_bool (fin_bl I q dec_bl)
  | str j=>obtain⟨t',rfl⟩:=ry; exact PySem.EqMixed.eq_bool_str (fin_bl I q (by simp))
  | _=>exact absurd (show false=true from hs) Bool.false_ne_true
 | int i =>
  obtain⟨t,rfl⟩:=rx
  cases y with
  | non=>cases ry; exact PySem.EqNone.eq_int_none (fin_bl I q (by simp))
  | int j=>obtain⟨t',rfl⟩:=ry; exact eq_int (fin_bl I q dec_int)
  | str j=>obtain⟨t',rfl⟩:=ry; exact PySem.EqMixed.eq_int_str (fin_bl I q (by simp))
  | _=>exact absurd (show false=true from hs) Bool.false_ne_true
 | str i =>
  obtain⟨t,rfl⟩:=rx
  cases y with
  | non=>cases ry; exact PySem.EqNone.eq_str_none (fin_bl I q (by simp))
  | bl j=>cases ry; exact PySem.EqMixed.eq_str_bool (fin_bl I q (by simp))
  | int j=>obtain⟨t',rfl⟩:=ry; exact PySem.EqMixed.eq_str_int (fin_bl I q (by simp))
  | str j=>obtain⟨t',rfl⟩:=ry; exact eq_str (fin_bl I q dec_str)
  | _=>exact absurd (show false=true from hs) Bool.false_ne_true
 | byt i =>
  obtain⟨t,rfl⟩:=rx
  cases y with
  | byt j=>obtain⟨t',rfl⟩:=ry; exact PySem.W.eq_bytes (fin_bl I q dec_byt)
  | _=>exact absurd (show false=true from hs) Bool.false_ne_true
 | _=>cases y <;> exact absurd (show false=true from hs) Bool.false_ne_true
theorem op_ne:OpR X (compareOp .NotEq) rNe:=by
 intro pins s σ H x y v u Q I rx ry h
 obtain⟨hs,q⟩:=h
 cases x with
 | non =>
  cases rx
  cases y with
  | non=>cases ry; exact PySem.EqNone.ne_none_none (fin_bl I q (by simp))
  | bl j=>cases ry; exact PySem.EqNone.ne_none_bool (fin_bl I q (by simp))
  | int j=>obtain⟨t',rfl⟩:=ry; exact PySem.EqNone.ne_none_int (fin_bl I q (by simp))
  | str j=>obtain⟨t',rfl⟩:=ry; exact PySem.EqNone.ne_none_str (fin_bl I q (by simp))
  | _=>exact absurd (show false=true from hs) Bool.false_ne_true
 | bl i =>
  cases rx
  cases y with
  | non=>cases ry; exact PySem.EqNone.ne_bool_none (fin_bl I q (by simp))
  | bl j=>cases ry; exact ne_bool (fin_bl I q (congrArg not dec_bl))
  | str j=>obtain⟨t',rfl⟩:=ry; exact PySem.EqMixed.ne_bool_str (fin_bl I q (by simp))
  | _=>exact absurd (show false=true from hs) Bool.false_ne_true
 | int i =>
  obtain⟨t,rfl⟩:=rx
  cases y with
  | non=>cases ry; exact PySem.EqNone.ne_int_none (fin_bl I q (by simp))
  | int j=>obtain⟨t',rfl⟩:=ry; exact ne_int (fin_bl I q (congrArg not dec_int))
  | str j=>obtain⟨t',rfl⟩:=ry; exact PySem.EqMixed.ne_int_str (fin_bl I q (by simp))
  | _=>exact absurd (show false=true from hs) Bool.false_ne_true
 | str i =>
  obtain⟨t,rfl⟩:=rx
  cases y with
  | non=>cases ry; exact PySem.EqNone.ne_str_none (fin_bl I q (by simp))
  | bl j=>cases ry; exact PySem.EqMixed.ne_str_bool (fin_bl I q (by simp))
  | int j=>obtain⟨t',rfl⟩:=ry; exact PySem.EqMixed.ne_str_int (fin_bl I q (by simp))
  | str j=>obtain⟨t',rfl⟩:=ry; exact ne_str (fin_bl I q (congrArg not dec_str))
  | _=>exact absurd (show false=true from hs) Bool.false_ne_true
 | byt i =>
  obtain⟨t,rfl⟩:=rx
  cases y with
  | byt j=>obtain⟨t',rfl⟩:=ry; exact PySem.W.ne_bytes (fin_bl I q (congrArg not dec_byt))
  | _=>exact absurd (show false=true from hs) Bool.false_ne_true
 | _=>cases y <;> exact absurd (show false=true from hs) Bool.false_ne_true
theorem DG:OpR X (compareOp .Lt) (rI0 fun i j=>.bl (decide (i<j))):=opB0 fun _ _ _ _ _ _ _ q=>lt_int q
theorem aki:OpR X (compareOp .LtE) (rI0 fun i j=>.bl (decide (i≤j))):=opB0 fun _ _ _ _ _ _ _ q=>le_int q
theorem Ov:OpR X (compareOp .Gt) (rI0 fun i j=>.bl (decide (j<i))):=opB0 fun _ _ _ _ _ _ _ q=>gt_int q
theorem ac3:OpR X (compareOp .Is) (fun x y H Q=>y=.non∧Q (.bl (decide (x=.non))) H):=by
 intro pins s σ H x y v u Q I rx ry h
 obtain⟨rfl,q⟩:=h
 cases ry
 refine is_none_gen (fin_bl I q ?_)
 cases x <;> first
  | (cases rx; rfl)
  | (obtain⟨t,rfl⟩:=rx; rfl)
theorem nomark (b:Expr) {op:CmpOp} (h:op≠.In:=by decide) (h2:op≠.NotIn:=by decide):behindInMarks op b=false:=by
 have e1:(op == CmpOp.In)=false:=by cases op <;> first | rfl | exact absurd rfl h
 have e2:(op == CmpOp.NotIn)=false:=by cases op <;> first | rfl | exact absurd rfl h2
 cases b <;> simp [behindInMarks,e1,e2]
theorem pe_cmpR {op:CmpOp}{r:R2} (ho:OpR X (compareOp op) r) (ha:PE X a ta) (hb:PE X b tb) (hm:behindInMarks op b=false):PE X (.Compare a [op] [b] pos) (tOp r ta tb):=by
 intro pins s σ H Q I h
 exact wpAny_Compare1 (binT ha hb I h fun v u s2 x y H2 I2 rx ry q=>ho pins s2 σ H2 x y v u Q I2 rx ry q) hm
def tTest (t:TE):TT:=fun σ H Q=>t σ H fun x H'=>∃ k,x=.bl k∧Q k H'
theorem pt_cmpR {op:CmpOp}{r:R2} (ho:OpR X (compareOp op) r) (ha:PE X a ta) (hb:PE X b tb) (hm:behindInMarks op b=false):PT X (.Compare a [op] [b] pos) (tTest (tOp r ta tb)):=by
 intro pins s σ H Q I h
 refine wpAny_isTrue_Compare1 (thn (ha pins s σ H _ I h) fun v s1 ⟨x,H1,I1,r1,q1⟩=>thn (hb pins s1 σ H1 _ I1 q1) fun u s2 ⟨y,H2,I2,r2,q2⟩ =>
  thn (ho pins s2 σ H2 x y v u _ I2 r1 r2 q2) fun c s3 ⟨z,H3,I3,r3,k,e,q3⟩=>?_) hm
 subst e
 cases r3
 exact wpAny_truthy_bool ⟨H3,I3,q3⟩
def Yh (K:PySem.W.Frag) (x:V) (H:Hp) (k:Bool):Prop :=
 match x with
 | .non=>k=false
 | .bl b=>k=b
 | .int i=>k=(i != 0)
 | .str y=>y.length≤sizeLine∧k=((y.length:Int) != 0)
 | .byt y=>y.size≤sizeLine∧k=((y.size:Int) != 0)
 | .ref p=>(∃ xs,SqL K H p xs∧k=!xs.isEmpty)∨(∃ xs,SqT K H p xs∧k=!xs.isEmpty)∨∃ kvs,H p=some (.dK kvs)∧k=!kvs.isEmpty
 | _=>False
theorem abn {κ:Type}{kvs:List (κ×V)}{vs:List (κ×Value)} (r:KV kvs vs):(!vs.isEmpty)=!kvs.isEmpty:=by
 cases r <;> rfl
theorem Pk {xs:List V}{its:List Value} (r:Vals xs its):(!its.toArray.isEmpty)=!xs.isEmpty:=by
 cases r <;> simp
theorem line63:(sizeLine:Nat)<2 ^ 63:=by rw [sizeLine_eq]; decide
theorem acv:aq3 X (fun x H Q=>∃ k,Yh X.K x H k∧Q k H):=by
 intro pins s σ H x v Q I rx h
 obtain⟨k,e,q⟩:=h
 have hl:=line63
 have hs:sizeLine=16777216:=sizeLine_eq
 cases x with
 | non =>
  cases rx
  have e':k=false:=e
  subst e'
  exact truthy_none ⟨H,I,q⟩
 | bl b =>
  cases rx
  have e':k=b:=e
  subst e'
  exact wpAny_truthy_bool ⟨H,I,q⟩
 | int i =>
  obtain⟨t,rfl⟩:=rx
  have e':k=(i != 0):=e
  subst e'
  exact PySem.P.truthy_int ⟨H,I,q⟩
 | str y =>
  obtain⟨t,rfl⟩:=rx
  obtain⟨hy,e'⟩:y.length≤sizeLine∧k=((y.length:Int) != 0):=e
  subst e'
  exact PySem.P.truthy_str (by lia) ⟨H,I.tok _,q⟩
 | byt y =>
  obtain⟨t,rfl⟩:=rx
  obtain⟨hy,e'⟩:y.size≤sizeLine∧k=((y.size:Int) != 0):=e
  subst e'
  exact PySem.W.truthy_bytes (by lia) ⟨H,I.tok _,q⟩
 | ref p =>
  cases rx
  have e':(∃ xs,SqL X.K H p xs∧k=!xs.isEmpty)∨(∃ xs,SqT X.K H p xs∧k=!xs.isEmpty)∨∃ kvs,H p=some (.dK kvs)∧k=!kvs.isEmpty:=e
  rcases e' with⟨xs,hx,e'⟩ | ⟨xs,hx,e'⟩ | ⟨kvs,hx,e'⟩
  ·subst e'
   obtain⟨its,r,pl,hz⟩:=I.list hx
   have hlen:=r.length
   exact wpAny_truthy_list pl.isList (by simp only [List.size_toArray]; lia) ⟨H,I.tok _,by rw [Pk r]; exact q⟩
  ·subst e'
   obtain⟨its,r,pl,hz⟩:=I.tuple hx
   have hlen:=r.length
   exact truthy_tuple pl (by simp only [List.size_toArray]; lia) ⟨H,I.tok _,by rw [Pk r]; exact q⟩
  ·subst e'
   obtain⟨hz,hS,vs,r,m⟩:kvs.length≤sizeLine∧(p == sysModules)=false∧∃ vs,KV kvs vs∧s.heap.DictOf (mixKind X.prog X.w) p vs:=I.hok p _ hx
   have hlen:kvs.length=vs.length:=Paired.length r
   exact wpAny_truthy_dict hS m (by lia) ⟨H,I.tok _,by rw [abn r]; exact q⟩
 | _=>exact (show False from e).elim
theorem aeO (ha:PE X a ta) (he:∀ whole,isTrue a X.env whole=(do let v ← whole; standAt a.pos; holding [v] (truthy v))) :
  PT X a (fun σ H Q=>ta σ H fun x H'=>∃ k,Yh X.K x H' k∧Q k H'):=by
 intro pins s σ H Q I h
 exact isTrue_plain (thn (ha pins s σ H _ I h) fun v s1 ⟨x,H1,I1,r1,q1⟩=>acv pins s1 σ H1 x v Q I1 r1 q1) (he _)
theorem vals1 {x:V}{us:List Value} (r:Vals [x] us):∃ u,us=[u]∧RelV x u:=by
 cases r with
 | cons r1 r2=>cases r2; exact⟨_,rfl,r1⟩
theorem vals2 {x y:V}{us:List Value} (r:Vals [x,y] us):∃ u w',us=[u,w']∧RelV x u∧RelV y w':=by
 cases r with
 | cons r1 r2 =>
  cases r2 with
  | cons r3 r4=>cases r4; exact⟨_,_,rfl,r1,r3⟩
theorem adJ (hc:X.calm=true):CallR X (.builtin "min") (fun xs H Q=>∃ i j,xs=[.int i,.int j]∧Q (.int (if j<i then j else i)) H):=by
 intro pins s σ H xs us Q I r h
 obtain⟨i,j,rfl,q⟩:=h
 obtain⟨u,w',rfl,⟨t,rfl⟩,⟨t',rfl⟩⟩:=vals2 r
 refine min_two_ints (I.ok.hd hc) fun h' tk k=>⟨_,H,I.kept k,?_,q⟩
 by_cases hj:j<i
 ·rw [if_pos hj,if_pos hj]; exact⟨_,rfl⟩
 ·rw [if_neg hj,if_neg hj]; exact⟨_,rfl⟩
theorem adK:CallR X (.type "int") (fun xs H Q=>(∃ i,xs=[.int i]∧Q (.int i) H)∨∃ k,xs=[.bl k]∧Q (.int (if k then 1 else 0)) H):=by
 intro pins s σ H xs us Q I r h
 rcases h with⟨i,rfl,q⟩ | ⟨k,rfl,q⟩
 ·obtain⟨u,rfl,t,rfl⟩:=vals1 r
  exact call_int_int ⟨.int i,H,I,⟨_,rfl⟩,q⟩
 ·obtain⟨u,rfl,r1⟩:=vals1 r
  cases r1
  exact call_int_bool ⟨.int (if k then 1 else 0),H,I.tok _,⟨_,rfl⟩,q⟩
end
end L2
namespace L2
open PySem PySem.Spec PyProof.Rows
structure ObjM (h:Heap) (x dx C:Addr) (mA:Str→Option Value):Prop where
 obj:h.get? x=some (PySem.W.instObj C dx)
 ns:h.Ns1 dx mA
 ne:dx≠x
theorem lookIn_ns {h:Heap}{dx:Addr}{mA:Str→Option Value} (n:h.Ns1 dx mA):∃ od,h.get? dx=some od∧∀ name,PySem.W.lookIn name od=some (mA name):=by
 obtain⟨o,es,ep,ho,hd,hk,_,hm⟩:=n
 refine⟨o,ho,fun name=>?_⟩
 have e:=hm name
 unfold nsFind findBy at e
 rw [← Array.find?_toList] at e
 unfold PySem.W.lookIn
 rw [hd]
 dsimp only
 split
 ·rename_i y q
  rw [q] at e
  exact congrArg some e
 ·rename_i q
  rw [q] at e
  have a:es.toList.any (·.refKey)=false:=by
   rw [List.any_eq_false]
   intro y hy
   obtain⟨z,t,hkey⟩:=hk y (Array.mem_toList_iff.mp hy)
   simp [DictEntry.refKey,hkey]
  have a':¬ es.toList.any (·.refKey)=true:=by rw [a]; exact Bool.false_ne_true
  rw [if_neg a']
  exact congrArg some e
theorem ObjM.look {h:Heap}{x dx C:Addr}{mA:Str→Option Value} (I:ObjM h x dx C mA):∃ od,PySem.W.InstAt h x (PySem.W.instObj C dx) C (some od)∧∀ name,PySem.W.lookIn name od=some (mA name) :=
 let ⟨od,ho,hl⟩:=lookIn_ns I.ns
 ⟨od,⟨I.obj,rfl,rfl,ho⟩,hl⟩
section
variable {prog:Program}{w:World}{A:Around}{E:Value→Shared→Prop}{s:Shared}{K:PySem.W.Frag}{x dx C f:Addr}{mA:Str→Option Value}{name:Str}{v:Value}
theorem get_map {expr:Bool}{Q:Value→Shared→Prop} (X:K.In s.heap) (I:ObjM s.heap x dx C mA) (hg:PySem.W.plainGet K C name=true) (hh:PySem.W.hasDictIn K C=true)
  (ha:PySem.W.findIn K (.ref C) name=some none) (hv:mA name=some v) (hv':PySem.W.handedIn v=true) (h:Q v { s with toks:=s.toks+1 }) :
  wpAny (model prog w) A (getAttr (.ref x) name expr) Q E s:=by
 obtain⟨od,J,hl⟩:=I.look
 exact PySem.W.get_value X J (PySem.W.plainGet_of hg).1 (PySem.W.findObj_own hh ha rfl (by rw [hl,hv])) hv' h
theorem get_meth {pl:Sem Bool}{Q:Value×List Value→Shared→Prop} (X:K.In s.heap) (I:ObjM s.heap x dx C mA) (hg:PySem.W.plainGet K C name=true)
  (hf:PySem.W.findIn K (.ref C) name=some (some (.ref f))) (ht:PySem.W.isFn K (.ref f)=true) (hv:mA name=none) (h:Q (.ref f,[.ref x]) s) :
  wpAny (model prog w) A (getMethod (.ref x) name pl) Q E s:=by
 obtain⟨od,J,hl⟩:=I.look
 exact PySem.W.method_fn X J (PySem.W.plainGet_of hg).1 (PySem.W.plainGet_of hg).2 hf (beq_iff_eq.mp ht) (by show (PySem.W.lookIn name od).map (·.isSome)=some false; rw [hl,hv]; rfl) h
theorem set_map {ns:List Str}{Q:Unit→Shared→Prop} (X:K.In s.heap) (I:ObjM s.heap x dx C mA)
  (hs:PySem.W.findIn K (.ref C) "__setattr__"=some (some (.builtin "object.__setattr__"))) (hp:PySem.W.plainOver K C=true) (ht:PySem.W.takerIn K C name=some none) (hh:PySem.W.hasDictIn K C=true)
  (hw:PySem.Within mA ns) (hsz:ns.length≤sizeLine)
  (h:∀ h',ObjM h' x dx C (fun y=>if y=name then some v else mA y)→Heap.SameBut dx s.heap h'→Q () { s with heap:=h',toks:=s.toks+2 }) :
  wpAny (model prog w) A (setAttr (.ref x) name v) Q E s:=by
 obtain⟨od,J,hl⟩:=I.look
 refine PySem.W.set_plain X J hs (PySem.W.osa_open (s:={ s with toks:=s.toks+1 }) (r:=none) X J hp ht fun b=>?_)
 obtain⟨cd,hc,hd'⟩:=PySem.W.any_some hh
 have hx:s.heap.get? x=some ⟨.ref C,some dx,.plain,#[]⟩:=I.obj
 refine wpAny_bind (wpAny_pure (wpAny_bind (wpAny_bind (wpAny_loadPart hx (wpAny_bind (PySem.W.Looks.here (s:={ s with toks:=s.toks+1 }) (PySem.W.looks_clsIn X hc) ?_))))))
 rw [hd']
 refine wpAny_pure (a:=some dx) (wpAny_bind (wpAny_pure (wpAny_bind ?_)))
 refine wpAny_nsSet1 (s:={ s with toks:=s.toks+1 }) I.ns fun h' hn2 hs2=>?_
 obtain⟨oD,esD,epD,hoD,hdD,hcD⟩:=hn2.count (PySem.Within.cons name v hw)
 refine wpAny_bind (wpAny_lookBehind hoD (by rw [hdD]; exact pastItsLine_dict (Nat.le_trans hcD (by rw [List.length_cons]; lia))) ?_)
 exact wpAny_pure (h _ ⟨(hs2.2 _ (Ne.symm I.ne)).trans I.obj,hn2,I.ne⟩ hs2)
theorem make_map {R:Result→Shared→Prop}{vs:List Value}{kw:List (Str×Value)} (X:K.In s.heap) (hm:PySem.W.makesIn K C=true)
  (hi:PySem.W.findIn K (.ref C) "__init__"=some (some (.ref f))) (hf:PySem.W.typeIn K (.ref f)=some (.type "function"))
  (h:codeAny (model prog w) (A.under (.builtin "type.__call__" ⟨.ref C::vs,kw⟩)) (.call (.ref f) ⟨.ref (s.heap.objs.size+1)::vs,kw⟩) (PySem.W.InitBack (s.heap.objs.size+1) R)
   { s with heap:=(s.heap.push PySem.W.emptyDict).push (PySem.W.instObj C s.heap.objs.size) }) :
  codeAny (model prog w) A (.call (.ref C) ⟨vs,kw⟩) R s:=by
 obtain⟨hh,g,d,t,os⟩:=s
 exact PySem.W.make_core (PySem.W.makes_of X hm) (PySem.W.looks_findIn X hi) (fun self=>PySem.W.bind_fn X self hf) (.inl rfl) h
end
def putF (f:Str) (v:V):List (Str×V)→List (Str×V)
 | []=>[(f,v)]
 | (g,x)::r=>if g=f then (g,v)::r else (g,x)::putF f v r
theorem lookup_putF (f g:Str) (v:V):∀ fs:List (Str×V),(putF f v fs).lookup g=if g=f then some v else fs.lookup g
 | []=>by
  show List.lookup g [(f,v)]=_
  by_cases h:g=f
  ·have hb:(g == f)=true:=beq_iff_eq.mpr h
   simp only [List.lookup,hb,if_pos h]
  ·have hb:(g == f)=false:=beq_eq_false_iff_ne.mpr h
   simp only [List.lookup,hb,if_neg h]
 | (k,x)::r=>by
  have ih:=lookup_putF f g v r
  rw [show putF f v ((k,x)::r)=(if k=f then (k,v)::r else (k,x)::putF f v r) from rfl]
  by_cases hk:k=f
  ·rw [if_pos hk]
   by_cases h:g=k
   ·have hb:(g == k)=true:=beq_iff_eq.mpr h
    simp only [List.lookup,hb,if_pos (h.trans hk)]
   ·have hb:(g == k)=false:=beq_eq_false_iff_ne.mpr h
    simp only [List.lookup,hb,if_neg (fun e:g=f=>h (e.trans hk.symm))]
  ·rw [if_neg hk]
   by_cases h:g=k
   ·have hb:(g == k)=true:=beq_iff_eq.mpr h
    simp only [List.lookup,hb,if_neg (fun e:g=f=>hk (h.symm.trans e))]
   ·have hb:(g == k)=false:=beq_eq_false_iff_ne.mpr h
    simp only [List.lookup,hb]
    exact ih
theorem keys_putF (f:Str) (v:V):∀ fs:List (Str×V),f∈(putF f v fs).map (·.1)∧∀ g,g∈fs.map (·.1)→g∈(putF f v fs).map (·.1)
 | []=>⟨by simp [putF],fun g h=>by simp at h⟩
 | (k,x)::r=>by
  obtain⟨i1,i2⟩:=keys_putF f v r
  rw [show putF f v ((k,x)::r)=(if k=f then (k,v)::r else (k,x)::putF f v r) from rfl]
  by_cases hk:k=f
  ·rw [if_pos hk]
   subst hk
   exact⟨by simp,fun g h=>by simpa using h⟩
  ·rw [if_neg hk]
   refine⟨?_,fun g h=>?_⟩
   ·rw [List.map_cons]
    exact List.mem_cons_of_mem _ i1
   ·rw [List.map_cons] at h ⊢
    rcases List.mem_cons.mp h with e | e
    ·exact List.mem_cons.mpr (.inl e)
    ·exact List.mem_cons_of_mem _ (i2 g e)
theorem length_putF (f:Str) (v:V):∀ fs:List (Str×V),(putF f v fs).length≤fs.length+1
 | []=>by simp [putF]
 | (k,x)::r=>by
  have ih:=length_putF f v r
  rw [show putF f v ((k,x)::r)=(if k=f then (k,v)::r else (k,x)::putF f v r) from rfl]
  by_cases hk:k=f
  ·rw [if_pos hk,List.length_cons,List.length_cons]; lia
  ·rw [if_neg hk,List.length_cons,List.length_cons]; lia
theorem RelO.some_of {v:V}{o:Option Value} (r:RelO (some v) o):∃ u,o=some u∧RelV v u:=by
 cases o with
 | none=>exact (show False from r).elim
 | some u=>exact⟨u,rfl,r⟩
theorem RelO.none_of {o:Option Value} (r:RelO none o):o=none:=by
 cases o with
 | none=>rfl
 | some u=>exact (show False from r).elim
theorem handed_of {v:V}{u:Value} (r:RelV v u):PySem.W.handedIn u=true:=by
 cases v with
 | non=>cases (show u=Value.none from r); rfl
 | bl b=>cases (show u=Value.bool b from r); rfl
 | int i=>obtain⟨t,e⟩:=(show ∃ t,u=Value.int i t from r); cases e; rfl
 | str x=>obtain⟨t,e⟩:=(show ∃ t,u=Value.str x t from r); cases e; rfl
 | byt b=>obtain⟨t,e⟩:=(show ∃ t,u=Value.bytes b t from r); cases e; rfl
 | flt b=>obtain⟨t,e⟩:=(show ∃ t,u=Value.float b t from r); cases e; rfl
 | ref a=>cases (show u=Value.ref a from r); rfl
 | ty n=>cases (show u=Value.type n from r); rfl
section
variable {P:Program}{w:World}{H H':Hp}{h h':Heap}{a C dx:Addr}{fs fs':List (Str×V)}
theorem ins_get (hok:HOk P w H h) (e:H a=some (.ins C dx fs)):∃ mA,ObjM h a dx C mA∧(∀ f,RelO (fs.lookup f) (mA f))∧PySem.Within mA (fs.map (·.1))∧fs.length≤1000∧H dx=some (.own a):=by
 obtain⟨d,z,ne,ob,mA,n,r,q⟩:=(show ObjOk P w H h a (.ins C dx fs) from hok a _ e)
 exact⟨mA,⟨ob,n,ne⟩,r,q,z,d⟩
end
structure Cls (K:PySem.W.Frag) (C:Addr):Prop where
 pg:PySem.W.plainGet K C Str.empty=true
 hd:PySem.W.hasDictIn K C=true
 po:PySem.W.plainOver K C=true
 sa:PySem.W.findIn K (.ref C) "__setattr__"=some (some (.builtin "object.__setattr__"))
theorem Cls.get {K:PySem.W.Frag}{C:Addr} (c:Cls K C) (f:Str):PySem.W.plainGet K C f=true:=c.pg
def NoAttr (K:PySem.W.Frag) (C:Addr) (f:Str):Prop:=PySem.W.findIn K (.ref C) f=some none
theorem NoAttr.taker {K:PySem.W.Frag}{C:Addr}{f:Str} (n:NoAttr K C f):PySem.W.takerIn K C f=some none:=by
 unfold PySem.W.takerIn
 rw [show PySem.W.findIn K (.ref C) f=some none from n]
 rfl
structure Meth (K:PySem.W.Frag) (C:Addr) (m:Str) (f:Addr):Prop where
 at_:PySem.W.findIn K (.ref C) m=some (some (.ref f))
 fn:PySem.W.isFn K (.ref f)=true
 kp:PySem.W.keepIn K (.ref f)=true
section
variable {X:Cx}{pins:List (Addr×Obj)}{σ:St}{H:Hp}{s:Shared}{a C dx:Addr}{fs:List (Str×V)}{f:Str}{v:V}{A:Around}{E:Value→Shared→Prop}
theorem getattr_ok {b:Bool}{Q:Value→Shared→Prop} (I:Inv X pins σ H s) (e:H a=some (.ins C dx fs)) (c:Cls X.K C) (n:NoAttr X.K C f) (l:fs.lookup f=some v)
  (h:∀ u s',Inv X pins σ H s'→RelV v u→Q u s'):wpAny (model X.prog X.w) A (getAttr (.ref a) f b) Q E s:=by
 obtain⟨mA,O,r,_,_,_⟩:=ins_get I.hok e
 obtain⟨u,hu,ru⟩:=RelO.some_of (v:=v) (o:=mA f) (by rw [← l]; exact r f)
 exact get_map I.kIn O (c.get f) c.hd n hu (handed_of ru) (h u _ (I.tok _) ru)
theorem getmeth_ok {m:Str}{g:Addr}{pl:Sem Bool}{Q:Value×List Value→Shared→Prop} (I:Inv X pins σ H s) (e:H a=some (.ins C dx fs)) (c:Cls X.K C) (k:Meth X.K C m g) (l:fs.lookup m=none)
  (h:Q (.ref g,[.ref a]) s):wpAny (model X.prog X.w) A (getMethod (.ref a) m pl) Q E s:=by
 obtain⟨mA,O,r,_,_,_⟩:=ins_get I.hok e
 have hn:mA m=none:=RelO.none_of (by rw [← l]; exact r m)
 exact get_meth I.kIn O (c.get m) k.at_ k.fn hn h
theorem setattr_ok {y:V}{u:Value}{Q:Unit→Shared→Prop} (I:Inv X pins σ H s) (e:H a=some (.ins C dx fs)) (c:Cls X.K C) (n:NoAttr X.K C f) (hl:fs.length<1000) (ry:RelV y u)
  (h:∀ s',Inv X pins σ (upd H a (.ins C dx (putF f y fs))) s'→Q () s'):wpAny (model X.prog X.w) A (setAttr (.ref a) f u) Q E s:=by
 obtain⟨mA,O,r,wi,_,ho⟩:=ins_get I.hok e
 have hz:(fs.map (·.1)).length≤sizeLine:=by rw [List.length_map,sizeLine_eq]; lia
 refine set_map I.kIn O c.sa c.po n.taker c.hd wi hz fun h' O' sb=>h _ ?_
 have hd:∃ o,h'.get? dx=some o:=let ⟨o,_,_,e',_⟩:=O'.ns; ⟨o,e'⟩
 refine I.write (x:=a) (e:=dx) (by rw [e]; exact True.intro) (.inr ho) (fun b q hb z=>(sb.2 b hb).trans z) hd ?_
 refine⟨by rw [upd_ne O.ne]; exact ho,?_,O.ne,O'.obj,_,O'.ns,fun g=>?_,fun g hg=>?_⟩
 ·have:=length_putF f y fs; lia
 ·show RelO ((putF f y fs).lookup g) (if g=f then some u else mA g)
  rw [lookup_putF]
  by_cases q:g=f
  ·rw [if_pos q,if_pos q]; exact ry
  ·rw [if_neg q,if_neg q]; exact r g
 ·by_cases q:g=f
  ·rw [q]; exact (keys_putF f y fs).1
  ·refine (keys_putF f y fs).2 g (wi g fun z=>hg ?_)
   show (if g=f then some u else mA g)=none
   rw [if_neg q]; exact z
theorem Inv.made (I:Inv X pins σ H s):Inv X pins σ (upd (upd H s.heap.objs.size (.own (s.heap.objs.size+1))) (s.heap.objs.size+1) (.ins C s.heap.objs.size []))
  { s with heap:=(s.heap.push PySem.W.emptyDict).push (PySem.W.instObj C s.heap.objs.size) }:=by
 have e1:(s.heap.push PySem.W.emptyDict).get? s.heap.objs.size=some PySem.W.emptyDict:=Heap.get?_push_size s.heap rfl
 have e2:((s.heap.push PySem.W.emptyDict).push (PySem.W.instObj C s.heap.objs.size)).get? (s.heap.objs.size+1)=some (PySem.W.instObj C s.heap.objs.size):=by
  have:=Heap.get?_push_size (s.heap.push PySem.W.emptyDict) (o:=PySem.W.instObj C s.heap.objs.size) rfl
  rwa [Heap.size_push] at this
 have e3:(s.heap.push PySem.W.emptyDict).Ns s.heap.objs.size (fun _=>none):=⟨PySem.W.emptyDict,#[],_,e1,rfl,(fun e he=>absurd he (by simp)),fun _=>rfl⟩
 have I1:=I.laid (a:=s.heap.objs.size) (o:=.own (s.heap.objs.size+1)) (h':=s.heap.push PySem.W.emptyDict) (t':=s.toks) (fun b u q=>Heap.get?_push_of_some _ q) (Nat.le_refl _) ⟨_,e1⟩
 refine I1.laid (a:=s.heap.objs.size+1) (o:=.ins C s.heap.objs.size []) (t':=s.toks) (fun b u q=>Heap.get?_push_of_some _ q) (Nat.le_of_eq (Heap.size_push _ _)) ?_
 have ne:s.heap.objs.size≠s.heap.objs.size+1:=Nat.ne_of_lt (Nat.lt_succ_self _)
 refine⟨by rw [upd_ne ne,upd_same],Nat.zero_le _,ne,e2,fun _=>none,(Heap.Ns1.of_empty e3).at fun o q=>Heap.get?_push_of_some _ q,fun _=>True.intro,fun y hy=>absurd rfl hy⟩
theorem attr_of {prog:Program}{w:World}{env:Env}{e:Expr}{f:Str}{pos:Pos}{s:Shared}{Q:Value→Shared→Prop} (hb:attributeBase e f env (eval e env)=eval e env)
  (h:wpAny (model prog w) A (eval e env) (fun o s₁=>wpAny (model prog w) A (getAttr o f true) Q E s₁) E s):wpAny (model prog w) A (eval (.Attribute e f pos) env) Q E s :=
 Attribute_any_ h (by rw [arm_eval_Attribute,hb])
end
def tFld (K:PySem.W.Frag) (ta:TE) (f:Str):TE:=fun σ H Q=>ta σ H fun x H1=>∃ a C dx fs v,x=.ref a∧H1 a=some (.ins C dx fs)∧Cls K C∧NoAttr K C f∧fs.lookup f=some v∧Q v H1
def sFld (K:PySem.W.Frag) (ta tv:TE) (f:Str):TS:=fun D σ H=>tv σ H fun y H1=>ta σ H1 fun x H2=>∃ a C dx fs,x=.ref a∧H2 a=some (.ins C dx fs)∧Cls K C∧NoAttr K C f∧fs.length<1000 ∧
 D.nx σ (upd H2 a (.ins C dx (putF f y fs)))
def ab5 (X:Cx) (op:Operator) (rd:V→V→Hp→VK→Prop):Prop :=
 ∀ (pins:List (Addr×Obj)) (s:Shared) (σ:St) (H:Hp) (x y:V) (u v:Value) (Q:VK),Inv X pins σ H s→RelV x u→RelV y v→rd x y H Q→wpAny (model X.prog X.w) X.A (inplaceOp op u v) (EP X pins σ Q) X.xe s
def ZW (K:PySem.W.Frag) (ta tv:TE) (rd:V→V→Hp→VK→Prop) (f:Str):TS:=fun D σ H=>ta σ H fun x H1=>∃ a C dx fs v,x=.ref a∧H1 a=some (.ins C dx fs)∧Cls K C∧NoAttr K C f∧fs.lookup f=some v ∧
 tv σ H1 fun y H2=>rd v y H2 fun z H3=>∃ dx' fs',H3 a=some (.ins C dx' fs')∧fs'.length<1000∧D.nx σ (upd H3 a (.ins C dx' (putF f z fs')))
section
variable {X:Cx}{o e value:Expr}{f:Str}{pos pos' tpos:Pos}{ta tv:TE}
theorem pe_fld (he:PE X e ta) (hb:attributeBase e f X.env (eval e X.env)=eval e X.env):PE X (.Attribute e f pos) (tFld X.K ta f):=by
 intro pins s σ H Q I h
 refine attr_of hb (thn (he pins s σ H _ I h) fun u s1 ⟨x,H1,I1,rx,a,C,dx,fs,v,ex,ea,c,n,l,q⟩=>?_)
 subst ex
 obtain rfl:u=Value.ref a:=rx
 exact getattr_ok I1 ea c n l fun u' s2 I2 ru=>⟨v,H1,I2,ru,q⟩
theorem ps_fld (ha:PE X o ta) (hv:PE X value tv) (hs:swapsWith value (some (.Attribute o f pos')) pos.line X.env=pure false):PS X (.Assign [.Attribute o f pos'] value pos) (sFld X.K ta tv f):=by
 intro pins s σ H D I h
 refine plainObj_wpAny_Assign_Attribute (thn (hv pins s σ H _ I h) fun u s1 ⟨y,H1,I1,ry,q⟩=>thn (ha pins s1 σ H1 _ I1 q) fun ov s2 ⟨x,H2,I2,rx,a,C,dx,fs,ex,ea,c,n,l,q2⟩=>?_) hs
 subst ex
 obtain rfl:ov=Value.ref a:=rx
 exact setattr_ok I2 ea c n l ry fun s3 I3=>⟨σ,_,I3,q2⟩
theorem acU {op:Operator}{rd:V→V→Hp→VK→Prop} (ha:PE X o ta) (hv:PE X value tv) (hop:ab5 X op rd):PS X (.AugAssign (.Attribute o f tpos) op value pos) (ZW X.K ta tv rd f):=by
 intro pins s σ H D I h
 refine wpAny_AugAssign_AttributeAny (thn (ha pins s σ H _ I h) fun ov s1 ⟨x,H1,I1,rx,a,C,dx,fs,v,ex,ea,c,n,l,q⟩=>?_)
 subst ex
 obtain rfl:ov=Value.ref a:=rx
 refine getattr_ok I1 ea c n l fun u s2 I2 ru=>thn (hv pins s2 σ H1 _ I2 q) fun w3 s3 ⟨y,H2,I3,ry,q3⟩=>thn (hop pins s3 σ H2 v y u w3 _ I3 ru ry q3) fun w4 s4 ⟨z,H3,I4,rz,dx',fs',ea',l',q4⟩=>?_
 exact setattr_ok I4 ea' c n l' rz fun s5 I5=>⟨σ,_,I5,q4⟩
def alr:V→V→Hp→VK→Prop:=fun x y H Q=>∃ i j,x=.int i∧y=.int j∧Q (.int (i+j)) H
def alk:V→V→Hp→VK→Prop:=fun x y H Q=>∃ i j,x=.int i∧y=.int j∧Q (.int (i - j)) H
theorem aiy:ab5 X .Add alr:=by
 rintro pins s σ H x y u v Q I rx ry ⟨i,j,rfl,rfl,q⟩
 obtain⟨t,rfl⟩:=(show ∃ t,u=Value.int i t from rx)
 obtain⟨t',rfl⟩:=(show ∃ t',v=Value.int j t' from ry)
 exact PyProof.Rows.iadd_int ⟨.int (i+j),H,I.tok _,⟨_,rfl⟩,q⟩
theorem aix:ab5 X .Sub alk:=by
 rintro pins s σ H x y u v Q I rx ry ⟨i,j,rfl,rfl,q⟩
 obtain⟨t,rfl⟩:=(show ∃ t,u=Value.int i t from rx)
 obtain⟨t',rfl⟩:=(show ∃ t',v=Value.int j t' from ry)
 exact PyProof.Rows.isub_int ⟨.int (i - j),H,I.tok _,⟨_,rfl⟩,q⟩
end
section
variable {X:Cx}{pins:List (Addr×Obj)}{σ:St}{H:Hp}{s:Shared}{A:Around}{E:Value→Shared→Prop}{Q:Value→Shared→Prop}{c:Value}{b:Bool}
inductive TyOf (K:PySem.W.Frag) (H:Hp):V→Value→Prop where
 | non:TyOf K H .non (.type "NoneType")
 | bl (x:Bool):TyOf K H (.bl x) (.type "bool")
 | int (i:Int):TyOf K H (.int i) (.type "int")
 | str (x:Str):TyOf K H (.str x) (.type "str")
 | flt (x:UInt64):TyOf K H (.flt x) (.type "float")
 | lst {a:Addr}{xs:List V} (e:H a=some (.lst xs)):TyOf K H (.ref a) (.type "list")
 | frz {a:Addr}{o:Obj}{xs:List V} (e:H a=some (.frz o (.lst xs))):TyOf K H (.ref a) (.type "list")
 | tup {a:Addr}{xs:List V} (e:H a=some (.tup xs)):TyOf K H (.ref a) (.type "tuple")
 | dK {a:Addr}{kvs:List (Key×V)} (e:H a=some (.dK kvs)):TyOf K H (.ref a) (.type "dict")
 | dT {a:Addr}{kvs:List (List Key×V)} (e:H a=some (.dT kvs)):TyOf K H (.ref a) (.type "dict")
 | ins {a C dx:Addr}{fs:List (Str×V)} (e:H a=some (.ins C dx fs)) (cl:Cls K C) (ha:PySem.W.findIn K (.ref C) "__class__"=some (some (.builtin "object.__class__")))
   (hn:PySem.W.specialIn K (.builtin "object.__class__") "__get__"=some (some (.builtin "getset_descriptor.__get__"))) (htk:PySem.W.takesIn K (.builtin "object.__class__")=some true)
   (hm:PySem.W.mroIn K C (.type "object")=some true):TyOf K H (.ref a) (.ref C)
theorem adv {x:V}{u t:Value} (I:Inv X pins σ H s) (rx:RelV x u) (ty:TyOf X.K H x t) (e:PySem.W.kitOne X.K t c=some b) (h:∀ tk,Q (.bool b) { s with toks:=tk }) :
  wpAny (model X.prog X.w) A (call (.builtin "isinstance") [u,c]) Q E s:=by
 cases ty with
 | non=>cases (show u=Value.none from rx); exact PySem.W.kia_one PySem.W.kitx_none I.kIn True.intro e (fun z=>nomatch z) h
 | bl y=>cases (show u=Value.bool y from rx); exact PySem.W.kia_one PySem.W.kitx_bool I.kIn True.intro e (fun z=>nomatch z) h
 | int i=>obtain⟨t,q⟩:=(show ∃ t,u=Value.int i t from rx); cases q; exact PySem.W.kia_one PySem.W.kitx_int I.kIn True.intro e (fun z=>nomatch z) h
 | str y=>obtain⟨t,q⟩:=(show ∃ t,u=Value.str y t from rx); cases q; exact PySem.W.kia_one PySem.W.kitx_str I.kIn True.intro e (fun z=>nomatch z) h
 | flt y=>obtain⟨t,q⟩:=(show ∃ t,u=Value.float y t from rx); cases q; exact PySem.W.kia_one PySem.W.kitx_float I.kIn True.intro e (fun z=>nomatch z) h
 | @lst a xs ea =>
  cases (show u=Value.ref a from rx)
  obtain⟨_,_,n,_,h1⟩:=(show ObjOk X.prog X.w H s.heap a (.lst xs) from I.hok a _ ea)
  exact PySem.W.kia_one PySem.W.kitx_list I.kIn ⟨_,h1,rfl⟩ e (fun z=>nomatch z) h
 | @frz a ob xs ea =>
  cases (show u=Value.ref a from rx)
  obtain⟨_,_,_,n,_,h1⟩:=(show ObjOk X.prog X.w H s.heap a (.frz ob (.lst xs)) from I.hok a _ ea)
  exact PySem.W.kia_one PySem.W.kitx_list I.kIn ⟨_,h1,rfl⟩ e (fun z=>nomatch z) h
 | @tup a xs ea =>
  cases (show u=Value.ref a from rx)
  obtain⟨_,_,_,p⟩:=(show ObjOk X.prog X.w H s.heap a (.tup xs) from I.hok a _ ea)
  obtain⟨o,h1,h2,_⟩:=p
  exact PySem.W.kia_one PySem.W.kitx_tuple I.kIn ⟨o,h1,h2⟩ e (fun z=>nomatch z) h
 | @dK a kvs ea =>
  cases (show u=Value.ref a from rx)
  obtain⟨_,_,vs,_,p⟩:=(show ObjOk X.prog X.w H s.heap a (.dK kvs) from I.hok a _ ea)
  obtain⟨o,es,ep,h1,h2,_⟩:=p
  exact PySem.W.kia_one PySem.W.kitx_dict I.kIn ⟨o,h1,h2.1⟩ e (fun z=>nomatch z) h
 | @dT a kvs ea =>
  cases (show u=Value.ref a from rx)
  obtain⟨_,_,xs,_,o,es,ep,h1,h2,_⟩:=(show ObjOk X.prog X.w H s.heap a (.dT kvs) from I.hok a _ ea)
  exact PySem.W.kia_one PySem.W.kitx_dict I.kIn ⟨o,h1,h2.1⟩ e (fun z=>nomatch z) h
 | @ins a C dx fs ea cl ha hn htk hm =>
  cases (show u=Value.ref a from rx)
  obtain⟨mA,O,_⟩:=ins_get I.hok ea
  obtain⟨od,J,_⟩:=O.look
  exact PySem.W.kia_one (PySem.W.kitx_own (cl.get _) cl.hd ha hn htk hm) I.kIn J e (fun z=>nomatch z) h
end
end L2
namespace L2
open PySem PySem.Spec PyProof.Rows
structure Room (k:Nat) (A:Around):Prop where
 hd:A.handled=none
 dp:A.depth+3 * k+5<recursionLimit
 un:A.units+16 * k+200<cLine
theorem Room.mono {j k:Nat}{A:Around} (r:Room k A) (h:j≤k):Room j A:=⟨r.hd,by have:=r.dp; lia,by have:=r.un; lia⟩
theorem Room.deeper {k:Nat}{A:Around} (r:Room (k+1) A) (env:Env):Room k (A.deeper env) :=
 ⟨r.hd,by have:=r.dp; show A.depth+1+3 * k+5<_; lia,by have:=r.un; show A.units+3+16 * k+200<_; lia⟩
theorem make_depth {A:Around}{C:Addr}{us:List Value}{kw:List (Str×Value)}:(A.under (.builtin "type.__call__" ⟨.ref C::us,kw⟩)).depth=A.depth+1:=by
 first | rfl | simp [Around.under,Code.weight,Code.isCreation,Code.isGuard,Code.isCaller,Code.frames,Code.isFrame,guardIds]
theorem make_units {A:Around}{C:Addr}{us:List Value}{kw:List (Str×Value)}:(A.under (.builtin "type.__call__" ⟨.ref C::us,kw⟩)).units=A.units+1:=by
 first | rfl | simp [Around.under,Code.cUnits,Code.frames,Code.isFrame]
theorem Room.make {k:Nat}{A:Around} (r:Room (k+1) A) (C:Addr) (us:List Value) (kw:List (Str×Value)):Room k (A.under (.builtin "type.__call__" ⟨.ref C::us,kw⟩)) :=
 ⟨r.hd,by have:=r.dp; rw [make_depth]; lia,by have:=r.un; rw [make_units]; lia⟩
theorem Room.depth {k:Nat}{A:Around} (r:Room k A):A.depth<recursionLimit:=by have:=r.dp; lia
def tNil:TA:=fun _ H Q=>Q [] H
def tCons (ta:TE) (tr:TA):TA:=fun σ H Q=>ta σ H fun x H1=>tr σ H1 fun xs H2=>Q (x::xs) H2
section
variable {X:Cx}{e:Expr}{es:List Expr}{te:TE}{t:TA}{pos:Pos}
theorem pa_nil:PA X [] tNil:=fun _ _ _ _ H Q I h=>Calls.spliced_nil ⟨[],H,I,.nil,h⟩
theorem pa_cons (ha:PE X e te) (hr:PA X es t) (hs:starEach (e::es) X.env=(false,eval e X.env)::starEach es X.env:=by rfl):PA X (e::es) (tCons te t):=by
 intro pos pins s σ H Q I h
 rw [hs]
 show wpAny _ _ (spliced ((false,eval e X.env)::backTo pos (starEach es X.env))) _ _ s
 refine Calls.spliced_cons (thn (ha pins s σ H _ I h) fun u s1 ⟨x,H1,I1,r1,q1⟩=>?_)
 exact thn (hr pos pins s1 σ H1 _ I1 q1) fun us s2 ⟨xs,H2,I2,r2,q2⟩=>⟨x::xs,H2,I2,.cons r1 r2,q2⟩
def ahp (t:TA):TE:=fun σ H Q=>t σ H fun xs H1=>xs.length≤sizeLine∧∀ p,H1 p=none→Q (.ref p) (upd H1 p (.tup xs))
def tLst (t:TA):TE:=fun σ H Q=>t σ H fun xs H1=>xs.length≤sizeLine∧∀ p,H1 p=none→Q (.ref p) (upd H1 p (.lst xs))
theorem ahV {x1} (h:PA X es t):PE X (.Tuple es x1 pos) (ahp t):=by
 intro pins s σ H Q I hq
 refine wpAny_Tuple_spliced (thn (h pos pins s σ H _ I hq) fun us s1 ⟨xs,H1,I1,r,z,q⟩=>⟨by rw [← r.length]; exact z,?_⟩)
 have hf:H1 s1.heap.objs.size=none:=I1.hok.fresh (Nat.le_refl _)
 refine⟨.ref s1.heap.objs.size,upd H1 s1.heap.objs.size (.tup xs),I1.laid (t':=s1.toks) (fun b u e=>Heap.get?_push_of_some _ e) (Nat.le_refl _) ?_,rfl,q _ hf⟩
 exact⟨z,us,r,⟨_,Heap.get?_push_size _ rfl,rfl,_,rfl⟩⟩
theorem pe_lst (h:PA X es t):PE X (.List es pos) (tLst t):=by
 intro pins s σ H Q I hq
 refine wpAny_List_spliced (thn (h pos pins s σ H _ I hq) fun us s1 ⟨xs,H1,I1,r,z,q⟩=>⟨by rw [← r.length]; exact z,?_⟩)
 have hf:H1 s1.heap.objs.size=none:=I1.hok.fresh (Nat.le_refl _)
 refine⟨.ref s1.heap.objs.size,upd H1 s1.heap.objs.size (.lst xs),I1.laid (t':=s1.toks) (fun b u e=>Heap.get?_push_of_some _ e) (Nat.le_refl _) ?_,rfl,q _ hf⟩
 exact⟨z,us,0,r,Heap.get?_push_size _ rfl⟩
end
abbrev Sp:=List V→Hp→VK→XK→Prop
abbrev CXT:=List Env→Hp→Shared→XK→Value→Shared→Prop
structure Env0 (P:Program) (w:World) (K:PySem.W.Frag) (mg:Str→Option Value) (base:Heap) (A:Around) (outer:List Env) (s:Shared) (H:Hp):Prop where
 frames:A.frames=some outer
 mod:Mod K mg base
 bs:∀ b o,base.get? b=some o→s.heap.get? b=some o∧H b=none
 bsz:base.objs.size≤s.heap.objs.size
 funs:s.heap.FunFrames base outer
 frf:∀ b∈frs outer,H b=none
 hok:HOk P w H s.heap
 bare:AllBare s.gens
def CE (outer:List Env) (P:Program) (w:World) (H:Hp) (s:Shared) (Q:VK) (u:Value) (s':Shared):Prop :=
 ∃ v H',s'.os=s.os∧AllBare s'.gens∧Un (frs outer) [] H H' s.heap s'.heap∧HOk P w H' s'.heap∧RelV v u∧Q v H'
def CR (CX:CXT) (outer:List Env) (P:Program) (w:World) (H:Hp) (s:Shared) (Q:VK) (E:XK) (r:Result) (s':Shared):Prop :=
 match r with
 | .ok (.ret u)=>CE outer P w H s Q u s'
 | .ok _=>False
 | .error e=>CX outer H s E e s'
structure FnOk (P:Program) (w:World) (K:PySem.W.Frag) (mg:Str→Option Value) (base:Heap) (CX:CXT) (k:Nat) (f:Addr) (fd:FuncData) (ps:List Str) (sp:Sp):Prop where
 len:∀ vs H Q E,sp vs H Q E→vs.length=ps.length
 run:∀ (A:Around) (outer:List Env) (s:Shared) (H:Hp) (args:Args) (us:List Value) (vs:List V) (Q:VK) (E:XK),Room k A→Env0 P w K mg base A outer s H→BindsTo s fd args (ps.zip us)→Vals vs us→sp vs H Q E →
  codeAny (model P w) A (.call (.ref f) args) (CR CX outer P w H s Q E) s
theorem FnOk.mono {P:Program}{w:World}{K:PySem.W.Frag}{mg:Str→Option Value}{base:Heap}{CX:CXT}{j k:Nat}{f:Addr}{fd:FuncData}{ps:List Str}{sp:Sp} (F:FnOk P w K mg base CX j f fd ps sp) (h:j≤k) :
  FnOk P w K mg base CX k f fd ps sp:=⟨F.len,fun A outer s H args us vs Q E hr=>F.run A outer s H args us vs Q E (hr.mono h)⟩
theorem Env0.make {P:Program}{w:World}{K:PySem.W.Frag}{mg:Str→Option Value}{base:Heap}{A:Around}{outer:List Env}{s:Shared}{H:Hp} (e:Env0 P w K mg base A outer s H) (C:Addr) (us:List Value) (kw:List (Str×Value)) :
  Env0 P w K mg base (A.under (.builtin "type.__call__" ⟨.ref C::us,kw⟩)) outer s H:=⟨by first | exact e.frames | (simpa [Around.under,Code.envs,Code.isFrame,pushEnvs] using e.frames),e.mod,e.bs,e.bsz,e.funs,e.frf,e.hok,e.bare⟩
section
variable {X:Cx}{pins:List (Addr×Obj)}{σ:St}{H:Hp}{s s':Shared}
theorem Inv.env0 (I:Inv X pins σ H s):Env0 X.prog X.w X.K X.mg X.base X.A X.stack s H :=
 ⟨I.ok.frames,I.ok.mod,I.bs,Nat.le_trans I.ok.bsz I.sz,I.stack,I.stkFree,I.hok,I.bare⟩
theorem Inv.after {Q:VK}{u:Value} (I:Inv X pins σ H s) (h:CE X.stack X.prog X.w H s Q u s'):EP X pins σ Q u s':=by
 obtain⟨v,H',os,bare,un,hok,r,q⟩:=h
 obtain⟨hh,g,d,t,os'⟩:=s'
 obtain rfl:os'=s.os:=os
 exact⟨v,H',I.call (h':=hh) (g':=g) (d':=d) (t':=t) (ch:=[]) un hok bare (fun b z=>absurd z (by simp)),r,q⟩
end
def tCall (sp:Sp) (dvs:List V) (E:XK) (t:TA):TE:=fun σ H Q=>t σ H fun vs H1=>sp (vs++dvs) H1 Q E
def tMeth (C:Addr) (m:Str) (sp:Sp) (dvs:List V) (E:XK) (ta:TE) (t:TA):TE:=fun σ H Q=>ta σ H fun x H1=>∃ a dx fs,x=.ref a∧H1 a=some (.ins C dx fs)∧fs.lookup m=none ∧
 t σ H1 fun vs H2=>sp (x::(vs++dvs)) H2 Q E
def tMake (C:Addr) (sp:Sp) (dvs:List V) (E:XK) (t:TA):TE:=fun σ H Q=>t σ H fun vs H1=>∀ x dx,H1 x=none→H1 dx=none→dx≠x →
 sp (.ref x::(vs++dvs)) (upd (upd H1 dx (.own x)) x (.ins C dx [])) (fun v H2=>v=.non∧Q (.ref x) H2) E
def Binds (K:PySem.W.Frag) (fd:FuncData) (ps:List Str) (ds:List Value):Prop :=
 ∀ (s:Shared) (us:List Value),K.In s.heap→(us++ds).length=ps.length→BindsTo s fd ⟨us,[]⟩ (ps.zip (us++ds))
theorem Binds.all {K:PySem.W.Frag}{fd:FuncData}{ps:List Str} (h:∀ us:List Value,us.length=ps.length→bindArgs fd ⟨us,[]⟩=pure (ps.zip us)):Binds K fd ps []:=fun s us _ hl=>by
 rw [List.append_nil] at hl ⊢
 exact .of_eq (h us hl)
def Passes (CX:CXT) (X:Cx) (E:XK):Prop:=∀ (pins:List (Addr×Obj)) (σ:St) (H:Hp) (s:Shared) (e:Value) (s':Shared),Inv X pins σ H s→CX X.stack H s E e s'→X.xe e s'
section
variable {X:Cx}{CX:CXT}{k:Nat}{f C:Addr}{fd:FuncData}{ps:List Str}{sp:Sp}{dvs:List V}{ds:List Value}{E:XK}{x m:Str}{p pos apos:Pos}{e o:Expr}{es:List Expr}{ta:TE}{t:TA}
theorem run_fn {pins:List (Addr×Obj)}{σ:St}{H:Hp}{s:Shared}{Q:VK}{us:List Value}{vs:List V} (F:FnOk X.prog X.w X.K X.mg X.base CX k f fd ps sp) (hr:Room k X.A) (hb:Binds X.K fd ps ds) (hd:Vals dvs ds) (hx:Passes CX X E)
  (I:Inv X pins σ H s) (r:Vals vs us) (h:sp (vs++dvs) H Q E):wpAny (model X.prog X.w) X.A (call (.ref f) us) (EP X pins σ Q) X.xe s:=by
 have r2:Vals (vs++dvs) (us++ds):=r.append hd
 have hl:(us++ds).length=ps.length:=by rw [← r2.length]; exact F.len _ _ _ _ h
 refine wpAny_call (codeAny_mono (F.run X.A X.stack s H ⟨us,[]⟩ (us++ds) (vs++dvs) Q E hr I.env0 (hb s us I.kIn hl) r2 h) fun r s' hq=>?_)
 cases r with
 | error e=>exact hx pins σ H s e s' I hq
 | ok fl =>
  cases fl with
  | ret u=>exact I.after hq
  | next=>exact False.elim hq
  | brk=>exact False.elim hq
  | cont=>exact False.elim hq
theorem pe_call (F:FnOk X.prog X.w X.K X.mg X.base CX k f fd ps sp) (hr:Room k X.A) (hg:Gl X x) (hm:X.mg x=some (.ref f)) (hk:PySem.W.keepIn X.K (.ref f)=true) (hb:Binds X.K fd ps ds) (hd:Vals dvs ds) (hx:Passes CX X E)
  (ha:PA X (e::es) t) (hdb:(x == ("__debug__":Str))=false:=by decide) (he:starEach (e::es) X.env=(false,eval e X.env)::starEach es X.env:=by rfl) (hpl:(backTo pos (starEach es X.env)).any (·.1)=false:=by rfl) :
  PE X (.Call (.Name x p) (e::es) [] pos) (tCall sp dvs E t):=by
 intro pins s σ H Q I h
 refine wpAny_Call_Name_kw (ld_glob I hg hm ?_ hdb)
 refine PySem.W.callWith_K (h₀:=X.base) I.ok.mod.kin hk (thn (ha pos pins s σ H _ I h) fun us s1 ⟨vs,H1,I1,r,q⟩=>⟨I1.kIn,?_⟩) he hpl
 exact run_fn F hr hb hd hx I1 r q
theorem aeW (F:FnOk X.prog X.w X.K X.mg X.base CX k f fd ps sp) (hr:Room k X.A) (hg:Gl X x) (hm:X.mg x=some (.ref f)) (hk:PySem.W.keepIn X.K (.ref f)=true) (hb:Binds X.K fd ps ds) (hd:Vals dvs ds) (hx:Passes CX X E)
  (hdb:(x == ("__debug__":Str))=false:=by decide):PE X (.Call (.Name x p) [] [] pos) (tCall sp dvs E tNil):=by
 intro pins s σ H Q I h
 refine wpAny_Call_Name_kw (ld_glob I hg hm ?_ hdb)
 exact PySem.W.callWith_K0 I.kIn hk (run_fn (us:=[]) F hr hb hd hx I .nil h)
theorem pe_meth {pl:Sem Bool} (he:PE X o ta) (c:Cls X.K C) (hm:Meth X.K C m f) (F:FnOk X.prog X.w X.K X.mg X.base CX k f fd ps sp) (hr:Room k X.A) (hb:Binds X.K fd ps ds) (hd:Vals dvs ds) (hx:Passes CX X E) (ha:PA X (e::es) t)
  (hst:starEach (e::es) X.env=(false,eval e X.env)::starEach es X.env:=by rfl) (hpl:(backTo pos (starEach es X.env)).any (·.1)=false:=by rfl)
  (ht:eval (.Call (.Attribute o m apos) (e::es) [] pos) X.env=(do
   let ov ← eval o X.env
   standAt apos.atName
   let (f,first) ← holding [ov] (getMethod ov m pl)
   callWith pos f first (backTo pos (starEach (e::es) X.env)) (backToKw pos (keywordEach [] X.env))):=by rfl) :
  PE X (.Call (.Attribute o m apos) (e::es) [] pos) (tMeth C m sp dvs E ta t):=by
 intro pins s σ H Q I h
 refine PySem.W.methodCall_KW (pl:=pl) (thn (he pins s σ H _ I h) fun u s1 ⟨x,H1,I1,rx,a,dx,fs,ex,ea,l,q⟩=>?_) ht
 subst ex
 obtain rfl:u=Value.ref a:=rx
 refine getmeth_ok I1 ea c hm l ?_
 refine PySem.W.callWith_K (first:=[.ref a]) (h₀:=X.base) I.ok.mod.kin hm.kp (thn (ha pos pins s1 σ H1 _ I1 q) fun us s2 ⟨vs,H2,I2,r,q2⟩=>⟨I2.kIn,?_⟩) hst hpl
 exact run_fn (us:=.ref a::us) (vs:=.ref a::vs) F hr hb hd hx I2 (.cons rfl r) q2
theorem aeU {pl:Sem Bool} (he:PE X o ta) (c:Cls X.K C) (hm:Meth X.K C m f) (F:FnOk X.prog X.w X.K X.mg X.base CX k f fd ps sp) (hr:Room k X.A) (hb:Binds X.K fd ps ds) (hd:Vals dvs ds) (hx:Passes CX X E)
  (ht:eval (.Call (.Attribute o m apos) [] [] pos) X.env=(do
   let ov ← eval o X.env
   standAt apos.atName
   let (f,first) ← holding [ov] (getMethod ov m pl)
   callWith pos f first (backTo pos (starEach [] X.env)) (backToKw pos (keywordEach [] X.env))):=by rfl) :
  PE X (.Call (.Attribute o m apos) [] [] pos) (tMeth C m sp dvs E ta tNil):=by
 intro pins s σ H Q I h
 refine PySem.W.methodCall_KW (pl:=pl) (thn (he pins s σ H _ I h) fun u s1 ⟨x,H1,I1,rx,a,dx,fs,ex,ea,l,q⟩=>?_) ht
 subst ex
 obtain rfl:u=Value.ref a:=rx
 refine getmeth_ok I1 ea c hm l ?_
 exact PySem.W.callWith_K0 (first:=[.ref a]) I1.kIn hm.kp (run_fn (us:=[.ref a]) (vs:=[.ref a]) F hr hb hd hx I1 (.cons rfl .nil) q)
structure Mk (K:PySem.W.Frag) (C f:Addr):Prop where
 makes:PySem.W.makesIn K C=true
 init:PySem.W.findIn K (.ref C) "__init__"=some (some (.ref f))
 fn:PySem.W.isFn K (.ref f)=true
 kp:PySem.W.keepIn K (.ref C)=true
theorem run_make {pins:List (Addr×Obj)}{σ:St}{H:Hp}{s:Shared}{Q:VK}{us:List Value}{vs:List V} (M:Mk X.K C f) (F:FnOk X.prog X.w X.K X.mg X.base CX k f fd ps sp) (hr:Room (k+1) X.A) (hb:Binds X.K fd ps ds) (hd:Vals dvs ds)
  (hx:Passes CX X E) (I:Inv X pins σ H s) (r:Vals vs us)
  (h:∀ x dx,H x=none→H dx=none→dx≠x→sp (.ref x::(vs++dvs)) (upd (upd H dx (.own x)) x (.ins C dx [])) (fun v H2=>v=.non∧Q (.ref x) H2) E) :
  wpAny (model X.prog X.w) X.A (call (.ref C) us) (EP X pins σ Q) X.xe s:=by
 have hq:=h (s.heap.objs.size+1) s.heap.objs.size (I.hok.fresh (Nat.le_succ _)) (I.hok.fresh (Nat.le_refl _)) (Nat.ne_of_lt (Nat.lt_succ_self _))
 have I2:=Inv.made (C:=C) I
 have r2:Vals (V.ref (s.heap.objs.size+1)::(vs++dvs)) (Value.ref (s.heap.objs.size+1)::(us++ds)):=.cons rfl (r.append hd)
 have hl:(Value.ref (s.heap.objs.size+1)::us++ds).length=ps.length:=by
  have e:=r2.length
  rw [F.len _ _ _ _ hq] at e
  exact e.symm
 refine wpAny_call (make_map (f:=f) I.kIn M.makes M.init (beq_iff_eq.mp M.fn) (codeAny_mono (F.run _ X.stack _ _ ⟨Value.ref (s.heap.objs.size+1)::us,[]⟩ (Value.ref (s.heap.objs.size+1)::(us++ds)) _ _ E (hr.make C us [])
  (I2.env0.make C us []) (hb _ (Value.ref (s.heap.objs.size+1)::us) I2.kIn hl) r2 hq) fun r s' hq'=>?_))
 cases r with
 | error e=>exact hx pins σ _ _ e s' I2 hq'
 | ok fl =>
  cases fl with
  | ret u =>
   obtain⟨v,H',I3,rv,ev,q3⟩:=I2.after hq'
   subst ev
   exact⟨rv,⟨V.ref (s.heap.objs.size+1),H',I3,rfl,q3⟩⟩
  | next=>exact False.elim hq'
  | brk=>exact False.elim hq'
  | cont=>exact False.elim hq'
theorem agA (M:Mk X.K C f) (F:FnOk X.prog X.w X.K X.mg X.base CX k f fd ps sp) (hr:Room (k+1) X.A) (hg:Gl X x) (hm:X.mg x=some (.ref C)) (hb:Binds X.K fd ps ds) (hd:Vals dvs ds) (hx:Passes CX X E)
  (ha:PA X (e::es) t) (hdb:(x == ("__debug__":Str))=false:=by decide) (he:starEach (e::es) X.env=(false,eval e X.env)::starEach es X.env:=by rfl) (hpl:(backTo pos (starEach es X.env)).any (·.1)=false:=by rfl) :
  PE X (.Call (.Name x p) (e::es) [] pos) (tMake C sp dvs E t):=by
 intro pins s σ H Q I h
 refine wpAny_Call_Name_kw (ld_glob I hg hm ?_ hdb)
 refine PySem.W.callWith_K (h₀:=X.base) I.ok.mod.kin M.kp (thn (ha pos pins s σ H _ I h) fun us s1 ⟨vs,H1,I1,r,q⟩=>⟨I1.kIn,?_⟩) he hpl
 exact run_make M F hr hb hd hx I1 r q
end
section
variable {X:Cx}{CX:CXT}{k:Nat}{f C:Addr}{fd:FuncData}{ps ks:List Str}{sp:Sp}{E:XK}{x m:Str}{p pos apos kpos:Pos}{e o:Expr}{es:List Expr}{kws:List Keyword}{te ta:TE}{t tk:TA}{nm:Option Str}
variable {g:List Value→List Value→List Value}{gV:List V→List V→List V}
end
structure FnScope (N P:List Str) (sc:Scope):Prop where
 kind:sc.kind=.function
 co:sc.isCoroutine=false
 gen:sc.isGenerator=false
 nd:N.Nodup
 pre:N.take P.length=P
 par:∀ x∈P,sc.names.lookup x=some .local∨sc.names.lookup x=some .cell
 nofree:∀ y∈sc.names,y.2≠.free
theorem bindL_out {kindOf:Str→Option NameKind}{x:Str}:∀ {binds:List (Str×Value)}{m:Str→Option Value},(∀ v,(x,v) ∉ binds)→bindL kindOf binds m x=m x
 | [],_,_=>rfl
 | (n,v)::r,m,h=>by
  unfold bindL
  rw [bindL_out fun w hw=>h w (List.mem_cons_of_mem _ hw)]
  split
  ·have:x≠n:=by rintro rfl; exact h v List.mem_cons_self
   simp [this]
  ·rfl
theorem bindC_out {kindOf:Str→Option NameKind}{x:Str}:∀ {binds:List (Str×Value)}{m:Str→Option Value},(∀ v,(x,v) ∉ binds)→bindC kindOf binds m x=m x
 | [],_,_=>rfl
 | (n,v)::r,m,h=>by
  unfold bindC
  rw [bindC_out fun w hw=>h w (List.mem_cons_of_mem _ hw)]
  split
  ·rfl
  ·have:x≠n:=by rintro rfl; exact h v List.mem_cons_self
   simp [this]
theorem bindL_get {kindOf:Str→Option NameKind}{x:Str}{v:Value}:∀ {P:List Str}{vs:List Value}{i:Nat}{m:Str→Option Value},P.Nodup→P[i]?=some x→vs[i]?=some v→kindOf x=some .local →
  bindL kindOf (P.zip vs) m x=some v
 | [],_,_,_,_,h,_,_=>by simp at h
 | _::_,[],_,_,_,_,h,_=>by simp at h
 | p::P,w::vs,0,m,nd,h1,h2,hk=>by
  simp at h1 h2; subst h1; subst h2
  show bindL kindOf ((p,w)::P.zip vs) m p=_
  unfold bindL
  rw [bindL_out fun v hv=>(List.nodup_cons.mp nd).1 (List.of_mem_zip hv).1,if_pos hk]
  simp
 | p::P,w::vs,i+1,m,nd,h1,h2,hk=>by
  show bindL kindOf ((p,w)::P.zip vs) m x=_
  unfold bindL
  exact bindL_get (i:=i) (List.nodup_cons.mp nd).2 (by simpa using h1) (by simpa using h2) hk
theorem bindC_get {kindOf:Str→Option NameKind}{x:Str}{v:Value}:∀ {P:List Str}{vs:List Value}{i:Nat}{m:Str→Option Value},P.Nodup→P[i]?=some x→vs[i]?=some v→kindOf x≠some .local →
  bindC kindOf (P.zip vs) m x=some v
 | [],_,_,_,_,h,_,_=>by simp at h
 | _::_,[],_,_,_,_,h,_=>by simp at h
 | p::P,w::vs,0,m,nd,h1,h2,hk=>by
  simp at h1 h2; subst h1; subst h2
  show bindC kindOf ((p,w)::P.zip vs) m p=_
  unfold bindC
  rw [bindC_out fun v hv=>(List.nodup_cons.mp nd).1 (List.of_mem_zip hv).1,if_neg hk]
  simp
 | p::P,w::vs,i+1,m,nd,h1,h2,hk=>by
  show bindC kindOf ((p,w)::P.zip vs) m x=_
  unfold bindC
  exact bindC_get (i:=i) (List.nodup_cons.mp nd).2 (by simpa using h1) (by simpa using h2) hk
def start (N:List Str) (vs:List V):St:=vs.map some++List.replicate (N.length - vs.length) none
def cxOf (CX:CXT) (P:Program) (w:World) (K:PySem.W.Frag) (mg:Str→Option Value) (base:Heap) (N:List Str) (qual:Str) (scope:Scope) (f:Addr) (cd:Value) (A:Around) (outer:List Env) (s:Shared) (H:Hp) (E:XK):Cx where
 prog:=P
 w:=w
 K:=K
 mg:=mg
 base:=base
 A:=A.deeper (envOfC qual scope s.heap.objs.size f cd)
 N:=N
 s₀:=s
 H₀:=H
 env:=envOfC qual scope s.heap.objs.size f cd
 outer:=outer
 stack:=envOfC qual scope s.heap.objs.size f cd::outer
 ex:=[]
 calm:=true
 fn:=fun _=>true
 pn:=[]
 xe:=fun e s'=>wpAny (model P w) (A.deeper (envOfC qual scope s.heap.objs.size f cd)) (leaving (envOfC qual scope s.heap.objs.size f cd) e) (fun _ s''=>CX outer H s E e s'') (fun e' s''=>CX outer H s E e' s'') s'
theorem cell_has {sc:Scope}{n:Nat}{x:Str} (h:sc.names.lookup x=some .cell):∃ c,(cellsFrom n sc.names []).lookup x=some c:=by
 have q:=PySem.W.cellsFrom_some sc.names n [] (.inl h)
 exact Option.isSome_iff_exists.mp q
theorem inv_start {CX:CXT}{P:Program}{w:World}{K:PySem.W.Frag}{mg:Str→Option Value}{base:Heap}{N ps:List Str}{qual:Str}{scope:Scope}{f:Addr}{cd:Value}{A:Around}{outer:List Env}{s s1:Shared}{H:Hp}{E:XK}{us:List Value}{vs:List V}
  (S:FnScope N ps scope) (hd:A.handled=none) (e0:Env0 P w K mg base A outer s H) (hl:vs.length=ps.length) (r:Vals vs us)
  (x:InCallC s s.heap.objs.size (bindL (envOfC qual scope s.heap.objs.size f cd).kindOf (ps.zip us) fun _=>none) (cellsFrom (s.heap.objs.size+1) scope.names []) (bindC (envOfC qual scope s.heap.objs.size f cd).kindOf (ps.zip us) fun _=>none) s1) :
  Inv (cxOf CX P w K mg base N qual scope f cd A outer s H E) [] (start N vs) H s1:=by
 have hpl:ps.length≤N.length:=by have:=congrArg List.length S.pre; rw [List.length_take] at this; lia
 obtain⟨h1,tk,rfl,hk⟩:=x.done
 have noA:∀ b:Addr,b ∉ (cxOf CX P w K mg base N qual scope f cd A outer s H E).ex:=fun b z=>absurd (show b∈([]:List Addr) from z) (by simp)
 refine⟨⟨e0.mod,S.kind,rfl,rfl,Nat.le_refl _,fun y z c h1 h2=>?_,fun y hy=>?_,fun y c _ h=>?_,fun _=>hd,Around.frames_deeper e0.frames,.inr ⟨rfl,rfl⟩,fun b z=>absurd z (noA b),e0.bs,e0.bsz,fun b _ _=>noA b,fun b z=>absurd z (noA b),e0.funs,e0.frf⟩,
  rfl,e0.bare,Un.kept hk,⟨_,x.toInCall.ns,fun i y v h1 h2 h3=>?_⟩,fun y c h=>⟨_,x.cell y c h⟩,e0.hok.fresh (Nat.le_refl _),fun y c h=>?_,fun p hp=>absurd (show p∈([]:List (Addr×Obj)) from hp) (by simp),e0.hok.kept hk,?_⟩
 ·exact name_of_addr x.apart (PySem.mem_of_lookup h1) (PySem.mem_of_lookup h2)
 ·have hy:scope.names.lookup y=some .cell∨scope.names.lookup y=some .free:=hy
  rcases hy with hy | hy
  ·exact cell_has hy
  ·exact absurd rfl (S.nofree _ (PySem.mem_of_lookup hy))
 ·exact Nat.le_of_lt (x.above y c (PySem.mem_of_lookup h))
 ·have hi:i<vs.length:=by
   unfold start at h2
   by_cases hi:i<vs.length
   ·exact hi
   ·rw [List.getElem?_append_right (by simpa using hi)] at h2
    rw [List.getElem?_replicate] at h2
    split at h2 <;> cases h2
  have ha:vs[i]?=some v:=by
   unfold start at h2
   rw [List.getElem?_append_left (by simpa using hi),List.getElem?_map] at h2
   cases e:vs[i]? with
   | none=>rw [e] at h2; cases h2
   | some a=>rw [e] at h2; cases h2; rfl
  obtain⟨u,hu,rv⟩:=r.get ha
  have hp:ps[i]?=some y:=by
   rw [← S.pre,List.getElem?_take_of_lt (by lia)]; exact h1
  have ndP:ps.Nodup:=by rw [← S.pre]; exact S.nd.sublist (List.take_sublist _ _)
  refine⟨u,rv,?_⟩
  rcases S.par y (List.mem_of_getElem? hp) with k | k
  ·exact .inl ⟨k,bindL_get ndP hp hu k⟩
  ·obtain⟨c,e⟩:=cell_has (n:=s.heap.objs.size+1) k
   refine .inr ⟨.inl k,c,e,?_⟩
   have q:=x.cell y c e
   rw [bindC_get ndP hp hu (by show scope.names.lookup y≠_; rw [k]; decide)] at q
   exact q
 ·exact e0.hok.fresh (Nat.le_of_lt (x.above y c (PySem.mem_of_lookup h)))
 ·unfold start
  show _=N.length
  rw [List.length_append,List.length_map,List.length_replicate]
  lia
theorem fn_of {CX:CXT}{P:Program}{w:World}{K:PySem.W.Frag}{mg:Str→Option Value}{base:Heap}{k:Nat}{f:Addr}{name qual:Str}{params:Arguments}{body:List Stmt}{scope:Scope}{dV kV doc pm cdv ct oc:Value}{an od:Option Addr}
  {osl:Array (Option Value)}{N ps:List Str}{sp:Sp} (lk:K.lookup f=some ⟨oc,od,.func (PySem.W.fnOf name qual params body scope dV kV doc pm an cdv ct),osl⟩) (hcd:PySem.W.codeIn K cdv qual=true) (S:FnScope N ps scope)
  (len:∀ vs H Q E,sp vs H Q E→vs.length=ps.length)
  (hbody:∀ (A:Around) (outer:List Env) (s:Shared) (H:Hp) (vs:List V) (Q:VK) (E:XK),Room k (A.deeper (envOfC qual scope s.heap.objs.size f cdv))→sp vs H Q E →
   ∃ t,PSs (cxOf CX P w K mg base N qual scope f cdv A outer s H E) body t∧t { nx:=fun _ H'=>Q .non H',rt:=Q } (start N vs) H) :
  FnOk P w K mg base CX (k+1) f (PySem.W.fnOf name qual params body scope dV kV doc pm an cdv ct) ps sp:=by
 refine⟨len,fun A outer s H args us vs Q E hr e0 hb r hsp=>?_⟩
 have hl:=len _ _ _ _ hsp
 have KX:K.In s.heap:=e0.mod.kin.keeps fun b o e=>(e0.bs b o e).1
 have lim:s.heap.NoLimit:=e0.mod.nolimit.keeps fun b o e=>(e0.bs b o e).1
 have hkind:∀ y∈ps.zip us,scope.names.lookup y.1=some .local∨(scope.names.lookup y.1=some .cell∧((cellsFrom (s.heap.objs.size+1) scope.names []).lookup y.1).isSome=true):=fun ⟨n,v⟩ hy=>by
  rcases S.par n (List.of_mem_zip hy).1 with q | q
  ·exact .inl q
  ·exact .inr ⟨q,PySem.W.cellsFrom_some _ _ _ (.inl q)⟩
 refine codeAny_call_function hr.depth (KX _ _ lk) rfl S.co S.gen rfl (PySem.W.codeRec_of KX hcd) (hb _ _ _ _ ?_)
 refine wpAny_newFunctionEnv_cells S.kind hkind fun env he s1 x=>?_
 subst he
 refine⟨lim.keeps x.toInCall.keep,codeAny_func ?_⟩
 obtain⟨t,ht,hq⟩:=hbody A outer s H vs Q E (hr.deeper _) hsp
 have I:Inv (cxOf CX P w K mg base N qual scope f cdv A outer s H E) [] (start N vs) H s1:=inv_start S hr.hd e0 hl r x
 refine wpAny_mono (ht [] s1 (start N vs) H _ I hq) (fun fl s' hs=>?_) fun e s' hs=>hs
 have fin:∀ {σ':St}{H':Hp}{v:V}{u:Value},Inv (cxOf CX P w K mg base N qual scope f cdv A outer s H E) [] σ' H' s'→RelV v u→Q v H'→CE outer P w H s Q u s' :=
  fun {σ' H' v u} J rv q=>⟨v,H',J.os,J.bare,J.base,J.hok,rv,q⟩
 cases fl with
 | ret u =>
  obtain⟨v,σ',H',J,rv,q⟩:=hs
  exact fin J rv q
 | next =>
  obtain⟨σ',H',J,q⟩:=hs
  exact fin (v:=V.non) (u:=Value.none) J rfl q
 | brk =>
  obtain⟨_,_,_,q⟩:=hs
  exact False.elim q
 | cont =>
  obtain⟨_,_,_,q⟩:=hs
  exact False.elim q
end L2
namespace L2
open PySem PySem.Spec PyProof.Rows
section
variable {X:Cx}{x:Str}{p pos:Pos}{e:Expr}{es:List Expr}{t:TA}{id T:String}{r:List V→Hp→VK→Prop}
def tCB (r:List V→Hp→VK→Prop) (t:TA):TE:=fun σ H Q=>t σ H fun vs H1=>r vs H1 Q
theorem pe_callB (hc:CallR X (.builtin id) r) (hg:Gl X x) (hm:X.mg x=none) (hv:bootBuiltins x=some (.builtin id)) (ha:PA X (e::es) t) (hn:x≠"__name__":=by decide) (hdb:(x == ("__debug__":Str))=false:=by decide)
  (he:starEach (e::es) X.env=(false,eval e X.env)::starEach es X.env:=by rfl) (hpl:(backTo pos (starEach es X.env)).any (·.1)=false:=by rfl):PE X (.Call (.Name x p) (e::es) [] pos) (tCB r t):=by
 intro pins s σ H Q I h
 refine wpAny_Call_Name_kw (ld_blt I hg hm hv ?_ hn hdb)
 exact PyProof.Rows.callWith_builtin1 (thn (ha pos pins s σ H _ I h) fun us s1 ⟨vs,H1,I1,r1,q1⟩=>hc pins s1 σ H1 vs us Q I1 r1 q1) he hpl
theorem acX (hc:CallR X (.type T) r) (hg:Gl X x) (hm:X.mg x=none) (hv:bootBuiltins x=some (.type T)) (ha:PA X (e::es) t) (hn:x≠"__name__":=by decide) (hdb:(x == ("__debug__":Str))=false:=by decide)
  (he:starEach (e::es) X.env=(false,eval e X.env)::starEach es X.env:=by rfl) (hpl:(backTo pos (starEach es X.env)).any (·.1)=false:=by rfl):PE X (.Call (.Name x p) (e::es) [] pos) (tCB r t):=by
 intro pins s σ H Q I h
 refine wpAny_Call_Name_kw (ld_blt I hg hm hv ?_ hn hdb)
 exact PyProof.Rows.callWith_type1 (thn (ha pos pins s σ H _ I h) fun us s1 ⟨vs,H1,I1,r1,q1⟩=>hc pins s1 σ H1 vs us Q I1 r1 q1) he hpl
end
end L2
namespace HT
open PySem PyProof.Rows
section
open PySem.SeqAt
open PySem.AutoSeq1 (wpAny_loadPart')
open PySem.MeetsSeq PySem.MeetsSeq2 PySem.MeetsSeq3
end
section
variable {prog:Program}{w:World}{A:Around}{E:Value→Shared→Prop}{s:Shared}
theorem ag5 {t b:Addr}{vs ws:List Value}{Q:Value→Shared→Prop} (ht:IsTup s.heap t vs.toArray) (hb:IsTup s.heap b ws.toArray) (hv:vs≠[])
  (h1:ws=[]→Q (.ref t) s) (h2:ws≠[]→Q (.ref s.heap.objs.size) { s with heap:=s.heap.push { cls:=.type "tuple",data:=.seq (vs++ws).toArray } })
  (hsz:vs.length+ws.length≤sizeLine):wpAny (model prog w) A (binaryOp .Add (.ref t) (.ref b)) Q E s:=by
 obtain⟨⟨cls,dd,data,sl⟩,ho,hc,n,hd⟩:=id ht
 obtain⟨⟨cls2,dd2,data2,sl2⟩,ho2,hc2,n2,hd2⟩:=id hb
 simp only at hc hd hc2 hd2
 subst hc hd hc2 hd2
 have e:vs.toArray++ws.toArray=(vs++ws).toArray:=by simp
 by_cases hw:ws=[]
 ·exact concat_meets ⟨_,ho,rfl⟩ ⟨_,ho2,rfl⟩ noFill_tuple_add seq_tuple_add PySem.F.slot_tuple_add PySem.F.entry_tuple_add (PySem.F.args_tuple_add_2 _ _)
   (tuple_addW1 t b vs.toArray ws.toArray n n2 dd dd2 sl sl2 (by simpa using hv) (by simp [hw])) ⟨ho,ho2,h1 hw⟩
 ·refine concat_meets ⟨_,ho,rfl⟩ ⟨_,ho2,rfl⟩ noFill_tuple_add seq_tuple_add PySem.F.slot_tuple_add PySem.F.entry_tuple_add (PySem.F.args_tuple_add_2 _ _)
   (tuple_addW2 t b vs.toArray ws.toArray n n2 dd dd2 sl sl2 (by simpa using hv) (by simpa using hw) (by rw [List.size_toArray,List.size_toArray]; exact hsz)) ⟨ho,ho2,?_⟩
  rw [e]
  exact h2 hw
def sIx (n d:Nat):Option Int→Nat
 | none=>d
 | some v=>if v<0 then (v+(n:Int)).toNat else min v.toNat n
theorem V0 (n d:Nat):sIx n d none=d:=rfl
theorem ZV (n d k:Nat):sIx n d (some (k:Int))=min k n:=by
 show (if (k:Int)<0 then ((k:Int)+(n:Int)).toNat else min (k:Int).toNat n)=min k n
 rw [if_neg (by lia),Int.toNat_natCast]
theorem ahy (n d:Nat) (hd:d≤n) (o:Option Int):sIx n d o≤n:=by
 cases o with
 | none=>exact hd
 | some v =>
  show (if v<0 then (v+(n:Int)).toNat else min v.toNat n)≤n
  by_cases hv:v<0
  ·rw [if_pos hv]; lia
  ·rw [if_neg hv]; exact Nat.min_le_right _ _
theorem aan (v:Int) (n d:Nat):(if v<0 then max (v+(n:Int)) 0 else min v (n:Int))=((sIx n d (some v):Nat):Int):=by
 show (if v<0 then max (v+(n:Int)) 0 else min v (n:Int))=(((if v<0 then (v+(n:Int)).toNat else min v.toNat n):Nat):Int)
 by_cases hv:v<0
 ·simp only [if_pos hv]; lia
 ·simp only [if_neg hv]; lia
theorem abZ (lo hi:Option Int) (n:Nat):Builtin.Slice.sliceAdjust lo hi 1 (n:Int)=(((sIx n 0 lo:Nat):Int),((sIx n n hi:Nat):Int)):=by
 have h1:¬ ((1:Int)<0):=by lia
 unfold Builtin.Slice.sliceAdjust
 simp only [h1,if_false]
 refine Prod.ext ?_ ?_
 ·cases lo with
  | none=>rfl
  | some v=>exact aan v n 0
 ·cases hi with
  | none=>rfl
  | some v=>exact aan v n n
theorem aaU (i j:Nat):Builtin.Slice.slicePlaces (i:Int) (j:Int) 1=j - i:=by
 unfold Builtin.Slice.slicePlaces
 have h1:(1:Int) > 0:=by lia
 simp only [h1,if_true,Int.ediv_one]
 split <;> lia
theorem Og {v:Value}{o:Option Int}{Q:Option Int→Shared→Prop} (p:IsPart v o) (h:Q o s):wpAny (model prog w) A (Builtin.Slice.slicePartIndex v) Q E s:=by
 cases p with
 | none=>exact slicePart_none h
 | int i t=>exact slicePart_int h
theorem xV {sl:Addr}{vl vu:Value}{lo hi:Option Int}{n:Nat}{Q:Int×Int×Nat→Shared→Prop} (hs:s.heap.IsSliceOf sl vl vu .none) (pl:IsPart vl lo) (pu:IsPart vu hi)
  (h:Q (((sIx n 0 lo:Nat):Int),1,sIx n n hi - sIx n 0 lo) s):wpAny (model prog w) A (Builtin.Slice.sliceApplied (.ref sl) (pure (n:Int))) Q E s:=by
 obtain⟨os,hos,hcs,hds⟩:=id hs
 unfold Builtin.Slice.sliceApplied Builtin.Slice.sliceFields
 refine wpAny_bind (wpAny_bind (wpAny_field hos hds (x:=vl) rfl (wpAny_bind (wpAny_field hos hds (x:=vu) rfl (wpAny_bind (wpAny_field hos hds (x:=.none) rfl (wpAny_pure ?_)))))))
 refine wpAny_bind (slicePart_none ?_)
 show wpAny _ _ (if ((1:Int) == 0)=true then _ else _) _ _ s
 rw [if_neg (by decide)]
 refine wpAny_bind (Og pl (wpAny_bind (Og pu (wpAny_bind (wpAny_pure ?_)))))
 show wpAny _ _ (match Builtin.Slice.sliceAdjust lo hi 1 (n:Int) with | (lo,hi)=>pure (lo,(1:Int),Builtin.Slice.slicePlaces lo hi 1)) _ _ s
 rw [abZ lo hi n]
 show wpAny _ _ (pure (((sIx n 0 lo:Nat):Int),(1:Int),Builtin.Slice.slicePlaces ((sIx n 0 lo:Nat):Int) ((sIx n n hi:Nat):Int) 1)) _ _ s
 rw [aaU]
 exact wpAny_pure h
theorem aeS (xs:Array Value) (i k:Nat):((List.range k).filterMap fun (m:Nat)=>xs[((i:Int)+(m:Int) * 1).toNat]?).toArray=((xs.toList.drop i).take k).toArray:=by
 have e:(fun (m:Nat)=>xs[((i:Int)+(m:Int) * 1).toNat]?)=fun m=>xs[i+m]?:=by
  funext m
  have:((i:Int)+(m:Int) * 1).toNat=i+m:=by lia
  rw [this]
 rw [e]
 have:=pick_run xs i k
 rw [List.filterMap_map] at this
 have e2:((fun x=>xs[x]?)∘fun x=>i+x)=fun m=>xs[i+m]?:=rfl
 rw [e2] at this
 rw [this]
theorem J8 {t sl:Addr}{items:Array Value}{vl vu:Value}{lo hi:Option Int}{Q:Value→Shared→Prop} (ht:IsTup s.heap t items) (hs:s.heap.IsSliceOf sl vl vu .none) (pl:IsPart vl lo) (pu:IsPart vu hi)
  (hw:¬ (sIx items.size 0 lo=0∧sIx items.size items.size hi=items.size))
  (h:Q (.ref s.heap.objs.size) { s with heap:=s.heap.push { cls:=.type "tuple",data:=.seq ((items.toList.drop (sIx items.size 0 lo)).take (sIx items.size items.size hi - sIx items.size 0 lo)).toArray } })
  (hsz:items.size≤sizeLine):wpAny (model prog w) A (getItem (.ref t) (.ref sl)) Q E s:=by
 have U6:sizeOk (.seq ((items.toList.drop (sIx items.size 0 lo)).take (sIx items.size items.size hi - sIx items.size 0 lo)).toArray):=by
  show ((items.toList.drop (sIx items.size 0 lo)).take (sIx items.size items.size hi - sIx items.size 0 lo)).toArray.size≤sizeLine
  rw [List.size_toArray,List.length_take,List.length_drop,Array.length_toList]
  lia
 have hj:sIx items.size items.size hi≤items.size:=ahy _ _ (Nat.le_refl _) hi
 obtain⟨os,hos,hcs,hds⟩:=id hs
 have hTs:s.TypeIs (.ref sl) "slice":=⟨os,hos,hcs⟩
 unfold getItem
 try with_reducible refine wpAny_holding ?_
 first | refine wpAny_bind (wpAny_pure ?_) | skip
 refine wpAny_bind (wpAny_sequenceKey ht.typeIs (by decide) ?_)
 refine wpAny_bind (wpAny_callSpecial?_slot (name:=Str.ofString "__getitem__") ht.typeIs PyProof.Rows.slot_tuple_getitem
  (wpAny_call_entry PyProof.Rows.slot_tuple_getitem ht.typeIs entry_tuple_getitem ?_ (args_tuple_getitem _ _)))
 show wpAny _ _ (Builtin.Tuple.tupleItemsOf (.ref t) >>= _) _ _ s
 refine wpAny_bind (tupleItemsOf_ ht ?_)
 refine wpAny_bind (wpAny_typeOf hTs ?_)
 rw [if_pos (by decide)]
 refine wpAny_bind (xV hs pl pu ?_)
 have hno:¬ ((((sIx items.size 0 lo:Nat):Int) == 0 && (1:Int) == 1 && (sIx items.size items.size hi - sIx items.size 0 lo) == items.size)=true):=by
  intro q
  rw [Bool.and_eq_true,Bool.and_eq_true] at q
  have q1:((sIx items.size 0 lo:Nat):Int)=0:=eq_of_beq q.1.1
  have q2:sIx items.size items.size hi - sIx items.size 0 lo=items.size:=eq_of_beq q.2
  exact hw ⟨by lia,by lia⟩
 show wpAny _ _ (if (((sIx items.size 0 lo:Nat):Int) == 0 && (1:Int) == 1 && (sIx items.size items.size hi - sIx items.size 0 lo) == items.size)=true then _ else _) _ _ s
 rw [if_neg hno,aeS]
 first
  | exact wpAny_bind (m:=Builtin.Tuple.tupleExact _) (wpAny_newObj_type (wpAny_pure ⟨_,rfl,wpAny_pure h⟩) U6)
  | exact wpAny_bind (m:=Builtin.Tuple.tupleExact _) (wpAny_newObj_type (wpAny_bind (wpAny_pure (wpAny_pure ⟨_,rfl,wpAny_pure h⟩))) U6)
  | exact wpAny_bind (wpAny_bind (m:=Builtin.Tuple.tupleExact _) (wpAny_newObj_type (wpAny_pure (wpAny_pure ⟨_,rfl,wpAny_pure h⟩)) U6))
  | exact wpAny_bind (wpAny_bind (m:=Builtin.Tuple.tupleExact _) (wpAny_newObj_type (wpAny_pure ⟨_,rfl,wpAny_pure h⟩) U6))
end
end HT
namespace L2
open PySem PySem.Spec PyProof.Rows
abbrev TO:=St→Hp→(Option Int→Hp→Prop)→Prop
def PO (X:Cx) (e:Option Expr) (t:TO):Prop :=
 ∀ (pins:List (Addr×Obj)) (s:Shared) (σ:St) (H:Hp) (Q:Option Int→Hp→Prop),Inv X pins σ H s→t σ H Q →
  wpAny (model X.prog X.w) X.A (evalPart e X.env) (fun u s'=>∃ o H',Inv X pins σ H' s'∧IsPart u o∧Q o H') X.xe s
def Qv:TO:=fun _ H Q=>Q none H
def afL (t:TE):TO:=fun σ H Q=>t σ H fun x H1=>∃ i,x=.int i∧Q (some i) H1
theorem intsAre_of {ns:List Int}:∀ {us:List Value},Vals (ns.map V.int) us→IntsAre us ns:=by
 induction ns with
 | nil=>intro us r; rw [List.map_nil] at r; cases r; exact .nil
 | cons n ns ih =>
  intro us r
  rw [List.map_cons] at r
  cases r with
  | cons r1 r2 =>
   obtain⟨t,e⟩:=r1
   subst e
   exact .cons n t (ih r2)
section
variable {X:Cx}{e:Expr}{te:TE}{lo hi:Option Expr}{tl th:TO}{pos p2:Pos}
theorem agw:PO X none Qv:=by
 intro pins s σ H Q I h
 rw [evalPart_none]
 exact wpAny_pure ⟨none,H,I,.none,h⟩
theorem agv (h:PE X e te):PO X (some e) (afL te):=by
 intro pins s σ H Q I hw
 rw [evalPart_some]
 refine thn (h pins s σ H _ I hw) fun u s1 ⟨x,H1,I1,r1,q1⟩=>?_
 obtain⟨i,rfl,q⟩:=q1
 obtain⟨t,rfl⟩:=r1
 exact⟨some i,H1,I1,.int i t,q⟩
def SlR (X:Cx) (r:V→Option Int→Option Int→Hp→VK→Prop):Prop :=
 ∀ (pins:List (Addr×Obj)) (s:Shared) (σ:St) (H:Hp) (x:V) (v vl vu:Value) (lo hi:Option Int) (sl:Addr) (Q:VK),Inv X pins σ H s→RelV x v→s.heap.IsSliceOf sl vl vu .none→IsPart vl lo→IsPart vu hi→r x lo hi H Q →
  ∃ T id,typeLookup (.type T) "__getitem__"=pure (some (.builtin id))∧s.TypeIs v T∧wpAny (model X.prog X.w) X.A (getItem v (.ref sl)) (EP X pins σ Q) X.xe s
def tSl (r:V→Option Int→Option Int→Hp→VK→Prop) (te:TE) (tl th:TO):TE:=fun σ H Q=>te σ H fun x H1=>tl σ H1 fun l H2=>th σ H2 fun u H3=>r x l u H3 Q
theorem aeT {r:V→Option Int→Option Int→Hp→VK→Prop} (hr:SlR X r) (he:PE X e te) (hl:PO X lo tl) (hu:PO X hi th):PE X (.Subscript e (.Slice lo hi none p2) pos) (tSl r te tl th):=by
 intro pins s σ H Q I h
 refine Subscript_ (thn (he pins s σ H _ I h) fun v s1 ⟨x,H1,I1,r1,q1⟩=>?_)
 refine wpAny_Slice (thn (hl pins s1 σ H1 _ I1 q1) fun vl s2 ⟨l,H2,I2,pl,q2⟩=>thn (hu pins s2 σ H2 _ I2 q2) fun vu s3 ⟨u,H3,I3,pu,q3⟩=>?_)
 rw [evalPart_none]
 refine wpAny_pure ?_
 have I4:Inv X pins σ H3 { s3 with heap:=s3.heap.push { cls:=.type "slice",data:=.fields #[vl,vu,.none] } }:=I3.kept (t':=s3.toks) fun b ob q=>Heap.get?_push_of_some _ q
 obtain⟨T,id,hT,ht,hg⟩:=hr pins { s3 with heap:=s3.heap.push { cls:=.type "slice",data:=.fields #[vl,vu,.none] } } σ H3 x v vl vu l u s3.heap.objs.size Q I4 r1 (Heap.IsSliceOf.new ..) pl pu q3
 show wpAny (model X.prog X.w) X.A (subscriptTail e (.Slice lo hi none p2) v (.ref s3.heap.objs.size)) (EP X pins σ Q) X.xe { s3 with heap:=s3.heap.push { cls:=.type "slice",data:=.fields #[vl,vu,.none] } }
 exact tail_any (ops:=[.ref s3.heap.objs.size,v]) ht hT hg (by with_unfolding_all rfl)
def qe (xs:List V) (lo hi:Option Int):List V:=(xs.drop (HT.sIx xs.length 0 lo)).take (HT.sIx xs.length xs.length hi - HT.sIx xs.length 0 lo)
theorem Kp (xs:List V) (lo hi:Option Int):(qe xs lo hi).length≤xs.length:=by
 unfold qe
 rw [List.length_take,List.length_drop]
 lia
def alm (K:PySem.W.Frag):V→Option Int→Option Int→Hp→VK→Prop:=fun x lo hi H Q=>∃ a xs,x=.ref a∧SqT K H a xs ∧
 ¬ (HT.sIx xs.length 0 lo=0∧HT.sIx xs.length xs.length hi=xs.length)∧∀ p,H p=none→Q (.ref p) (upd H p (.tup (qe xs lo hi)))
theorem ahv:SlR X (alm X.K):=by
 intro pins s σ H x v vl vu lo hi sl Q I rx hs pl pu h
 obtain⟨a,xs,rfl,hx,hw,q⟩:=h
 cases rx
 obtain⟨its,r,ht,hz⟩:=I.tuple hx
 have hlen:its.toArray.size=xs.length:=by rw [List.size_toArray]; exact r.length.symm
 refine⟨"tuple",_,PyProof.Rows.slot_tuple_getitem.lookup,ht.typeIs,?_⟩
 refine HT.J8 ht hs pl pu (by rw [hlen]; exact hw) ?_ (by rw [hlen]; exact hz)
 rw [hlen]
 refine⟨.ref s.heap.objs.size,_,I.laid (t':=s.toks) (o:=.tup (qe xs lo hi)) (fun b ob q=>Heap.get?_push_of_some _ q) (Nat.le_refl _) ?_,rfl,q _ (I.hok.fresh (Nat.le_refl _))⟩
 exact⟨Nat.le_trans (Kp xs lo hi) hz,_,(r.drop (HT.sIx xs.length 0 lo)).take (HT.sIx xs.length xs.length hi - HT.sIx xs.length 0 lo),IsTup.new _ _⟩
def aj_ (K:PySem.W.Frag):R2:=fun x y H Q=>∃ a b xs ys,x=.ref a∧y=.ref b∧SqT K H a xs∧SqT K H b ys∧xs≠[]∧xs.length+ys.length≤sizeLine ∧
 (ys=[]→Q (.ref a) H)∧(ys≠[]→∀ p,H p=none→Q (.ref p) (upd H p (.tup (xs++ys))))
theorem Vals.Ci {xs:List V}{us:List Value} (r:Vals xs us):us=[]↔xs=[]:=by
 cases r with
 | nil=>simp
 | cons _ _=>simp
theorem agE:OpR X (binaryOp .Add) (aj_ X.K):=by
 intro pins s σ H x y v u Q I rx ry h
 obtain⟨a,b,xs,ys,rfl,rfl,ha,hb,hx,hz,q1,q2⟩:=h
 cases rx
 cases ry
 obtain⟨its,r1,p1,_⟩:=I.tuple ha
 obtain⟨its2,r2,p2,_⟩:=I.tuple hb
 refine HT.ag5 p1 p2 (fun z=>hx (r1.Ci.mp z)) (fun z=>⟨.ref a,H,I,rfl,q1 (r2.Ci.mp z)⟩) (fun z=>?_) (by rw [← r1.length,← r2.length]; exact hz)
 refine⟨.ref s.heap.objs.size,_,I.laid (t':=s.toks) (o:=.tup (xs++ys)) (fun b ob q=>Heap.get?_push_of_some _ q) (Nat.le_refl _) ?_,rfl,q2 (fun w=>z (r2.Ci.mpr w)) _ (I.hok.fresh (Nat.le_refl _))⟩
 exact⟨by rw [List.length_append]; exact hz,_,r1.append r2,IsTup.new _ _⟩
end
end L2
namespace L2
open PySem PySem.Spec PyProof.Rows
def ixN (n:Nat) (i:Int):Option Nat:=if 0≤i then (if i<n then some i.toNat else none) else if -(n:Int)≤i then some (i+n).toNat else none
def atI {α:Type} (xs:List α) (i:Int):Option α:=(ixN xs.length i).bind fun j=>xs[j]?
theorem ixN_seq {n:Nat}{i:Int}{j:Nat} (h:ixN n i=some j):seqIndex? i n=some j∧j<n∧-(n:Int)≤i∧i<n:=by
 unfold ixN at h
 by_cases h0:0≤i
 ·rw [if_pos h0] at h
  by_cases h1:i<n
  ·rw [if_pos h1] at h
   have e:i.toNat=j:=Option.some.inj h
   exact⟨by rw [seqIndex_of h0 h1,e],by lia,by lia,h1⟩
  ·rw [if_neg h1] at h; cases h
 ·rw [if_neg h0] at h
  by_cases h1:-(n:Int)≤i
  ·rw [if_pos h1] at h
   have e:(i+n).toNat=j:=Option.some.inj h
   exact⟨by rw [seqIndex_neg (by lia) h1,e],by lia,h1,by lia⟩
  ·rw [if_neg h1] at h; cases h
theorem atI_get {α:Type}{xs:List α}{i:Int}{v:α} (h:atI xs i=some v):∃ j,seqIndex? i xs.length=some j∧xs[j]?=some v∧j<xs.length∧-(xs.length:Int)≤i∧i<xs.length:=by
 unfold atI at h
 cases e:ixN xs.length i with
 | none=>rw [e] at h; cases h
 | some j =>
  rw [e] at h
  obtain⟨h1,h2,h3,h4⟩:=ixN_seq e
  exact⟨j,h1,h,h2,h3,h4⟩
theorem atI_nat {α:Type}{xs:List α}{j:Nat}{v:α} (h:xs[j]?=some v):atI xs (j:Int)=some v:=by
 have hj:j<xs.length:=(List.getElem?_eq_some_iff.mp h).1
 have e:ixN xs.length (j:Int)=some j:=by
  unfold ixN
  rw [if_pos (by lia),if_pos (by lia)]; simp
 unfold atI; rw [e]; exact h
def PlainIx (b:Expr):Prop:=∀ o i,subscripted b false o i=operate [o,i] (getItem o i)
def IxR (X:Cx) (r:R2):Prop :=
 ∀ (value slice:Expr) (pins:List (Addr×Obj)) (s:Shared) (σ:St) (H:Hp) (x y:V) (v u:Value) (Q:VK),Inv X pins σ H s→RelV x v→RelV y u→r x y H Q →
  subscripted slice false v u=operate [v,u] (getItem v u)→wpAny (model X.prog X.w) X.A (subscriptTail value slice v u) (EP X pins σ Q) X.xe s
def MtR (X:Cx) (id:String) (r:V→List V→Hp→VK→Prop):Prop :=
 ∀ (pins:List (Addr×Obj)) (s:Shared) (σ:St) (H:Hp) (x:V) (xs:List V) (v:Value) (us:List Value) (Q:VK),Inv X pins σ H s→RelV x v→Vals xs us→r x xs H Q →
  wpAny (model X.prog X.w) X.A (call (.builtin id) (v::us)) (EP X pins σ Q) X.xe s
section
variable {X:Cx}{a b:Expr}{ta tb:TE}{pos:Pos}
theorem pe_ix {r:R2} (hr:IxR X r) (ha:PE X a ta) (hb:PE X b tb) (hs:PlainIx b):PE X (.Subscript a b pos) (tOp r ta tb):=by
 intro pins s σ H Q I h
 exact Subscript_ (binT ha hb I h fun v u s2 x y H2 I2 rx ry q=>hr a b pins s2 σ H2 x y v u Q I2 rx ry q (hs _ _))
def rIxL (K:PySem.W.Frag):R2:=fun x y H Q=>∃ p xs i v,x=.ref p∧y=.int i∧SqL K H p xs∧atI xs i=some v∧Q v H
def aeK (K:PySem.W.Frag):R2:=fun x y H Q=>∃ p xs i v,x=.ref p∧y=.int i∧SqT K H p xs∧atI xs i=some v∧Q v H
theorem ix_list:IxR X (rIxL X.K):=by
 intro value slice pins s σ H x y v u Q I rx ry h hs
 obtain⟨p,xs,i,z,rfl,rfl,hq,he,q⟩:=h
 cases rx
 obtain⟨t,rfl⟩:=ry
 obtain⟨its,r,pl,hz⟩:=I.list hq
 obtain⟨j,h1,h2,h3,h4,h5⟩:=atI_get he
 obtain⟨w,ew,rw'⟩:=r.get h2
 have hl:=r.length
 have hn:=line63
 have fin:EP X pins σ Q w s:=⟨z,H,I,rw',q⟩
 by_cases h0:0≤i
 ·have hj:i.toNat=j:=by
   rw [seqIndex_of h0 h5] at h1
   exact Option.some.inj h1
  exact item_listR pl.isList h0 (by lia) (by rw [hj]; simpa using ew) fin hs
 ·have hj:(i+(its.toArray.size:Int)).toNat=j:=by
   rw [seqIndex_neg (by lia) h4] at h1
   rw [List.size_toArray,← hl]
   exact Option.some.inj h1
  exact subscriptTail_builtinR (x:=w) pl.isList.typeIs slot_list_getitem.lookup
   (wpAny_getItem_list_neg (Q:=fun r s'=>r=w∧EP X pins σ Q r s') pl.isList (by lia) (by rw [List.size_toArray] <;> lia) (by lia) (by rw [hj]; simpa using ew) ⟨rfl,fin⟩) hs
theorem dH:IxR X (aeK X.K):=by
 intro value slice pins s σ H x y v u Q I rx ry h hs
 obtain⟨p,xs,i,z,rfl,rfl,hq,he,q⟩:=h
 cases rx
 obtain⟨t,rfl⟩:=ry
 obtain⟨its,r,pl,hz⟩:=I.tuple hq
 obtain⟨j,h1,h2,h3,h4,h5⟩:=atI_get he
 obtain⟨w,ew,rw'⟩:=r.get h2
 have hl:=r.length
 have hn:=line63
 have fin:EP X pins σ Q w s:=⟨z,H,I,rw',q⟩
 exact subscriptTail_builtinR (x:=w) pl.typeIs slot_tuple_getitem.lookup
  (getItem_tuple (j:=j) (Q:=fun r s'=>r=w∧EP X pins σ Q r s') pl (by lia) (by lia) (by rw [List.size_toArray,← hl]; exact h1) (by simpa using ew) ⟨rfl,fin⟩) hs
theorem abb (its:List Value) (n j:Nat) (u:Value):Obj.mapSeq (·.setIfInBounds j u) { cls:=.type "list",data:=.seq its.toArray n }={ cls:=.type "list",data:=.seq (its.set j u).toArray n }:=by
 simp [Obj.mapSeq]
theorem Inv.lst {pins:List (Addr×Obj)}{σ:St}{H:Hp}{s:Shared}{p:Addr}{xs:List V} (I:Inv X pins σ H s) (h:H p=some (.lst xs)) :
  ∃ (its:List Value) (n:Nat),Vals xs its∧s.heap.get? p=some { cls:=.type "list",data:=.seq its.toArray n }∧xs.length≤sizeLine:=by
 obtain⟨z,its,n,r,e⟩:=I.hok p _ h
 exact⟨its,n,r,e,z⟩
theorem Inv.ais {pins:List (Addr×Obj)}{σ:St}{H:Hp}{s:Shared}{p:Addr}{xs ys:List V}{its its':List Value}{n n':Nat}{f:Obj→Obj} (I:Inv X pins σ H s) (h:H p=some (.lst xs))
  (ho:s.heap.get? p=some { cls:=.type "list",data:=.seq its.toArray n }) (hf:f { cls:=.type "list",data:=.seq its.toArray n }={ cls:=.type "list",data:=.seq its'.toArray n' }) (r:Vals ys its') (hz:ys.length≤sizeLine) (t:Nat) :
  Inv X pins σ (upd H p (.lst ys)) { s with heap:=s.heap.update p f,toks:=t }:=by
 have e:(s.heap.update p f).get? p=some { cls:=.type "list",data:=.seq its'.toArray n' }:=by
  rw [Heap.get?_update_self f ho (by rw [hf] <;> rfl),hf]
 refine I.write (x:=p) (e:=p) (by rw [h]; trivial) (.inl rfl) (fun b u hb q=>(Heap.get?_update_other _ _ (Ne.symm hb)).trans q) ⟨_,e⟩ ?_
 exact⟨hz,its',n',r,e⟩
def aj7:V→V→V→Hp→(Hp→Prop)→Prop:=fun o i v H Q=>∃ p xs k j,o=.ref p∧i=.int k∧H p=some (.lst xs)∧ixN xs.length k=some j∧Q (upd H p (.lst (xs.set j v)))
theorem set_list:Yl X aj7:=by
 intro pins s σ H o i v ov iv u Q I ro ri rv h
 obtain⟨p,xs,k,j,rfl,rfl,hp,hj,q⟩:=h
 cases ro
 obtain⟨t,rfl⟩:=ri
 obtain⟨its,n,r,ho,hz⟩:=I.lst hp
 obtain⟨h1,h2,h3,h4⟩:=ixN_seq hj
 have hl:=r.length
 have hn:=line63
 have I':Inv X pins σ (upd H p (.lst (xs.set j v))) { s with heap:=s.heap.update p (Obj.mapSeq (·.setIfInBounds j u)) } :=
  I.ais hp ho (abb its n j u) (r.set rv j) (by rw [List.length_set]; exact hz) s.toks
 by_cases h0:0≤k
 ·have hk:k.toNat=j:=by
   rw [seqIndex_of h0 h4] at h1
   exact Option.some.inj h1
  exact PySem.W.ki_setAt ho h0 (by lia) (by rw [List.size_toArray,← hl]; exact h4) (by rw [hk]; exact⟨_,I',q⟩)
 ·have hk:(k+(its.toArray.size:Int)).toNat=j:=by
   rw [seqIndex_neg (by lia) h3] at h1
   rw [List.size_toArray,← hl]
   exact Option.some.inj h1
  exact PySem.W.ki_setBack ho (by lia) (by rw [List.size_toArray,← hl]; exact h3) (by lia) (by rw [hk]; exact⟨_,I',q⟩)
theorem VF (lo hi:Option Int) (n:Nat):(sliceBounds lo hi none n).1=((HT.sIx n 0 lo:Nat):Int)∧(sliceBounds lo hi none n).2.1=((HT.sIx n n hi:Nat):Int)∧(sliceBounds lo hi none n).2.2=1:=by
 refine⟨?_,?_,rfl⟩
 ·cases lo with
  | none=>simp [sliceBounds,HT.sIx]
  | some i =>
   simp only [sliceBounds,HT.sIx,Option.getD_none,show (1:Int) > 0 by decide,if_true]
   by_cases h:i<0
   ·simp only [h,if_true] <;> lia
   ·simp only [h,if_false] <;> lia
 ·cases hi with
  | none=>simp [sliceBounds,HT.sIx]
  | some i =>
   simp only [sliceBounds,HT.sIx,Option.getD_none,show (1:Int) > 0 by decide,if_true]
   by_cases h:i<0
   ·simp only [h,if_true] <;> lia
   ·simp only [h,if_false] <;> lia
theorem T9 (its:List Value) (lo hi:Option Int):slicePick its.toArray lo hi none=((its.drop (HT.sIx its.length 0 lo)).take (HT.sIx its.length its.length hi - HT.sIx its.length 0 lo)).toArray:=by
 obtain⟨h1,h2,h3⟩:=VF lo hi its.toArray.size
 unfold slicePick
 rw [h1,h2,h3]
 simp only [sliceRange_one,pick_run,List.size_toArray] <;> rfl
def aln (K:PySem.W.Frag):V→Option Int→Option Int→Hp→VK→Prop:=fun x lo hi H Q=>∃ a xs,x=.ref a∧SqL K H a xs∧∀ p,H p=none→Q (.ref p) (upd H p (.lst (qe xs lo hi)))
theorem aga:SlR X (aln X.K):=by
 intro pins s σ H x v vl vu lo hi sl Q I rx hs pl pu h
 obtain⟨a,xs,rfl,hx,q⟩:=h
 cases rx
 obtain⟨its,r,ht,hz⟩:=I.list hx
 have hlen:=r.length
 refine⟨"list",_,slot_list_getitem.lookup,ht.isList.typeIs,?_⟩
 refine wpAny_getItem_list_slice ht.isList hs pl pu .none (by simp) ?_ (by rw [List.size_toArray] <;> lia)
 rw [T9,← hlen]
 refine⟨.ref s.heap.objs.size,_,I.laid (t':=s.toks) (o:=.lst (qe xs lo hi)) (fun b ob q=>Heap.get?_push_of_some _ q) (Nat.le_refl _) ?_,rfl,q _ (I.hok.fresh (Nat.le_refl _))⟩
 exact⟨Nat.le_trans (Kp xs lo hi) hz,_,0,(r.drop (HT.sIx xs.length 0 lo)).take (HT.sIx xs.length xs.length hi - HT.sIx xs.length 0 lo),Heap.get?_push_size _ rfl⟩
def JK:V→Bool
 | .non=>true
 | .bl _=>true
 | .int _=>true
 | .str _=>true
 | _=>false
def eqV:V→V→Bool
 | .non,.non=>true
 | .bl a,.bl b=>a == b
 | .bl a,.int b=>(if a then 1 else 0) == b
 | .int a,.bl b=>a == (if b then 1 else 0)
 | .int a,.int b=>a == b
 | .str a,.str b=>a == b
 | _,_=>false
theorem aiL {A:Around}{s:Shared}{y x:V}{u v:Value} (ry:RelV y u) (rx:RelV x v) (fy:JK y=true) (fx:JK x=true):SeqAt.EqAt A s u v (eqV y x):=by
 cases y with
 | non =>
  cases ry
  cases x with
  | non=>cases rx; exact SeqAt.EqAt.same _
  | bl b=>cases rx; exact SeqAt.EqAt.none_bool b
  | int b=>obtain⟨t,rfl⟩:=rx; exact SeqAt.EqAt.none_int b t
  | str b=>obtain⟨t,rfl⟩:=rx; exact SeqAt.EqAt.none_str b t
  | _=>exact absurd (show false=true from fx) Bool.false_ne_true
 | bl a =>
  cases ry
  cases x with
  | non=>cases rx; exact SeqAt.EqAt.bool_none a
  | bl b=>cases rx; exact SeqAt.EqAt.bool_bool a b
  | int b=>obtain⟨t,rfl⟩:=rx; exact SeqAt.EqAt.bool_int a b t
  | str b=>obtain⟨t,rfl⟩:=rx; exact SeqAt.EqAt.bool_str a b t
  | _=>exact absurd (show false=true from fx) Bool.false_ne_true
 | int a =>
  obtain⟨t',rfl⟩:=ry
  cases x with
  | non=>cases rx; exact SeqAt.EqAt.int_none a t'
  | bl b=>cases rx; exact SeqAt.EqAt.int_bool a t' b
  | int b=>obtain⟨t,rfl⟩:=rx; exact SeqAt.EqAt.int_int a t' b t
  | str b=>obtain⟨t,rfl⟩:=rx; exact SeqAt.EqAt.int_str a t' b t
  | _=>exact absurd (show false=true from fx) Bool.false_ne_true
 | str a =>
  obtain⟨t',rfl⟩:=ry
  cases x with
  | non=>cases rx; exact SeqAt.EqAt.str_none a t'
  | bl b=>cases rx; exact SeqAt.EqAt.str_bool a t' b
  | int b=>obtain⟨t,rfl⟩:=rx; exact SeqAt.EqAt.str_int a t' b t
  | str b=>obtain⟨t,rfl⟩:=rx; exact SeqAt.EqAt.str_str a t' b t
  | _=>exact absurd (show false=true from fx) Bool.false_ne_true
 | _=>exact absurd (show false=true from fy) Bool.false_ne_true
def eqU (x:V) (u:Value):Bool:=match u with
 | .none=>eqV .non x
 | .bool b=>eqV (.bl b) x
 | .int i _=>eqV (.int i) x
 | .str z _=>eqV (.str z) x
 | _=>false
theorem ady {x y:V}{u:Value} (r:RelV y u) (f:JK y=true):eqU x u=eqV y x:=by
 cases y with
 | non=>cases r; rfl
 | bl b=>cases r; rfl
 | int i=>obtain⟨t,rfl⟩:=r; rfl
 | str z=>obtain⟨t,rfl⟩:=r; rfl
 | _=>exact absurd (show false=true from f) Bool.false_ne_true
theorem WL {A:Around}{s:Shared}{x:V}{v:Value} (rx:RelV x v) (fx:JK x=true):∀ {xs:List V}{us:List Value},Vals xs us→xs.all JK=true→∀ u∈us,SeqAt.EqAt A s u v (eqU x u)
 | _,_,.nil,_=>fun u hu=>by cases hu
 | y::xs,u::us,.cons r t,f=>fun u' hu=>by
  rw [List.all_cons,Bool.and_eq_true] at f
  rcases List.mem_cons.mp hu with rfl | hu
  ·rw [ady r f.1]; exact aiL r rx f.1 fx
  ·exact WL rx fx t f.2 u' hu
theorem call_len_seq:CallR X (.builtin "len") (fun xs H Q=>∃ p ys,xs=[.ref p]∧(SqL X.K H p ys∨SqT X.K H p ys)∧Q (.int ys.length) H):=by
 intro pins s σ H xs us Q I r h
 obtain⟨p,ys,rfl,hq,q⟩:=h
 obtain⟨u,rfl,rx⟩:=vals1 r
 cases rx
 have hn:=line63
 rcases hq with hq | hq
 ·obtain⟨its,r',pl,hz⟩:=I.list hq
  have hlen:=r'.length
  exact Calls.call_len_list pl.isList (by simp only [List.size_toArray] <;> lia) ⟨.int ys.length,H,I.tok _,⟨s.toks+1,by rw [List.size_toArray,hlen]⟩,q⟩
 ·obtain⟨its,r',pl,hz⟩:=I.tuple hq
  have hlen:=r'.length
  exact len_tuple pl (by simp only [List.size_toArray] <;> lia) ⟨.int ys.length,H,I.tok _,⟨s.toks+1,by rw [List.size_toArray,hlen]⟩,q⟩
theorem ji:CallR X (.type "tuple") (fun xs H Q=>∃ p ys,xs=[.ref p]∧((SqL X.K H p ys∧∀ l,H l=none→Q (.ref l) (upd H l (.tup ys)))∨(SqT X.K H p ys∧Q (.ref p) H))):=by
 intro pins s σ H xs us Q I r h
 obtain⟨p,ys,rfl,h⟩:=h
 obtain⟨u,rfl,rx⟩:=vals1 r
 cases rx
 rcases h with⟨hq,q⟩ | ⟨hq,q⟩
 ·obtain⟨its,r',pl,hz⟩:=I.list hq
  have hlen:=r'.length
  refine call_tuple_list pl.isList (fun h' kp=>?_) (by simp only [List.size_toArray] <;> lia)
  have I1:Inv X pins σ H { s with heap:=h' }:=I.kept (t':=s.toks) kp
  have I2:Inv X pins σ (upd H h'.objs.size (.tup ys)) { s with heap:=h'.push { cls:=.type "tuple",data:=.seq its.toArray } } :=
   I1.laid (t':=s.toks) (fun b o e=>Heap.get?_push_of_some _ e) (Nat.le_refl _) (show ObjOk X.prog X.w _ _ _ (.tup ys) from ⟨hz,its,r',IsTup.new _ _⟩)
  exact⟨.ref h'.objs.size,_,I2,rfl,q _ (I1.hok.fresh (Nat.le_refl _))⟩
 ·obtain⟨its,r',pl,hz⟩:=I.tuple hq
  exact call_tuple_same pl ⟨.ref p,H,I,rfl,q⟩
def tyV (K:PySem.W.Frag) (T:String) (x:V) (H:Hp):Prop:=match x with
 | .str _=>T="str"
 | .int _=>T="int"
 | .ref p=>(T="list"∧∃ xs,SqL K H p xs)∨(T="tuple"∧∃ o,K.lookup p=some o∧o.cls=.type "tuple"∧o.dict=none) ∨
   (T="dict"∧((∃ kvs,H p=some (.dK kvs))∨∃ kvs,H p=some (.dT kvs)))∨(T="set"∧∃ S n,H p=some (.set S n))
 | _=>False
theorem aco {pins:List (Addr×Obj)}{σ:St}{H:Hp}{s:Shared}{T:String}{x:V}{v:Value} (I:Inv X pins σ H s) (r:RelV x v) (ty:tyV X.K T x H) :
  s.TypeIs v T∧∀ a,v=.ref a→∃ ob,s.heap.get? a=some ob∧ob.dict=none:=by
 cases x with
 | str z =>
  obtain⟨t,rfl⟩:=r
  cases (show T="str" from ty)
  exact⟨typeIs_str s z t,fun _ e=>nomatch e⟩
 | int i =>
  obtain⟨t,rfl⟩:=r
  cases (show T="int" from ty)
  exact⟨typeIs_int s i t,fun _ e=>nomatch e⟩
 | ref p =>
  cases r
  rcases ty with⟨rfl,xs,hq⟩ | ⟨rfl,o,hk,hc,hd⟩ | ⟨rfl,hk⟩ | ⟨rfl,S,n,hk⟩
  ·obtain⟨its,_,pl,_⟩:=I.list hq
   refine⟨pl.isList.typeIs,fun a e=>?_⟩
   cases e
   obtain⟨o,n,e,c,hd,_⟩:=pl
   exact⟨o,e,hd⟩
  ·refine⟨⟨o,I.kIn p o hk,hc⟩,fun a e=>?_⟩
   cases e
   exact⟨o,I.kIn _ o hk,hd⟩
  ·have z:∃ o,s.heap.get? p=some o∧o.ExactDict:=by
    rcases hk with⟨kvs,hk⟩ | ⟨kvs,hk⟩
    ·obtain⟨_,_,_,_,o,_,_,e,ex,_⟩:=I.hok p _ hk
     exact⟨o,e,ex⟩
    ·obtain⟨_,_,_,_,o,_,_,e,ex,_⟩:=I.hok p _ hk
     exact⟨o,e,ex⟩
   obtain⟨o,e,ex⟩:=z
   refine⟨⟨o,e,ex.1⟩,fun a e2=>?_⟩
   cases e2
   exact⟨o,e,ex.2.1⟩
  ·obtain⟨o,_,_,_,e,ex,_⟩:=I.hok p _ hk
   refine⟨⟨o,e,ex.1⟩,fun a e2=>?_⟩
   cases e2
   exact⟨o,e,ex.2.1⟩
 | _=>exact False.elim ty
def ahs (K:PySem.W.Frag) (T:String) (r:V→List V→Hp→VK→Prop) (to:TE):TE:=fun σ H Q=>to σ H fun x H1=>tyV K T x H1∧r x [] H1 Q
def tBM (K:PySem.W.Frag) (T:String) (r:V→List V→Hp→VK→Prop) (to:TE) (t:TA):TE:=fun σ H Q=>to σ H fun x H1=>tyV K T x H1∧t σ H1 fun xs H2=>r x xs H2 Q
variable {o e:Expr}{es:List Expr}{to:TE}{t:TA}{name:Str}{apos cpos:Pos}{T id:String}{r:V→List V→Hp→VK→Prop}
theorem ah0 (pa:PlainAttrs T) (slot:Slot T name id) (hty:typeOf (.builtin id)=pure (.type "method_descriptor")) (hm:MtR X id r) (ho:PE X o to)
  (hbase:attributeBase o name X.env (eval o X.env)=eval o X.env:=by rfl) (hline:(apos.endLine == cpos.line)=true:=by rfl):PE X (.Call (.Attribute o name apos) [] [] cpos) (ahs X.K T r to):=by
 intro pins s σ H Q I h
 refine wpAny_Call_method0_late hbase hline (thn (ho pins s σ H _ I h) fun v s1 ⟨x,H1,I1,r1,ty,q1⟩=>?_)
 obtain⟨h1,h2⟩:=aco I1 r1 ty
 exact⟨T,id,pa,slot,hty,h1,h2,Calls.callWith_builtin rfl (PySem.evalArgs_none (hm pins s1 σ H1 x [] v [] Q I1 r1 .nil q1))⟩
theorem akf (pa:PlainAttrs T) (slot:Slot T name id) (hty:typeOf (.builtin id)=pure (.type "method_descriptor")) (hm:MtR X id r) (ho:PE X o to) (ha:PA X (e::es) t)
  (hbase:attributeBase o name X.env (eval o X.env)=eval o X.env:=by rfl)
  (hfew:((backTo cpos (starEach (e::es) X.env)).all (fun x=>!x.1) && (backToKw cpos (keywordEach [] X.env)).all (fun x=>x.1.isSome)
   && decide ((e::es).length+([]:List Keyword).length+(if ([]:List Keyword).isEmpty then 0 else 1)<30))=true:=by rfl)
  (hline:(apos.endLine == cpos.line)=true:=by rfl) (hs:starEach (e::es) X.env=(false,eval e X.env)::starEach es X.env:=by rfl) (hplain:(backTo cpos (starEach es X.env)).any (·.1)=false:=by rfl) :
  PE X (.Call (.Attribute o name apos) (e::es) [] cpos) (tBM X.K T r to t):=by
 intro pins s σ H Q I h
 refine wpAny_Call_method_late hbase hfew hline rfl (thn (ho pins s σ H _ I h) fun v s1 ⟨x,H1,I1,r1,ty,q1⟩=>?_)
 obtain⟨h1,h2⟩:=aco I1 r1 ty
 refine⟨T,id,pa,slot,hty,h1,h2,?_⟩
 have hA:=ha cpos pins s1 σ H1 _ I1 q1
 rw [hs] at hA ⊢
 refine Calls.callWith_builtin (by show (false || (backTo cpos (starEach es X.env)).any (·.1))=false; rw [hplain] <;> rfl) (Calls.evalArgs_plain ?_)
 exact thn hA fun us s2 ⟨vs,H2,I2,r2,q2⟩=>hm pins s2 σ H2 x vs v us Q I2 r1 r2 q2
end
end L2
namespace L2
open PySem PySem.Spec PyProof.Rows
def MtM (X:Cx) (id:String) (r:V→List V→Hp→VK→Prop):Prop :=
 ∀ (pins:List (Addr×Obj)) (s:Shared) (σ:St) (H:Hp) (x:V) (xs:List V) (v:Value) (us:List Value) (Q:VK),Inv X pins σ H s→RelV x v→Vals xs us→r x xs H Q →
  wpAny (model X.prog X.w) X.A (call (.builtin id) (v::us)) (EP X pins σ Q) X.xe s
theorem Vals.one:∀ {x:V}{us:List Value},Vals [x] us→∃ u,us=[u]∧RelV x u
 | _,_,.cons r .nil=>⟨_,rfl,r⟩
theorem Vals.zero:∀ {us:List Value},Vals [] us→us=[]
 | _,.nil=>rfl
theorem Vals.dropLast {xs:List V}{us:List Value} (h:Vals xs us):Vals xs.dropLast us.dropLast:=by
 induction h with
 | nil=>exact .nil
 | cons r t ih =>
  cases t with
  | nil=>exact .nil
  | cons q t'=>exact .cons r ih
theorem Vals.eraseIdx:∀ {xs:List V}{us:List Value} (i:Nat),Vals xs us→Vals (xs.eraseIdx i) (us.eraseIdx i)
 | _,_,_,.nil=>.nil
 | _,_,0,.cons _ t=>t
 | _,_,i+1,.cons r t=>.cons r (Vals.eraseIdx i t)
theorem Vals.reverse {xs:List V}{us:List Value} (h:Vals xs us):Vals xs.reverse us.reverse:=by
 induction h with
 | nil=>exact .nil
 | cons r t ih=>rw [List.reverse_cons,List.reverse_cons]; exact Vals.append ih (.cons r .nil)
theorem Vals.rep {xs:List V}{us:List Value} (h:Vals xs us):∀ k:Nat,Vals (List.replicate k xs).flatten (List.replicate k us).flatten
 | 0=>.nil
 | k+1=>by
  rw [List.replicate_succ,List.replicate_succ,List.flatten_cons,List.flatten_cons]
  exact Vals.append h (Vals.rep h k)
theorem abz {α:Type} (l:List α):l.eraseIdx (l.length - 1)=l.dropLast:=by
 induction l with
 | nil=>rfl
 | cons a r ih =>
  cases r with
  | nil=>rfl
  | cons b r =>
   have e:(a::b::r).length - 1=((b::r).length - 1)+1:=by
    have h1:(a::b::r).length=r.length+2:=rfl
    have h2:(b::r).length=r.length+1:=rfl
    lia
   rw [e,List.eraseIdx_cons_succ,ih]
   all_goals rfl
theorem TX {α:Type}:∀ (l:List α) (i:Nat),(l.eraseIdx i).length≤l.length
 | [],_=>Nat.le_refl _
 | _::_,0=>Nat.le_succ _
 | _::r,i+1=>Nat.succ_le_succ (TX r i)
theorem foldl_rep (its:List Value):∀ (k:Nat) (acc:List Value),
  List.foldl (fun x1 x2=>x1++x2) acc.toArray (List.replicate k its.toArray)=(acc++(List.replicate k its).flatten).toArray
 | 0,acc=>by simp
 | k+1,acc=>by
  have e:acc.toArray++its.toArray=(acc++its).toArray:=by simp
  have e2:(acc++its)++(List.replicate k its).flatten=acc++(List.replicate (k+1) its).flatten:=by
   rw [List.replicate_succ,List.flatten_cons,List.append_assoc]
  rw [← e2,← foldl_rep its k (acc++its),← e,List.replicate_succ,List.foldl_cons]
section
variable {X:Cx}{pins:List (Addr×Obj)}{σ:St}{H:Hp}{s:Shared}{l b:Addr}{xs ys zs:List V}
theorem Inv.Xb {its its':List Value}{n:Nat}{f:Array Value→Array Value}{t':Nat} (I:Inv X pins σ H s) (hH:H l=some (.lst xs))
  (e:s.heap.get? l=some { cls:=.type "list",data:=.seq its.toArray n }) (hf:f its.toArray=its'.toArray) (hv:Vals ys its') (hz:ys.length≤sizeLine) :
  Inv X pins σ (upd H l (.lst ys)) { s with heap:=s.heap.update l (Obj.mapSeq f),toks:=t' }:=by
 have q:=PySem.IsL.update e f
 rw [hf] at q
 refine I.write (x:=l) (e:=l) (by rw [hH]; exact trivial) (.inl rfl) (fun b' u hb hu=>(Heap.get?_update_other s.heap (Obj.mapSeq f) (Ne.symm hb)).trans hu) ⟨_,q⟩ ?_
 exact⟨hz,its',_,hv,q⟩
theorem Inv.lnew {its:List Value}{t':Nat} (I:Inv X pins σ H s) (hv:Vals ys its) (hz:ys.length≤sizeLine) :
  Inv X pins σ (upd H s.heap.objs.size (.lst ys)) { s with heap:=s.heap.push { cls:=.type "list",data:=.seq its.toArray },toks:=t' } :=
 I.laid (fun _ _ q=>Heap.get?_push_of_some _ q) (Nat.le_refl _) ⟨hz,its,0,hv,Heap.get?_push_size _ rfl⟩
theorem Inv.fresh (I:Inv X pins σ H s):H s.heap.objs.size=none:=I.hok.fresh (Nat.le_refl _)
theorem Inv.lstM (I:Inv X pins σ H s) (hH:H l=some (.lst xs)):xs.length≤sizeLine∧∃ (its:List Value) (n:Nat),Vals xs its∧xs.length=its.length∧s.heap.get? l=some { cls:=.type "list",data:=.seq its.toArray n }:=by
 obtain⟨z,its,n,r,e⟩:=I.hok l _ hH
 exact⟨z,its,n,r,r.length,e⟩
theorem LQ {n:Nat} (h:n≤sizeLine):Builtin.List.listTooLong n=false:=by
 unfold Builtin.List.listTooLong
 exact decide_eq_false (by lia)
end
section
variable {X:Cx}
def agl:V→List V→Hp→VK→Prop:=fun x vs H Q=>∃ l xs y,x=.ref l∧vs=[y]∧H l=some (.lst xs)∧xs.length<sizeLine∧Q .non (upd H l (.lst (xs++[y])))
theorem cU:MtM X "list.append" agl:=by
 intro pins s σ H x vs v us Q I rx rv h
 obtain⟨l,xs,y,rfl,rfl,hH,hz,q⟩:=h
 cases rx
 obtain⟨u,rfl,ru⟩:=rv.one
 obtain⟨z,its,n,r,hl,e⟩:=I.lstM hH
 refine call_meets F.slot_list_append ⟨_,e,rfl⟩ F.entry_list_append (F.args_list_append_2 _ _) (PySem.list_append l its.toArray n u (by rw [List.size_toArray]; lia)) ⟨e,?_⟩
 refine⟨.non,_,I.Xb (its':=its++[u]) hH e (by simp) (r.append (.cons ru .nil)) ?_,rfl,q⟩
 rw [List.length_append,List.length_singleton]
 lia
def alp:V→List V→Hp→VK→Prop:=fun x vs H Q=>∃ l xs y,x=.ref l∧vs=[]∧H l=some (.lst xs)∧xs[xs.length - 1]?=some y∧Q y (upd H l (.lst xs.dropLast))
theorem sZ:MtM X "list.pop" alp:=by
 intro pins s σ H x vs v us Q I rx rv h
 obtain⟨l,xs,y,rfl,rfl,hH,hy,q⟩:=h
 cases rx
 have hus:=rv.zero
 subst hus
 obtain⟨z,its,n,r,hl,e⟩:=I.lstM hH
 obtain⟨u,hu,ru⟩:=r.get hy
 have hy':its.toArray[its.toArray.size - 1]?=some u:=by
  show its.toArray[its.length - 1]?=some u
  rw [← Array.getElem?_toList,← hl]
  exact hu
 refine call_meets F.slot_list_pop ⟨_,e,rfl⟩ F.entry_list_pop (F.args_list_pop_1 _) (MeetsSeq.list_pop_last l its.toArray n u hy' (by rw [List.size_toArray]; lia)) ⟨e,?_⟩
 refine⟨y,_,I.Xb (its':=its.dropLast) hH e ?_ r.dropLast ?_,ru,q⟩
 ·show its.toArray.eraseIdxIfInBounds (its.toArray.size - 1)=its.dropLast.toArray
  rw [List.size_toArray,List.eraseIdxIfInBounds_toArray,abz]
 ·rw [List.length_dropLast]
  lia
def ahE:V→List V→Hp→VK→Prop:=fun x vs H Q=>∃ l xs i k y,x=.ref l∧vs=[.int i]∧H l=some (.lst xs)∧-(2 ^ 63)≤i∧i<2 ^ 63∧seqIndex? i xs.length=some k∧xs[k]?=some y∧Q y (upd H l (.lst (xs.eraseIdx k)))
theorem L_:MtM X "list.pop" ahE:=by
 intro pins s σ H x vs v us Q I rx rv h
 obtain⟨l,xs,i,k,y,rfl,rfl,hH,h1,h2,hk,hy,q⟩:=h
 cases rx
 obtain⟨u,rfl,ru⟩:=rv.one
 obtain⟨t,rfl⟩:=ru
 obtain⟨z,its,n,r,hl,e⟩:=I.lstM hH
 obtain⟨w,hw,rw'⟩:=r.get hy
 refine call_meets F.slot_list_pop ⟨_,e,rfl⟩ F.entry_list_pop (F.args_list_pop_2 _ _)
  (MeetsSeq.list_pop_at l its.toArray n i t k w (fitsIndex_both h1 h2) (by rw [List.size_toArray,← hl]; exact hk) (by rw [← Array.getElem?_toList]; exact hw) (by rw [List.size_toArray]; lia)) ⟨e,?_⟩
 refine⟨y,_,I.Xb (its':=its.eraseIdx k) hH e ?_ (r.eraseIdx k) ?_,rw',q⟩
 ·show its.toArray.eraseIdxIfInBounds k=(its.eraseIdx k).toArray
  rw [List.eraseIdxIfInBounds_toArray]
 ·have:=TX xs k
  lia
def alo:R2:=fun x y H Q=>∃ l k xs,x=.ref l∧y=.int k∧H l=some (.lst xs)∧-(2 ^ 63)≤k∧k<2 ^ 63∧xs.length * k.toNat≤sizeLine ∧
 ∀ p,H p=none→Q (.ref p) (upd H p (.lst (List.replicate k.toNat xs).flatten))
theorem len_rep {α:Type} (xs:List α) (k:Nat):(List.replicate k xs).flatten.length=k * xs.length:=by
 induction k with
 | zero=>simp
 | succ k ih=>rw [List.replicate_succ,List.flatten_cons,List.length_append,ih,Nat.succ_mul,Nat.add_comm]
theorem ah4:OpR X (binaryOp .Mult) alo:=by
 intro pins s σ H x y v u Q I rx ry h
 obtain⟨l,k,xs,rfl,rfl,hH,h1,h2,hz,q⟩:=h
 cases rx
 obtain⟨t,rfl⟩:=ry
 obtain⟨z,its,n,r,hl,e⟩:=I.lstM hH
 have hlen:its.toArray.size * k.toNat≤sizeLine:=by rw [List.size_toArray,← hl]; exact hz
 have hcap:¬ its.toArray.size * k.toNat > (2 ^ 63 - 1) / 8:=by
  have:(sizeLine:Nat)≤(2 ^ 63 - 1) / 8:=by decide
  lia
 have hfit:¬ (!Builtin.List.listFitsIndex k)=true:=by
  rw [fitsIndex_both h1 h2]
  exact Bool.false_ne_true
 have abq:¬ Builtin.List.listTooLong (its.toArray.size * k.toNat)=true:=by
  rw [LQ hlen]
  exact Bool.false_ne_true
 have hnew:List.foldl (fun x1 x2=>x1++x2) #[] (List.replicate (if its.toArray.isEmpty=true then 0 else k.toNat) its.toArray)=(List.replicate k.toNat its).flatten.toArray:=by
  have f0:∀ m:Nat,List.foldl (fun x1 x2=>x1++x2) #[] (List.replicate m its.toArray)=(List.replicate m its).flatten.toArray:=fun m=>by
   have:=foldl_rep its m []
   rw [List.nil_append] at this
   exact this
  rw [f0]
  cases its with
  | nil=>simp
  | cons a r'=>rw [if_neg (by simp)]
 refine wpAny_binaryOp_repeat_ref (T:="list") (U:="int") (by decide) ⟨_,e,rfl⟩ (fun s'=>typeIs_int s' k t) noFill_list_mul F.fills_int_mul F.slot_int_rmul repeat_list F.slot_int_index.lookup
  (call_meets F.slot_int_rmul (typeIs_int s k t) F.entry_int_rmul (F.args_int_rmul_2 _ _) (int___rmul___int_list k t l its.toArray n)
   ⟨e,rfl,⟨_,e,rfl⟩,call_meets F.slot_list_mul ⟨_,e,rfl⟩ F.entry_list_mul (F.args_list_mul_2 _ _) (AutoListH.list___mul___list_int_3 l its.toArray n k t hfit hcap abq) ⟨e,?_⟩⟩)
 rw [hnew]
 exact⟨.ref _,_,I.lnew (t':=s.toks) (r.rep k.toNat) (by rw [len_rep,Nat.mul_comm]; exact hz),rfl,q _ I.fresh⟩
end
section
variable {prog:Program}{w:World}{A:Around}{E:Value→Shared→Prop}{s:Shared}
end
section
variable {X:Cx}
end
end L2
namespace Att
open PySem PySem.W PySem.Calls PyProof.Rows
theorem ints_of_wellAll {P:Params}{h:Heap}:∀ (ns:List Int) (vs:List Value),WellAll P h vs (ns.map WData.int)→IntsAre vs ns:=by
 intro ns
 induction ns with
 | nil =>
  intro vs w
  rw [List.map_nil] at w
  cases w
  exact .nil
 | cons n ns ih =>
  intro vs w
  rw [List.map_cons] at w
  cases w with
  | cons a b =>
   cases a
   exact .cons _ _ (ih _ b)
theorem script_of {l:OpenLaw}{n:Nat} (hn:l.most=some n) {P:Params}{h:Heap}{args:List WData}{vals:List Value}
  (hpre:l.row.toRowW.claim.pre args=true) (hwl:WellAll P h vals args) :
  ∃ a vs ns,vals=[Value.ref a]∧args=[WData.list (ns.map WData.int)]∧h.get? a=some { cls:=.type "list",data:=.seq vs.toArray }∧IntsAre vs ns∧ns.length≤n:=by
 have hsh:WShape.hasAll [] args [.list .int]=true:=(pre_splitW hpre).1
 have hc:l.pre.holds [] { args:=args }=true:=(pre_splitW hpre).2
 obtain⟨d,r,rfl,h1,h2⟩:=hasAllW_cons hsh
 obtain rfl:=hasAllW_nil h2
 obtain⟨xs,rfl,h3⟩:=hasW_list h1
 obtain⟨ns,rfl⟩:=items_int h3
 have hlen:ns.length≤n:=by
  unfold OpenLaw.pre at hc
  have h4:(WTm.not (.lt (.lit (.int (n:Int))) (.len (.arg 0)))).holds [] { args:=[.list (ns.map .int)] }=true:=by
   have h4:=(holds_andW hc).1
   rw [hn] at h4
   exact h4
  have h5:=condW_of h4 (w_not (w_lt w_lit (w_len_list (w_arg rfl))))
  rw [List.length_map] at h5
  refine Nat.le_of_not_lt fun q=>?_
  have q':(n:Int)<((ns.length:Nat):Int):=by lia
  first
   | (rw [decide_eq_true q'] at h5; exact absurd h5 (by decide))
   | (simp at h5; lia)
 cases hwl with
 | cons w1 w2 =>
  cases w2
  cases w1 with
  | list ho hall=>exact⟨_,_,ns,rfl,rfl,ho,ints_of_wellAll ns _ hall,hlen⟩
theorem post_true (l:OpenLaw) (args:List WData):l.row.toRowW.claim.post args (.bool true) args=true :=
 postW_of (r:=l.row.toRowW) (X:=(true == true))
  (show WShape.has [] (.bool true) .bool=true by first | rfl | decide | simp [WShape.has,WShape.arms,WShape.armsAll])
  (show (WTm.eq .res (.lit (.bool true))).value [] { args:=args,res:=some (.bool true),after:=args }=some (.bool (true == true)) from w_eq_bool (w_res rfl) w_lit) rfl
theorem attach_call {l:OpenLaw}{n:Nat}{q:Program}{loose:List Str}{XP:(Str→Option Value)→Heap→Prop}{YP:World→Heap→Prop}{d:DefRec}
  (hn:l.most=some n) (hdf:d.params.defaults=[])
  (call:∀ (w:World) (s₀ s₁:Shared) (mg mb:Str→Option Value) (fa:Addr) (o:Obj) (pm cd doc:Value) (a:Addr) (vs:List Value) (ns:List Int),
   Ground q loose [] XP w s₀ mg mb s₁.heap→YP w s₁.heap →
   s₁.heap.get? fa=some o→o.data=.func (docDef d.name d.params d.body d.scope pm cd doc)→s₁.heap.CodeRec cd d.name→mg d.name=some (.ref fa) →
   s₁.heap.get? a=some { cls:=.type "list",data:=.seq vs.toArray }→IntsAre vs ns→ns.length≤n→s₁.gens=#[] →
   codeAny (model l.prog w) callerA (.call (.ref fa) ⟨[.ref a],[]⟩) (fun r s'=>r=.ok (.ret (.bool true))∧OldK s₁.heap s'.heap∧s'.os=s₁.os∧AllBare s'.gens) s₁) :
  WalkO q loose XP YP l.row.toRowW d [] (fun f vs=>PySem.call f vs):=by
 intro w s₀ s₁ mg mb G Y fa o pm cd doc dV kV ho hd hcd hD hmg hg args vals as hpre hlay hrd hwl hlo
 obtain rfl:dV=.none:=Dflts.none hD hdf
 obtain rfl:kV=.none:=Dflts.noKw hD
 obtain⟨a,vs,ns,rfl,rfl,hobj,hints,hlen⟩:=script_of hn hpre hwl
 refine enter_call (codeAny_mono (call w s₀ s₁ mg mb fa o pm cd doc a vs ns G Y ho (fd_plain hd) hcd hmg hobj hints hlen hg) fun r s' hq=>?_)
 obtain⟨rfl,h2,h3,h4⟩:=hq
 exact⟨.inl ⟨.bool true,.bool true,[],rfl,fun _=>rfl,.bool true,post_true l _,fun _=>⟨List.Pairwise.nil,fun _ hm=>(nomatch hm)⟩⟩,h2,h3,h4⟩
section
variable {prog:Program}{w:World}{A:Around}{E:Value→Shared→Prop}{s:Shared}{K:Frag}
end
end Att
namespace L2
open PySem PySem.Spec PyProof.Rows
theorem vals_ints:∀ {vs:List Value}{ns:List Int},IntsAre vs ns→Vals (ns.map V.int) vs
 | _,_,.nil=>.nil
 | _,_,.cons n t h=>.cons ⟨t,rfl⟩ (vals_ints h)
def Only (H:Hp):Prop:=∀ b,H b=none∨∃ o xs,H b=some (.frz o (.lst xs))
theorem law_call {P:Program}{w:World}{K:PySem.W.Frag}{mg mb:Str→Option Value}{CX:CXT}{k:Nat}{fa a:Addr}{fd:FuncData}{x:Str}{sp:Sp}{s₁:Shared}{vs:List Value}{ns:List Int}
  (KX:K.In s₁.heap) (hns:s₁.heap.Ns mainGlobals mg) (hb:s₁.heap.Ns builtinsNs mb) (hbb:∀ x:Str,x≠"__name__"→mb x=bootBuiltins x) (hlim:s₁.heap.NoLimit) (hg:s₁.gens=#[])
  (ha:s₁.heap.get? a=some { cls:=.type "list",data:=.seq vs.toArray }) (hi:IntsAre vs ns) (hl:ns.length≤sizeLine) (hr:Room k callerA)
  (F:∀ base:Heap,K.In base→base.Ns mainGlobals mg→FnOk P w K mg base CX k fa fd [x] sp) (hbind:∀ (s:Shared) (u:Value),BindsTo s fd ⟨[u],[]⟩ [(x,u)])
  (hsp:∀ H:Hp,Only H→SqL K H a (ns.map V.int)→sp [.ref a] H (fun v _=>v=.bl true) fun _ _ _=>False)
  (hCX:∀ H e s',CX [] H s₁ (fun _ _ _=>False) e s'→False) :
  codeAny (model P w) callerA (.call (.ref fa) ⟨[.ref a],[]⟩) (fun r s'=>r=.ok (.ret (.bool true))∧OldK s₁.heap s'.heap∧s'.os=s₁.os∧AllBare s'.gens) s₁:=by
 have rv:=vals_ints hi
 have lenV:=hi.length
 have core:∀ H:Hp,Only H→SqL K H a (ns.map V.int)→HOk P w H s₁.heap→(∀ b,H b≠none→b=a)→(H a≠none→K.lookup a=none) →
   codeAny (model P w) callerA (.call (.ref fa) ⟨[.ref a],[]⟩) (fun r s'=>r=.ok (.ret (.bool true))∧OldK s₁.heap s'.heap∧s'.os=s₁.os∧AllBare s'.gens) s₁:=by
  intro H hO hS hok hA hK
  have base_of:∀ {b:Addr}{o:Obj},s₁.heap.get? b=some o→H b=none→(hidT s₁.heap H).get? b=some o:=fun e n=>hidT_get e n
  have noA:∀ {b:Addr}{o:Obj}{es:Array DictEntry}{ep:Nat},s₁.heap.get? b=some o→o.data=.dict es ep→H b=none:=fun {b o es ep} e d=>by
   cases q:H b with
   | none=>rfl
   | some u =>
    have e':b=a:=hA b (by rw [q]; simp)
    subst e'
    rw [ha] at e; cases e
    have d':Data.seq vs.toArray _=Data.dict es ep:=d
    cases d'
  have nsK:∀ {b:Addr}{m:Str→Option Value},s₁.heap.Ns b m→(hidT s₁.heap H).Ns b m:=fun {b m} ⟨o,es,ep,e,d,r⟩=>⟨o,es,ep,base_of e (noA e d),d,r⟩
  have hKb:K.In (hidT s₁.heap H):=fun b o e=>base_of (KX b o e) (by
   cases q:H b with
   | none=>rfl
   | some u =>
    have e':b=a:=hA b (by rw [q]; simp)
    subst e'
    rw [hK (by rw [q]; simp)] at e; cases e)
  have hM:Mod K mg (hidT s₁.heap H):=⟨hKb,nsK hns,⟨mb,nsK hb,hbb⟩,let ⟨mc,h1,h2⟩:=hlim; ⟨mc,nsK h1,h2⟩⟩
  have e0:Env0 P w K mg (hidT s₁.heap H) callerA [] s₁ H:=⟨rfl,hM,fun b o e=>of_hidT e,Nat.le_of_eq (hidT_size _ _),trivial,fun b hb=>absurd (show b∈([]:List Addr) from hb) (by simp),hok,.of_eq hg⟩
  refine codeAny_mono ((F _ hKb (nsK hns)).run callerA [] s₁ H ⟨[.ref a],[]⟩ [.ref a] [.ref a] _ _ hr e0 (hbind s₁ (.ref a)) (.cons rfl .nil) (hsp H hO hS)) fun r s' h=>?_
  cases r with
  | error e=>exact (hCX H e s' h).elim
  | ok fl =>
   cases fl with
   | next=>exact False.elim h
   | brk=>exact False.elim h
   | cont=>exact False.elim h
   | ret u =>
    obtain⟨v,H',os,bare,un,hok',r',q⟩:=h
    have q':v=.bl true:=q
    subst q'
    obtain rfl:u=Value.bool true:=r'
    refine⟨rfl,OldK.of_keep fun b o e=>?_,os,bare⟩
    cases q:H b with
    | none=>exact un.keep b o e q (by intro z; exact absurd (show b∈([]:List Addr) from z) (by simp)) (by simp)
    | some u =>
     rcases hO b with z | ⟨ob,xs,z⟩
     ·rw [q] at z; cases z
     ·have z2:=un.frzs b ob _ z
      obtain⟨e1,_⟩:=hok b _ z
      obtain⟨e2,_⟩:=hok' b _ z2
      rw [e] at e1; cases e1
      exact e2
 cases hk:K.lookup a with
 | some o =>
  have e:=KX a o hk
  rw [ha] at e
  cases e
  refine core (fun _=>none) (fun _=>.inl rfl) (.inr ⟨_,vs.toArray,_,hk,rfl,rfl,rfl,by rw [List.size_toArray,lenV]; exact hl,by simpa using rv⟩) (fun b u z=>by have z':(none:Option HO)=some u:=z; cases z') (fun b z=>absurd rfl z) fun z=>absurd rfl z
 | none =>
  refine core (fun b=>if b=a then some (.frz { cls:=.type "list",data:=.seq vs.toArray } (.lst (ns.map V.int))) else none) (fun b=>?_) (.inl (.inr ⟨{ cls:=.type "list",data:=.seq vs.toArray },if_pos rfl⟩)) (fun b u z=>?_) (fun b z=>?_) fun _=>hk
  ·by_cases hb:b=a
   ·exact .inr ⟨_,_,if_pos hb⟩
   ·exact .inl (if_neg hb)
  ·by_cases hb:b=a
   ·have z':=(if_pos hb).symm.trans z
    cases z'
    subst hb
    exact⟨ha,by rw [List.length_map]; exact hl,vs,_,rv,ha⟩
   ·have z':=(if_neg hb).symm.trans z
    cases z'
  ·by_cases hb:b=a
   ·exact hb
   ·exact absurd (if_neg hb) z
end L2
namespace L2
open PySem PySem.Spec PyProof.Rows
theorem walk_of {l:PySem.W.OpenLaw}{n k:Nat}{q:Program}{loose:List Str}{XP:(Str→Option Value)→Heap→Prop}{YP:World→Heap→Prop}{d:DefRec}{K:Params→PySem.W.Frag}{CX:World→CXT}{sp:World→Sp}{x:Str}
  (hn:l.most=some n) (hn2:n≤sizeLine) (hdf:d.params.defaults=[]) (hr:Room k callerA)
  (hY:∀ (w:World) (h:Heap),YP w h→(K w.params).In h)
  (F:∀ (w:World) (mg:Str→Option Value) (fa:Addr) (h:Heap),(K w.params).In h→h.Ns mainGlobals mg→mg d.name=some (.ref fa) →
   ∃ fd:FuncData,(∀ (s:Shared) (u:Value),BindsTo s fd ⟨[u],[]⟩ [(x,u)]) ∧
    ∀ base:Heap,(K w.params).In base→base.Ns mainGlobals mg→FnOk l.prog w (K w.params) mg base (CX w) k fa fd [x] (sp w))
  (hsp:∀ (w:World) (H:Hp) (a:Addr) (ns:List Int),ns.length≤n→Only H→SqL (K w.params) H a (ns.map V.int)→sp w [.ref a] H (fun v _=>v=.bl true) fun _ _ _=>False)
  (hCX:∀ (w:World) (H:Hp) (s:Shared) (e:Value) (s':Shared),CX w [] H s (fun _ _ _=>False) e s'→False) :
  PySem.W.WalkO q loose XP YP l.row.toRowW d [] (fun f vs=>PySem.call f vs):=by
 refine Att.attach_call hn hdf fun w s₀ s₁ mg mb fa o pm cd doc a vs ns G Y ho hd hcd hmg hobj hints hlen hg=>?_
 have KX:=hY w _ Y
 obtain⟨fd,hb,hF⟩:=F w mg fa _ KX G.T.g hmg
 exact law_call KX G.T.g G.T.b G.T.builtins G.T.nolimit hg hobj hints (Nat.le_trans hlen hn2) hr hF hb (fun H hO hS=>hsp w H a ns hlen hO hS) fun H e s'=>hCX w H s₁ e s'
end L2
namespace L2
open PySem PySem.Spec PyProof.Rows
def inClass (s:Stmt) (j:Nat):Stmt:=match s with
 | .ClassDef _ _ _ body _ _ _ _ _ _ _=>body.getD j (.Pass ⟨0,0,0,0⟩)
 | _=>.Pass ⟨0,0,0,0⟩
def defArgs (s:Stmt):Arguments:=match s with
 | .FunctionDef _ a _ _ _ _ _ _ _ _=>a
 | _=>{ posonlyargs:=[],args:=[],vararg:=none,kwonlyargs:=[],kw_defaults:=[],kwarg:=none,defaults:=[] }
def defBody (s:Stmt):List Stmt:=match s with
 | .FunctionDef _ _ b _ _ _ _ _ _ _=>b
 | _=>[]
def defScope (s:Stmt):Scope:=match s with
 | .FunctionDef _ _ _ _ _ _ sc _ _ _=>sc
 | _=>{ kind:=.function,names:=[],isGenerator:=false,isCoroutine:=false }
abbrev CX0:CXT:=fun _ _ _ _ _ _=>False
abbrev E0:XK:=fun _ _ _=>False
theorem pass0 {X:Cx}:Passes CX0 X E0:=fun _ _ _ _ _ _ _ h=>h.elim
structure Fun (K:PySem.W.Frag) (x qual:Str) (st:Stmt) (f:Addr) (fd:FuncData):Prop where
 ex:∃ (oc:Value) (od:Option Addr) (kV doc pm:Value) (an:Option Addr) (cdv ct:Value) (osl:Array (Option Value)),
  fd=PySem.W.fnOf x qual (defArgs st) (defBody st) (defScope st) .none kV doc pm an cdv ct∧K.lookup f=some ⟨oc,od,.func fd,osl⟩∧PySem.W.codeIn K cdv qual=true
 kp:PySem.W.keepIn K (.ref f)=true
section
variable {P:Program}{w:World}{K:PySem.W.Frag}{mg:Str→Option Value}{base:Heap}
theorem Fun.ok {x qual:Str}{st:Stmt}{f:Addr}{fd:FuncData}{N ps:List Str}{k:Nat}{sp:Sp} (F:Fun K x qual st f fd) (S:FnScope N ps (defScope st)) (len:∀ vs H Q E,sp vs H Q E→vs.length=ps.length)
  (hbody:∀ (cdv:Value) (A:Around) (outer:List Env) (s:Shared) (H:Hp) (vs:List V) (Q:VK) (E:XK),Room k (A.deeper (envOfC qual (defScope st) s.heap.objs.size f cdv))→sp vs H Q E →
   ∃ t,PSs (cxOf CX0 P w K mg base N qual (defScope st) f cdv A outer s H E).nox (defBody st) t∧t { nx:=fun _ H'=>Q .non H',rt:=Q } (start N vs) H):FnOk P w K mg base CX0 (k+1) f fd ps sp:=by
 obtain⟨oc,od,kV,doc,pm,an,cdv,ct,osl,rfl,lk,hcd⟩:=F.ex
 refine fn_of lk hcd S len fun A outer s H vs Q E hr hsp=>?_
 obtain⟨t,h,q⟩:=hbody cdv A outer s H vs Q E hr hsp
 exact⟨t,h.nox,q⟩
theorem Fun.binds {x qual:Str}{st:Stmt}{f:Addr}{fd:FuncData}{ps:List Str} (F:Fun K x qual st f fd)
  (h:∀ (kV doc pm:Value) (an:Option Addr) (cdv ct:Value) (us:List Value),us.length=ps.length→bindArgs (PySem.W.fnOf x qual (defArgs st) (defBody st) (defScope st) .none kV doc pm an cdv ct) ⟨us,[]⟩=pure (ps.zip us)):Binds K fd ps []:=by
 obtain⟨oc,od,kV,doc,pm,an,cdv,ct,osl,rfl,lk,hcd⟩:=F.ex
 exact .all (h kV doc pm an cdv ct)
theorem fun_mk {x qual:Str}{st:Stmt}{f:Addr}{oc:Value}{od an:Option Addr}{osl:Array (Option Value)}{kV doc pm cdv ct:Value} (l:K.lookup f=some ⟨oc,od,.func (PySem.W.fnOf x qual (defArgs st) (defBody st) (defScope st) .none kV doc pm an cdv ct),osl⟩)
  (c:PySem.W.codeIn K cdv qual=true) (k:PySem.W.keepIn K (.ref f)=true):Fun K x qual st f (PySem.W.fnOf x qual (defArgs st) (defBody st) (defScope st) .none kV doc pm an cdv ct):=⟨⟨oc,od,kV,doc,pm,an,cdv,ct,osl,rfl,l,c⟩,k⟩
end
section
variable {X:Cx}
theorem pv (i:Nat) {x:Str}{pos:Pos} (hN:X.N[i]?=some x:=by rfl) (hv:Vis X.env.scope x:=by first | exact Or.inl rfl | exact Or.inr (Or.inl rfl) | exact Or.inr (Or.inr rfl)) (hd:(x == ("__debug__":Str))=false:=by decide)
  (hcd:(x == ("__classdict__":Str))=false:=by decide):PE X (.Name x pos) (tVar i):=pe_var hN hv hd hcd
end
theorem iteF {A B:Prop} (h:B):if false=true then A else B:=by
 rw [if_neg Bool.false_ne_true]
 exact h
theorem iteT {A B:Prop} (h:A):if true=true then A else B:=by
 rw [if_pos rfl]
 exact h
theorem ite2 {c A B:Prop} [Decidable c] (h1:c→A) (h2:¬ c→B):if c then A else B:=by
 by_cases h:c
 ·rw [if_pos h]
  exact h1 h
 ·rw [if_neg h]
  exact h2 h
def Same (H H':Hp):Prop:=∀ b o,H b=some o→H' b=some o
theorem Same.refl (H:Hp):Same H H:=fun _ _ h=>h
theorem Same.trans {H H1 H2:Hp} (a:Same H H1) (b:Same H1 H2):Same H H2:=fun c o h=>b c o (a c o h)
theorem Same.free {H H':Hp} (e:Same H H') {l:Addr} (h:H' l=Option.none):H l=Option.none:=by
 cases q:H l with
 | none=>rfl
 | some o =>
  rw [e l o q] at h
  cases h
theorem Same.seq {K:PySem.W.Frag}{H H':Hp}{a:Addr}{xs:List V} (e:Same H H') (h:SqL K H a xs):SqL K H' a xs:=by
 rcases h with (h | ⟨o,h⟩) | h
 ·exact .inl (.inl (e _ _ h))
 ·exact .inl (.inr ⟨o,e _ _ h⟩)
 ·exact .inr h
end L2
set_option maxHeartbeats 4000000
namespace Sw
inductive aX {α β:Type} (R:α→β→Prop):List α→List β→Prop where
 | nil:aX R [] []
 | cons {a:α}{b:β}{as:List α}{bs:List β}:R a b→aX R as bs→aX R (a::as) (b::bs)
namespace aX
variable {α β:Type}{R S:α→β→Prop}
theorem length {as:List α}{bs:List β} (h:aX R as bs):bs.length=as.length:=by
 induction h with
 | nil=>rfl
 | cons _ _ ih=>rw [List.length_cons,List.length_cons,ih]
theorem imp {as:List α}{bs:List β} (f:∀ a b,R a b→S a b) (h:aX R as bs):aX S as bs:=by
 induction h with
 | nil=>exact .nil
 | cons r _ ih=>exact .cons (f _ _ r) ih
theorem append {as as':List α}{bs bs':List β} (h:aX R as bs) (g:aX R as' bs'):aX R (as++as') (bs++bs'):=by
 induction h with
 | nil=>exact g
 | cons r _ ih=>exact .cons r ih
theorem one {a:α}{b:β} (h:R a b):aX R [a] [b]:=.cons h .nil
theorem get {as:List α}{bs:List β} (h:aX R as bs):∀ {i:Nat}{b:β},bs[i]?=some b→∃ a,as[i]?=some a∧R a b:=by
 induction h with
 | nil=>intro i b e; simp at e
 | cons r _ ih =>
  intro i b e
  cases i with
  | zero=>exact⟨_,rfl,by have e':=Option.some.inj e; rw [← e']; exact r⟩
  | succ i=>exact ih (i:=i) (by simpa using e)
theorem of_get:∀ {bs:List β}{as:List α},bs.length=as.length→(∀ (i:Nat) b,bs[i]?=some b→∃ a,as[i]?=some a∧R a b)→aX R as bs
 | [],[],_,_=>.nil
 | [],_::_,h,_=>by simp at h
 | _::_,[],h,_=>by simp at h
 | b::bs,a::as,h,g=>by
  obtain⟨a',e,r⟩:=g 0 b rfl
  have e':=Option.some.inj e
  refine .cons (by rw [e']; exact r) (of_get (by simpa using h) fun i b e=>?_)
  exact g (i+1) b (by simpa using e)
end aX
inductive T where
 | node (ts:List T)
namespace T
def kids:T→List T | .node ts=>ts
mutual
def parts:T→Nat | .node ts=>1+aq ts
def aq:List T→Nat
 | []=>0
 | t::ts=>parts t+aq ts
end
mutual
def deep:T→Nat | .node ts=>bR ts
def bR:List T→Nat
 | []=>0
 | t::ts=>max (deep t+1) (bR ts)
end
mutual
def beq:T→T→Bool | .node ts,.node us=>jo ts us
def jo:List T→List T→Bool
 | [],[]=>true
 | t::ts,u::us=>beq t u && jo ts us
 | _,_=>false
end
mutual
theorem beq_iff:∀ t u:T,beq t u=true↔t=u
 | .node ts,.node us=>by
  unfold beq
  rw [yZ ts us]
  exact⟨fun h=>by rw [h],fun h=>by injection h⟩
theorem yZ:∀ ts us:List T,jo ts us=true↔ts=us
 | [],[]=>by simp [jo]
 | [],_::_=>by simp [jo]
 | _::_,[]=>by simp [jo]
 | t::ts,u::us=>by
  unfold jo
  rw [Bool.and_eq_true,beq_iff t u,yZ ts us]
  simp
end
theorem yX (t:T):beq t t=true:=(beq_iff t t).mpr rfl
instance:DecidableEq T:=fun t u=>if h:beq t u=true then isTrue ((beq_iff t u).mp h) else isFalse fun e=>h ((beq_iff t u).mpr e)
theorem aK (ts:List T):(T.node ts).parts=1+aq ts:=by unfold parts; rfl
theorem aP (ts:List T):(T.node ts).deep=bR ts:=by unfold deep; rfl
theorem aR:aq []=0:=by unfold aq; rfl
theorem aA (t:T) (ts:List T):aq (t::ts)=t.parts+aq ts:=by rw [aq]
theorem bQ:bR []=0:=by unfold bR; rfl
theorem aN (t:T) (ts:List T):bR (t::ts)=max (t.deep+1) (bR ts):=by rw [bR]
theorem jw (t:T):1≤t.parts:=by cases t; rw [aK]; lia
theorem dI (t:T):t.parts=1+aq t.kids:=by cases t; rw [aK]; rfl
theorem HD (t:T):t.deep=bR t.kids:=by cases t; rw [aP]; rfl
theorem cL:∀ a b:List T,aq (a++b)=aq a+aq b
 | [],b=>by rw [aR,List.nil_append]; lia
 | t::a,b=>by rw [List.cons_append,aA,aA,cL a b]; lia
theorem h_:∀ a b:List T,bR (a++b)=max (bR a) (bR b)
 | [],b=>by rw [bQ,List.nil_append]; lia
 | t::a,b=>by rw [List.cons_append,aN,aN,h_ a b]; lia
theorem cT:∀ ts:List T,ts.length≤aq ts
 | []=>by simp
 | t::ts=>by
  have h1:=jw t
  have h2:=cT ts
  rw [aA,List.length_cons]
  lia
theorem Ou {ts:List T}{t:T} (h:ts[ts.length - 1]?=some t):aq ts=aq ts.dropLast+t.parts:=by
 have e:ts=ts.dropLast++[t]:=by
  have hne:ts≠[]:=by rintro rfl; simp at h
  have h2:=List.dropLast_concat_getLast hne
  have h3:ts.getLast hne=t:=by
   rw [← List.getLast?_eq_getElem?,List.getLast?_eq_some_getLast hne] at h
   exact Option.some.inj h
  rw [h3] at h2
  exact h2.symm
 have e2:aq ts=aq (ts.dropLast++[t]):=congrArg aq e
 rw [e2,cL,aA,aR]
 lia
theorem Li (n:Nat) (ts:List T):aq ts=aq (ts.take n)+aq (ts.drop n):=by
 rw [← cL,List.take_append_drop]
theorem yq {B:Nat}:∀ {ts:List T},(∀ t∈ts,t.parts≤B)→aq ts≤ts.length * B
 | [],_=>by rw [aR]; lia
 | t::ts,h=>by
  have h1:=h t List.mem_cons_self
  have h2:=yq fun u hu=>h u (List.mem_cons_of_mem _ hu)
  rw [aA,List.length_cons,Nat.succ_mul]
  lia
theorem Bb {B:Nat}:∀ {ts:List T},(∀ t∈ts,t.deep+1≤B)→bR ts≤B
 | [],_=>by rw [bQ]; lia
 | t::ts,h=>by
  have h1:=h t List.mem_cons_self
  have h2:=Bb fun u hu=>h u (List.mem_cons_of_mem _ hu)
  rw [aN]
  lia
theorem kZ:∀ {ts:List T}{t:T},t∈ts→t.parts≤aq ts
 | _::ts,t,h=>by
  rw [aA]
  rcases List.mem_cons.mp h with rfl | h
  ·lia
  ·have:=kZ h
   lia
theorem lH:∀ {ts:List T}{t:T},t∈ts→t.deep+1≤bR ts
 | _::ts,t,h=>by
  rw [aN]
  rcases List.mem_cons.mp h with rfl | h
  ·lia
  ·have:=lH h
   lia
end T
end Sw
namespace Sw
open PySem PySem.Spec PyProof.Rows L2
abbrev Sg:=List (Option V)
def blk (X:Cx) (scope:Scope) (cl:List (Str×Addr)) (C:Addr) (N:List Str) (s:Shared) (H:Hp) (fp:List Addr) (pins:List (Addr×Obj)):Cx :=
 { X with N:=N,s₀:=s,H₀:=H,env:=compEnvC scope cl C X.env,outer:=X.stack,ex:=fp,fn:=fun _=>false,calm:=true,pn:=X.pn++pins,xe:=fun _ _=>False }
def Fd (X:Cx) (scope:Scope):List Str→List Nat→Prop
 | [],[]=>True
 | y::fr,j::js=>(X.N[j]?=some y∧X.env.scope.names.lookup y=some .cell∧(relabel scope X.env).names.lookup y=some .cell)∧Fd X scope fr js
 | _,_=>False
theorem Fd.len {X:Cx}{scope:Scope}:∀ {fr:List Str}{js:List Nat},Fd X scope fr js→fr.length=js.length
 | [],[],_=>rfl
 | _::_,_::_,h=>congrArg (· + 1) (Fd.len h.2)
theorem Fd.get {X:Cx}{scope:Scope}:∀ {fr:List Str}{js:List Nat},Fd X scope fr js→∀ {i:Nat}{y:Str},fr[i]?=some y →
  ∃ j:Nat,js[i]?=some j∧X.N[j]?=some y∧X.env.scope.names.lookup y=some .cell∧(relabel scope X.env).names.lookup y=some .cell
 | [],[],_,i,y,e=>by simp at e
 | z::fr,j::js,h,0,y,e=>by
  have e':z=y:=by simpa using e
  subst e'
  exact⟨j,rfl,h.1⟩
 | z::fr,j::js,h,i+1,y,e=>by
  obtain⟨k,h1,h2⟩:=Fd.get h.2 (i:=i) (y:=y) (by simpa using e)
  exact⟨k,by simpa using h1,h2⟩
structure zB (X:Cx) (scope:Scope) (x:Str) (fr:List Str) (js:List Nat) (cl:List (Str×Addr)):Prop where
 kind:scope.kind=.function
 clos:closureFor scope X.env=pure cl
 cell:∀ y∈scope.names,y.2≠.cell
 loc:∀ y∈scope.names,y.2=.local→scope.names.lookup y.1=some .local
 var:scope.names.lookup x=some .local
 sub:∀ y c,cl.lookup y=some c→X.env.cells.lookup y=some c
 has:∀ y,((relabel scope X.env).names.lookup y=some .cell∨(relabel scope X.env).names.lookup y=some .free)→∃ c,cl.lookup y=some c
 frk:Fd X scope fr js
 nd:(x::fr).Nodup
section
variable {X:Cx}{pins:List (Addr×Obj)}{σ:Sg}{H:Hp}{s:Shared}{scope:Scope}{cl:List (Str×Addr)}{x:Str}{fr:List Str}{js:List Nat}{fp:List Addr}
theorem adN {N:List Str} (I:Inv X pins σ H s) (L:zB X scope x fr js cl) (hc:X.calm=true) (hfp:∀ b∈fp,FpOk X pins H b) (hsz:∀ b∈fp,b<s.heap.objs.size) :
  (blk X scope cl s.heap.objs.size N s H fp pins).Ok where
 mod:=I.ok.mod
 kind:=L.kind
 glob:=I.ok.glob
 blt:=I.ok.blt
 above:=Nat.le_refl _
 inj:=fun y z c h1 h2=>I.ok.inj y z c (L.sub y c h1) (L.sub z c h2)
 has:=fun y hy=>L.has y hy
 cab:=fun y c h _=>absurd (show false=true from h) Bool.false_ne_true
 hd:=fun _=>I.ok.hd hc
 frames:=I.ok.frames
 stk:=.inl rfl
 exf:=fun b hb=>⟨Nat.ne_of_lt (hsz b hb),fun y c h=>(hfp b hb).2.2.2.2.1 y c (L.sub y c h)⟩
 bs:=I.bs
 bsz:=Nat.le_trans I.ok.bsz I.sz
 noex:=fun b o e hb=>by
  rcases (hfp b hb).2.2.2.1 with z | z
  ·exact I.ok.noex b o e z
  ·exact absurd (Nat.lt_of_lt_of_le (Nat.lt_of_lt_of_le (Heap.lt_size e) I.ok.bsz) z) (Nat.lt_irrefl _)
 exfs:=fun b hb z=>by
  rcases List.mem_cons.mp (I.stkSub b z) with e | e
  ·exact (hfp b hb).2.1 e
  ·exact (hfp b hb).2.2.1 e
 funs:=I.stack
 frf:=I.stkFree
def frv (σ:Sg) (js:List Nat):Sg:=js.map fun j=>(σ[j]?).getD none
theorem aao {h1:Heap}{m1:Str→Option Value}{tk:Nat} (I:Inv X pins σ H s) (L:zB X scope x fr js cl) (hc:X.calm=true) (hfp:∀ b∈fp,FpOk X pins H b) (hsz:∀ b∈fp,b<s.heap.objs.size)
  (hn:h1.Ns s.heap.objs.size m1) (hk:∀ b o,s.heap.get? b=some o→h1.get? b=some o) :
  Inv (blk X scope cl s.heap.objs.size (x::fr) s H fp pins) [] (none::frv σ js) H { s with heap:=h1,toks:=tk }:=by
 refine⟨adN I L hc hfp hsz,rfl,I.bare,Un.kept hk,⟨m1,hn,fun i y v e1 e2 _=>?_⟩,fun y c e=>?_,I.hok.fresh (Nat.le_refl _),fun y c e=>I.freeC y c (L.sub y c e),fun p hp=>?_,I.hok.kept hk,?_⟩
 ·cases i with
  | zero=>exact absurd e2 (by simp)
  | succ i =>
   have e1':fr[i]?=some y:=by simpa [blk] using e1
   obtain⟨j,hj,hN,hcell,hrel⟩:=L.frk.get e1'
   have e2':σ[j]?=some (some v):=by
    have q:(frv σ js)[i]?=some (some v):=by simpa using e2
    unfold frv at q
    rw [List.getElem?_map,hj] at q
    have q':(σ[j]?).getD none=some v:=by simpa using q
    cases hs:σ[j]? with
    | none=>rw [hs] at q'; cases q'
    | some o=>rw [hs] at q'; exact congrArg some q'
   obtain⟨m,_,hl⟩:=I.loc
   obtain⟨u,r,lk⟩:=hl j y v hN e2' (.inr (.inl hcell))
   refine⟨u,r,.inr ⟨.inl hrel,?_⟩⟩
   rcases lk with⟨hloc,_⟩ | ⟨_,c,hc1,hc2⟩
   ·have:X.env.scope.names.lookup y=some .local:=hloc
    rw [hcell] at this; cases this
   ·obtain⟨c',hc'⟩:=L.has y (.inl hrel)
    have e3:=L.sub y c' hc'
    rw [hc1] at e3; cases e3
    exact⟨c,hc',hc2.keeps hk⟩
 ·obtain⟨v,hv⟩:=I.cell y c (L.sub y c e)
  exact⟨v,hv.keeps hk⟩
 ·have hp':p∈X.pn++pins:=by simpa [blk] using hp
  obtain⟨a1,a2,a3,a4,a5⟩:=I.pin p hp'
  refine⟨hk _ _ a1,a2,Nat.ne_of_lt (Heap.lt_size a1),fun z=>?_,a5⟩
  rcases List.mem_cons.mp (I.stkSub _ z) with e | e
  ·exact a3 e
  ·exact a4 e
 ·show (none::frv σ js).length=(x::fr).length
  simp [frv,L.frk.len]
theorem Nt {H':Hp}{s':Shared}{h':Heap}{σ':Sg}{N:List Str}{pins':List (Addr×Obj)} (I:Inv X pins σ H s) (J:Inv (blk X scope cl s.heap.objs.size N s H fp pins) pins' σ' H' s') (hfp:∀ b∈fp,FpOk X pins H b)
  (hsb:Heap.SameBut s.heap.objs.size s'.heap h'):Inv X pins σ H' { s' with heap:=h' }:=by
 have hos:s'.os=s.os:=J.os
 have nC:H' s.heap.objs.size=none:=J.free
 have kp:∀ b,b≠s.heap.objs.size→h'.get? b=s'.heap.get? b:=hsb.2
 have low:∀ b o,s.heap.get? b=some o→b≠s.heap.objs.size:=fun b o e=>Nat.ne_of_lt (Heap.lt_size e)
 have u:Un (frs X.stack) fp H H' s.heap h':=by
  have u0:Un (frs X.stack) fp H H' s.heap s'.heap:=J.base
  exact⟨fun b o e n h1 h2=>(kp b (low b o e)).trans (u0.keep b o e n h1 h2),fun b o e n h1 h2=>by
    obtain⟨sl,q⟩:=u0.slot b o e n h1 h2
    exact⟨sl,(kp b (low b o e)).trans q⟩,u0.free,fun b o e h1=>by
    obtain⟨o',q⟩:=u0.there b o e h1
    exact⟨o',(kp b (low b o e)).trans q⟩,u0.tups,u0.frzs,u0.tbls⟩
 have hok:HOk X.prog X.w H' h':=fun b o e=>by
  refine (J.hok b o e).stay (fun c v hc q=>(kp c ?_).trans q) (fun _ q=>q) fun _ _ q=>q
  rcases hc with z | z
  ·rw [z]; intro z'; rw [z',nC] at e; cases e
  ·intro z'; rw [z',nC] at z; cases z
 have q:=I.call (g':=s'.gens) (t':=s'.toks) (d':=s'.drawn) u hok J.bare fun b hb=>⟨(hfp b hb).2.2.2.1,(hfp b hb).2.1,(hfp b hb).2.2.2.2.1,(hfp b hb).2.2.2.2.2⟩
 obtain⟨hp,g,d,tk,os⟩:=s'
 have:os=s.os:=hos
 subst this
 exact q
end
def zZ (J:It) (js:List Nat) (te:TE) (σ:Sg) (Q:VK) (H1:Hp):Prop:=∀ D,H1 D=none →
 ∃ W:Nat→Nat→List V→Hp→Prop,(∃ m,W 0 m [] (upd H1 D (.lst [])))∧∀ i m ys H',W i m ys H'→H' D=some (.lst ys) ∧
  ((J.stop i H'∧Q (.ref D) H')∨(J.go i H'∧∀ x H2,J.yld i H' x H2→te (some x::frv σ js) H2 fun y H3=>H3 D=some (.lst ys)∧ys.length<sizeLine ∧
   ∃ m',m'<m∧W (i+1) m' (ys++[y]) (upd H3 D (.lst (ys++[y])))))
def tLC (wi:TI) (js:List Nat) (te:TE):TE:=fun σ H Q=>wi σ H fun J H1=>zZ J js te σ Q H1
section
variable {X:Cx}{scope:Scope}{cl:List (Str×Addr)}{x:Str}{fr:List Str}{js:List Nat}{elt iter:Expr}{px pos:Pos}{wi:TI}{te:TE}
theorem RD {prog:Program}{w:World}{A:Around}{R:Result→Shared→Prop}{s:Shared}{tg:Expr}{it acc:Value}{env:Env} (Iv:Nat→Shared→Prop)
  (turn:∀ n s,Iv n s→wpAny (model prog w) A (pyNext it) (fun r s1=>match r with
   | none=>R (.ok .next) s1
   | some v=>wpAny (model prog w) A (letOwnedTupleGo tg it v) (fun _ s2=>wpAny (model prog w) A (assign tg env v) (fun _ s3=>wpAny (model prog w) A (eval elt env) (fun y s4 =>
     wpAny (model prog w) A (call (.builtin "list.append") [acc,y]) (fun _ s5=>∃ m,m<n∧Iv m s5) (fun _ _=>False) s4) (fun _ _=>False) s3) (fun _ _=>False) s2) (fun _ _=>False) s1) (fun _ _=>False) s)
  (n:Nat) (h:Iv n s):codeAny (model prog w) A (.compLoop (.ListComp elt [⟨tg,iter,[],0⟩] scope pos) 0 it acc env) R s:=by
 refine codeAny_loop rfl Iv (fun n s hI=>?_) n h
 refine wpAny_noted ?_
 rw [compTurn_list1]
 refine wpAny_bind (wpAny_standAt (wpAny_bind (wpAny_mono (turn n s hI) (fun r s1 h1=>?_) fun _ _ z=>z.elim)))
 cases r with
 | none=>exact wpAny_pure h1
 | some v =>
  refine wpAny_bind (wpAny_mono h1 (fun _ s2 h2=>?_) fun _ _ z=>z.elim)
  refine wpAny_bind (wpAny_mono h2 (fun _ s3 h3=>?_) fun _ _ z=>z.elim)
  refine wpAny_bind (wpAny_bind (wpAny_mono h3 (fun y s4 h4=>?_) fun _ _ z=>z.elim))
  refine wpAny_bind (wpAny_mono h4 (fun _ s5 h5=>?_) fun _ _ z=>z.elim)
  exact wpAny_pure (wpAny_pure ⟨rfl,h5⟩)
theorem ake (hc:X.calm=true) (L:zB X scope x fr js cl) (hi:PI X (.Name x px) iter wi)
  (he:∀ C s H fp pins,PE (blk X scope cl C (x::fr) s H fp pins) elt te)
  (hs:∀ v,foldedSetIterable iter X.env v=pure v:=by intro _; rfl) :
  PE X (.ListComp elt [⟨.Name x px,iter,[],0⟩] scope pos) (tLC wi js te):=by
 intro pins s σ H Q I h
 rw [eval_ListComp]
 refine wpAny_comprehension_free (use:=none) rfl hs L.clos L.kind L.loc (thn (hi pins s σ H _ I h) fun v s1 h1=>thn h1 fun itv s2 h2=>?_)
 obtain⟨it,fp,tn,J,H2,e,I2,T,st2,f2,rd⟩:=h2
 subst e
 obtain⟨W,⟨m0,w0⟩,turn⟩:=rd _ I2.fresh
 have I3:=I2.lnew (ys:=[]) (its:=[]) (t':=s2.toks) .nil (Nat.zero_le _)
 refine wpAny_newObj_type ?_
 have Hv:∀ b∈fp,b<s2.heap.objs.size:=fun b hb=>by
  obtain⟨o,ho,_⟩:=T.obj 0 _ st2 b hb
  exact Heap.lt_size ho
 generalize hs3:({ s2 with heap:=s2.heap.push { cls:=.type "list",dict:=none,data:=.seq ([]:List Value).toArray } }:Shared)=s3
 have I3':Inv X pins σ (upd H2 s2.heap.objs.size (.lst [])) s3:=by rw [← hs3]; exact I3
 have sz3:s3.heap.objs.size=s2.heap.objs.size+1:=by rw [← hs3]; exact Heap.size_push ..
 have k23:∀ b o,s2.heap.get? b=some o→s3.heap.get? b=some o:=fun b o e=>by rw [← hs3]; exact Heap.get?_push_of_some _ e
 have fsz:∀ b∈fp,b<s3.heap.objs.size:=fun b hb=>by rw [sz3]; exact Nat.lt_succ_of_lt (Hv b hb)
 have f3:∀ b∈fp,FpOk X pins (upd H2 s2.heap.objs.size (.lst [])) b:=fun b hb=>⟨by rw [upd_ne (Nat.ne_of_lt (Hv b hb))]; exact (f2 b hb).1,(f2 b hb).2⟩
 refine wpAny_newFunctionEnv L.cell (by intro y hy; simp at hy) (fun h4 hn4 Xh=>?_) L.kind
 have k34:∀ b o,s3.heap.get? b=some o→h4.get? b=some o:=fun b o e=>(Xh.2 b (Nat.ne_of_lt (Heap.lt_size e))).trans (Heap.get?_push_of_some _ e)
 generalize hX':blk X scope cl s3.heap.objs.size (x::fr) s3 (upd H2 s2.heap.objs.size (.lst [])) fp pins=X'
 have I4:Inv X' [] (none::frv σ js) (upd H2 s2.heap.objs.size (.lst [])) { s3 with heap:=h4,toks:=s3.toks+([]:List (Str×Value)).length }:=by
  rw [← hX']; exact aao I3' L hc f3 fsz hn4 k34
 have st4:tn 0 h4:=T.keep _ _ _ st2 fun b _ o e=>k34 b o (k23 b o e)
 have he':PE X' elt te:=by rw [← hX']; exact he _ _ _ _ _
 have xp:X'.prog=X.prog:=by rw [← hX']; rfl
 have xw:X'.w=X.w:=by rw [← hX']; rfl
 have xK:X'.K=X.K:=by rw [← hX']; rfl
 have xA:X'.A=X.A:=by rw [← hX']; rfl
 have xc:X'.calm=true:=by rw [← hX']; rfl
 have xe:X'.xe=fun _ _=>False:=by rw [← hX']; rfl
 have xn:X'.N=x::fr:=by rw [← hX']; rfl
 have xv:X'.env=compEnvC scope cl s3.heap.objs.size X.env:=by rw [← hX']; rfl
 have xpn:X'.pn=X.pn++pins:=by rw [← hX']; rfl
 have xex:X'.ex=fp:=by rw [← hX']; rfl
 have xfs:X'.fs=frs X.stack:=by rw [← hX']; rfl
 have back:∀ {H':Hp}{s':Shared}{h':Heap}{σ':Sg},Inv X' [] σ' H' s'→Heap.SameBut s3.heap.objs.size s'.heap h'→Inv X pins σ H' { s' with heap:=h' }:=fun {H' s' h' σ'} J' hsb=>by
  rw [← hX'] at J'; exact Nt I3' J' f3 hsb
 have frame:∀ b∈fp,b ∉ frs X.stack:=fun b hb z=>by
  rcases List.mem_cons.mp (I3'.stkSub b z) with e | e
  ·exact (f3 b hb).2.1 e
  ·exact (f3 b hb).2.2.1 e
 have stat:∀ {H':Hp},(∀ b∈fp,H' b=none)→∀ b∈fp,FpOk X' [] H' b:=fun {H'} hn b hb=>by
  refine⟨hn b hb,?_,?_,.inl (by rw [xex]; exact hb),?_,?_⟩
  ·rw [xv]; exact Nat.ne_of_lt (fsz b hb)
  ·rw [xfs]; exact frame b hb
  ·rw [xv]; exact fun y c e=>(f3 b hb).2.2.2.2.1 y c (L.sub y c e)
  ·rw [xpn,List.append_nil]; exact (f3 b hb).2.2.2.2.2
 have loop:codeAny (model X.prog X.w) X.A (.compLoop (.ListComp elt [⟨.Name x px,iter,[],0⟩] scope pos) 0 (.ref it) (.ref s2.heap.objs.size) (compEnvC scope cl s3.heap.objs.size X.env))
   (compPost (model X.prog X.w) X.A X.xe none (EP X pins σ Q) (.ref s2.heap.objs.size) s3.heap.objs.size) { s3 with heap:=h4,toks:=s3.toks+([]:List (Str×Value)).length }:=by
  refine RD (fun n s'=>∃ i ys o H',Inv X' [] (o::frv σ js) H' s'∧tn i s'.heap∧(∀ b∈fp,H' b=none)∧W i n ys H') ?_ m0 ⟨0,[],none,_,I4,st4,fun b hb=>(f3 b hb).1,w0⟩
  rintro n s5 ⟨i,ys,o,H5,I5,st5,fr5,w5⟩
  obtain⟨hD,hstep⟩:=turn i n ys H5 w5
  rcases hstep with⟨stop,qn⟩ | ⟨go,step⟩
  ·have q:=T.done X' xp xw xK xc i [] s5 _ H5 (fun _ _=>False) I5 (stat fr5) st5 stop
   rw [xA] at q
   refine thn q fun r s6 ⟨hr,I6⟩=>?_
   subst hr
   obtain⟨m6,hn6,_⟩:=I6.loc
   rw [xv] at hn6
   exact⟨m6,hn6,fun h' hsb=>⟨.ref s2.heap.objs.size,H5,back I6 hsb,rfl,qn⟩⟩
  ·have q:=T.item X' xp xw xK xc i [] s5 _ H5 (fun _ _=>False) I5 (stat fr5) st5 go
   rw [xA] at q
   refine thn q fun r s6 ⟨u,hr,h6⟩=>?_
   subst hr
   refine thn h6 fun _ s7 ⟨xx,H7,I7,r7,y7,st7,fr7⟩=>?_
   have I7':=I7.pinned (stat fr7) (T.obj _ _ st7)
   have hg:PG X' (.Name x px) (gName 0):=by
    refine pg_name (i:=0) (x:=x) (by rw [xn]; exact L.nd) (by rw [xn]; rfl) ?_ ?_
    ·rw [xv]; exact .inl (lookup_relabel_local L.var)
    ·rw [xv]; exact .inr (lookup_relabel_local L.var)
   have q7:=hg _ s7 _ H7 xx u (fun σ8 H8=>σ8=some xx::frv σ js∧H8=H7) I7' r7 ⟨rfl,rfl⟩
   rw [xp,xw,xA,xe,xv] at q7
   refine thn q7 fun _ s8 ⟨σ8,H8,I8,e8,e8'⟩=>?_
   subst e8 e8'
   have q8:=he' _ s8 _ _ _ I8 (step xx _ y7)
   rw [xp,xw,xA,xe,xv] at q8
   refine thn q8 fun yv s9 ⟨y,H9,I9,r9,d9,z9,m9,hm9,w9⟩=>?_
   have q9:=cU (X:=X') _ s9 _ H9 (.ref s2.heap.objs.size) [y] (.ref s2.heap.objs.size) [yv] (fun z H'=>H'=upd H9 s2.heap.objs.size (.lst (ys++[y]))) I9 rfl (.cons r9 .nil) ⟨_,ys,y,rfl,rfl,d9,z9,rfl⟩
   rw [xp,xw,xA,xe] at q9
   refine thn q9 fun _ s10 ⟨_,H10,I10,_,e10⟩=>?_
   subst e10
   refine⟨m9,hm9,i+1,ys++[y],some xx,_,I10.unpinned,T.keep _ _ _ st7 fun b hb ob e=>(I10.pin (b,ob) (List.mem_append_right _ (List.mem_append_right _ (mem_pinsAt hb e)))).1,fun b hb=>?_,w9⟩
   obtain⟨ob,e,_⟩:=T.obj _ _ st7 b hb
   exact (I10.pin (b,ob) (List.mem_append_right _ (List.mem_append_right _ (mem_pinsAt hb e)))).2.1
 exact codeAny_compStart_list loop (T.self _ 0 _ _ _ st4 loop)
end
end Sw
namespace Sw
open PySem PySem.Spec PyProof.Rows L2
def uT (cells:List (Str×Addr)):List (Str×NameKind)→List (Str×Addr)→List (Str×Addr)
 | [],acc=>acc
 | (n,.free)::r,acc=>match cells.lookup n with
  | some c=>uT cells r ((n,c)::acc)
  | none=>uT cells r acc
 | (_,_)::r,acc=>uT cells r acc
theorem Ie {cells:List (Str×Addr)}{n:Str}{k:NameKind}{r:List (Str×NameKind)}{acc:List (Str×Addr)} (h:k≠.free):uT cells ((n,k)::r) acc=uT cells r acc:=by
 cases k <;> first | rfl | exact absurd rfl h
theorem Ig {cells:List (Str×Addr)}{n:Str}{c:Addr}{r:List (Str×NameKind)}{acc:List (Str×Addr)} (h:cells.lookup n=some c):uT cells ((n,.free)::r) acc=uT cells r ((n,c)::acc):=by
 rw [uT,h]
theorem Np {cells:List (Str×Addr)}:∀ {names:List (Str×NameKind)}{acc:List (Str×Addr)},(∀ y∈names,y.2=.free→∃ c,cells.lookup y.1=some c)→(∀ y c,acc.lookup y=some c→cells.lookup y=some c) →
  ∀ y c,(uT cells names acc).lookup y=some c→cells.lookup y=some c
 | [],_,_,h,y,c,e=>h y c e
 | (n,k)::r,acc,hf,h,y,c,e=>by
  have hr:∀ y∈r,y.2=.free→∃ c,cells.lookup y.1=some c:=fun y hy=>hf y (List.mem_cons_of_mem _ hy)
  by_cases hk:k=.free
  ·subst hk
   obtain⟨d,hd⟩:=hf (n,.free) List.mem_cons_self rfl
   rw [Ig hd] at e
   refine Np hr (fun z b hz=>?_) y c e
   rw [List.lookup_cons] at hz
   cases hzn:z == n with
   | true =>
    rw [hzn] at hz
    have:z=n:=eq_of_beq hzn
    rw [this,hd]
    exact hz
   | false =>
    rw [hzn] at hz
    exact h z b hz
  ·rw [Ie hk] at e
   exact Np hr h y c e
theorem Nq {cells:List (Str×Addr)}:∀ {names:List (Str×NameKind)}{acc:List (Str×Addr)},(∀ y∈names,y.2=.free→∃ c,cells.lookup y.1=some c) →
  ∀ y:Str,((y,NameKind.free)∈names∨∃ c,acc.lookup y=some c)→∃ c,(uT cells names acc).lookup y=some c
 | [],_,_,y,h=>by
  rcases h with h | h
  ·simp at h
  ·exact h
 | (n,k)::r,acc,hf,y,h=>by
  have hr:∀ y∈r,y.2=.free→∃ c,cells.lookup y.1=some c:=fun y hy=>hf y (List.mem_cons_of_mem _ hy)
  by_cases hk:k=.free
  ·subst hk
   obtain⟨d,hd⟩:=hf (n,.free) List.mem_cons_self rfl
   rw [Ig hd]
   refine Nq hr y ?_
   by_cases hyn:y=n
   ·subst hyn
    exact .inr ⟨d,by simp [List.lookup_cons]⟩
   ·rcases h with h | ⟨c,h⟩
    ·rcases List.mem_cons.mp h with e | e
     ·exact absurd (congrArg Prod.fst e) hyn
     ·exact .inl e
    ·refine .inr ⟨c,?_⟩
     rw [List.lookup_cons]
     have:(y == n)=false:=by simpa using hyn
     rw [this]
     exact h
  ·rw [Ie hk]
   refine Nq hr y ?_
   rcases h with h | h
   ·rcases List.mem_cons.mp h with e | e
    ·exact absurd (congrArg Prod.snd e).symm hk
    ·exact .inl e
   ·exact .inr h
theorem abK {scope:Scope}{env:Env} (hf:∀ y∈scope.names,y.2=.free→∃ c,env.cells.lookup y.1=some c):closureFor scope env=pure (uT env.cells scope.names []):=by
 have key:∀ (names:List (Str×NameKind)) (acc:List (Str×Addr)),(∀ y∈names,y.2=.free→∃ c,env.cells.lookup y.1=some c) →
   (forIn names acc fun (x:Str×NameKind) (cs:List (Str×Addr))=>(match x with | (name,kind)=>if (kind == NameKind.free)=true then (cellOf env name >>= fun a=>pure (ForInStep.yield ((name,a)::cs))) else pure (ForInStep.yield cs):Sem (ForInStep (List (Str×Addr)))))=pure (uT env.cells names acc):=by
  intro names
  induction names with
  | nil=>intro acc _; rfl
  | cons x r ih =>
   intro acc h
   obtain⟨n,k⟩:=x
   have hr:∀ y∈r,y.2=.free→∃ c,env.cells.lookup y.1=some c:=fun y hy=>h y (List.mem_cons_of_mem _ hy)
   rw [List.forIn_cons]
   by_cases hk:k=.free
   ·subst hk
    obtain⟨d,hd⟩:=h (n,.free) List.mem_cons_self rfl
    have hc:cellOf env n=pure d:=by unfold cellOf; rw [hd]
    rw [Ig hd,← ih _ hr]
    simp only [beq_self_eq_true,if_true,hc,pure_bind]
   ·have hb:(k == NameKind.free)=false:=by simpa using hk
    rw [Ie hk,← ih _ hr]
    simp only [hb,Bool.false_eq_true,if_false,pure_bind]
 have:=key scope.names [] hf
 unfold closureFor
 simp only [bind_pure_comp,map_pure] at this ⊢
 first
  | exact this
  | (rw [this]; rfl)
  | (simp only [this]; rfl)
theorem qD {X:Cx}{scope sc:Scope}{x:Str}{fr:List Str}{js:List Nat} (hk:scope.kind=.function) (hsc:X.env.scope=sc) (hkf:sc.kind=.function)
  (hcell:∀ y∈scope.names,y.2≠.cell) (hloc:∀ y∈scope.names,y.2=.local→scope.names.lookup y.1=some .local) (aoD:scope.names.lookup x=some .local)
  (hfree:∀ y∈scope.names,y.2=.free→sc.names.lookup y.1=some .cell) (hfr:Fd X scope fr js) (hnd:(x::fr).Nodup)
  (hcs:∀ y,X.env.scope.names.lookup y=some .cell→∃ c,X.env.cells.lookup y=some c):zB X scope x fr js (uT X.env.cells scope.names []):=by
 have hall:∀ y∈scope.names,y.2=.free→∃ c,X.env.cells.lookup y.1=some c:=fun y hy e=>hcs _ (by rw [hsc]; exact hfree y hy e)
 refine⟨hk,abK hall,hcell,hloc,aoD,Np hall fun y c e=>by simp at e,fun y hy=>Nq hall y (.inl ?_),hfr,hnd⟩
 have get:∀ k,(k=NameKind.cell∨k=NameKind.free)→(relabel scope X.env).names.lookup y=some k→(y,NameKind.free)∈scope.names:=fun k hkk e=>by
  have hm:=PySem.mem_of_lookup e
  unfold relabel at hm
  obtain⟨⟨n,k0⟩,hin,heq⟩:=List.mem_map.mp hm
  dsimp only at heq
  split at heq
  ·rename_i hc
   have e1:n=y:=congrArg Prod.fst heq
   have e2:k0=.free:=by
    rw [Bool.and_eq_true,Bool.and_eq_true] at hc
    exact eq_of_beq hc.1.1
   rw [← e1,← e2]
   exact hin
  ·have e1:n=y:=congrArg Prod.fst heq
   have e2:k0=k:=congrArg Prod.snd heq
   rcases hkk with z | z
   ·exact absurd (by rw [e2,z]) (hcell _ hin)
   ·rw [← e1,← z,← e2]
    exact hin
 rcases hy with h | h
 ·exact get _ (.inl rfl) h
 ·exact get _ (.inr rfl) h
end Sw
namespace Sw
open PySem PySem.Spec PyProof.Rows L2
theorem same_new {H:Hp}{p:Addr} (h:H p=none) (o:HO):Same H (upd H p o):=fun b u q=>by rw [upd_ne (ne_of_none q h)]; exact q
structure Kt (H H':Hp):Prop where
 t:∀ b xs,H b=some (.tup xs)→H' b=some (.tup xs)
 f:∀ b o u,H b=some (.frz o u)→H' b=some (.frz o u)
theorem Kt.of {H H':Hp} (S:Same H H'):Kt H H':=⟨fun b _ e=>S b _ e,fun b _ _ e=>S b _ e⟩
theorem Kt.refl (H:Hp):Kt H H:=⟨fun _ _ e=>e,fun _ _ _ e=>e⟩
theorem Kt.trans {H H1 H2:Hp} (a:Kt H H1) (b:Kt H1 H2):Kt H H2:=⟨fun _ _ e=>b.t _ _ (a.t _ _ e),fun _ _ _ e=>b.f _ _ _ (a.f _ _ _ e)⟩
theorem Kt.new {H:Hp}{p:Addr}{o:HO} (h:H p=none):Kt H (upd H p o):=.of (same_new h o)
theorem Kt.lst {H:Hp}{p:Addr}{ys:List V}{o:HO} (h:H p=some (.lst ys)):Kt H (upd H p o) :=
 ⟨fun b xs e=>by rw [upd_ne (ne_of e h (fun z=>by cases z))]; exact e,fun b o' u e=>by rw [upd_ne (ne_of e h (fun z=>by cases z))]; exact e⟩
theorem cj {K:PySem.W.Frag}{H H':Hp}{a:Addr}{xs:List V} (S:Kt H H') (h:SqT K H a xs):SqT K H' a xs:=by
 rcases h with (h | ⟨o,h⟩) | h
 ·exact .inl (.inl (S.t _ _ h))
 ·exact .inl (.inr ⟨o,S.f _ _ _ h⟩)
 ·exact .inr h
theorem dZ {H H':Hp}{p:Addr}{o:HO} (S:Same H H') (h:H p=none):Same H (upd H' p o):=fun b u q=>by rw [upd_ne (ne_of_none q h)]; exact S b u q
section
variable {X:Cx}
theorem afv (hc:X.calm=true):CallR X (.builtin "sum") (fun xs H Q=>∃ (p:Addr) (ns:List Int),xs=[.ref p]∧SqL X.K H p (ns.map V.int)∧Q (.int ns.sum) H):=by
 intro pins s σ H xs us Q I r h
 obtain⟨p,ns,rfl,hq,q⟩:=h
 obtain⟨u,rfl,rx⟩:=vals1 r
 cases rx
 obtain⟨its,r',pl,hz⟩:=I.list hq
 have hi:IntsAre its ns:=intsAre_of r'
 obtain⟨ys,e⟩:=hi.allInts.items
 have hns:ns=ys.toList.map (·.1):=by
  rw [← hi.numsOf,← nums_intItems,← e]
 have hl:=pl.isList
 rw [e] at hl
 refine sum_intListG (I.ok.hd hc) hl fun h' tk t' hk=>?_
 have es:preSum (numAt ys) ys.size=ns.sum:=by rw [preSum_eq,List.take_of_length_le (by simp),hns]
 exact⟨.int ns.sum,H,I.kept hk,⟨t',by rw [es]⟩,q⟩
theorem Hw (l:Addr) (items:Array Value) (n:Nat) (b:Addr) (items2:Array Value) (n2:Nat) (dd:Option Addr) (sl:Array (Option Value))
  (h0:¬ (!items.isEmpty && Builtin.List.listTooLong (items.size+items2.size))=true) (h1:items.size≤sizeLine) (h2:items.size+items2.size≤sizeLine+1) :
  Meets (Builtin.«list.extend» ⟨[.ref l,.ref b],[]⟩) (fun _ R s=>s.heap.get? l=some { cls:=.type "list",dict:=none,data:=.seq items n,slots:=#[] } ∧
   s.heap.get? b=some { cls:=.type "tuple",dict:=dd,data:=.seq items2 n2,slots:=sl }∧R (.ok (.ret Value.none)) { s with heap:=s.heap.update l (Obj.mapSeq fun x=>x++items2),toks:=s.toks }) :=
 .of_wp fun prog w A R s h=>by
  obtain⟨hp,g,d,tk,os⟩:=s
  obtain⟨hl,hb,h⟩:=h
  have f1:=AutoSeq1.idx_int
  have f2:=AutoSeq1.sub_tuple_tuple
  have f3:=AutoSeq1.sub_list_list
  have f4:=AutoSeq1.sub_tuple_list
  have f5:=AutoSeq1.sub_list_tuple
  have hz':(items++items2).size≤sizeLine+1:=by
   rw [Array.size_append]
   exact h2
  wp_walk using (wpAny_updateSeq hl rfl (hz:=h1) (_hz':=hz')),AutoSeq1.wpAny_loadPart' hl,AutoSeq1.wpAny_loadPart' hb
  exact⟨_,rfl,h⟩
def aj8 (K:PySem.W.Frag):V→List V→Hp→VK→Prop:=fun x vs H Q=>∃ l b xs zs,x=.ref l∧vs=[.ref b]∧H l=some (.lst xs)∧SqT K H b zs∧xs.length+zs.length≤sizeLine∧Q .non (upd H l (.lst (xs++zs)))
theorem aaf:MtM X "list.extend" (aj8 X.K):=by
 intro pins s σ H x vs v us Q I rx rv h
 obtain⟨l,b,xs,zs,rfl,rfl,hH,hB,hz,q⟩:=h
 cases rx
 obtain⟨u,rfl,ru⟩:=rv.one
 cases ru
 obtain⟨z,its,n,r,hl,e⟩:=I.lstM hH
 obtain⟨its2,r2,⟨⟨c2,d2,dt2,sl2⟩,e2,hc2,n2,hd2⟩,z2⟩:=I.tuple hB
 have hl2:=r2.length
 simp only at hc2 hd2
 subst hc2 hd2
 have hsz:its.toArray.size+its2.toArray.size≤sizeLine:=by rw [List.size_toArray,List.size_toArray]; lia
 have abq:¬ (!its.toArray.isEmpty && Builtin.List.listTooLong (its.toArray.size+its2.toArray.size))=true:=by
  rw [LQ hsz,Bool.and_false]
  exact Bool.false_ne_true
 refine call_meets F.slot_list_extend ⟨_,e,rfl⟩ F.entry_list_extend (F.args_list_extend_2 _ _)
  (Hw l its.toArray n b its2.toArray n2 d2 sl2 abq (by rw [List.size_toArray]; lia) (by lia)) ⟨e,e2,?_⟩
 refine⟨.non,_,I.Xb (its':=its++its2) hH e (by simp) (r.append r2) ?_,rfl,q⟩
 rw [List.length_append]
 lia
theorem Fz {prog:Program}{w:World}{A:Around}{E:Value→Shared→Prop}{s:Shared}{t sl:Addr}{items:Array Value}{vl vu:Value}{lo hi:Option Int}{Q:Value→Shared→Prop}
  (ht:IsTup s.heap t items) (hs:s.heap.IsSliceOf sl vl vu .none) (pl:IsPart vl lo) (pu:IsPart vu hi)
  (h1:HT.sIx items.size 0 lo=0) (h2:HT.sIx items.size items.size hi=items.size) (h:Q (.ref t) s):wpAny (model prog w) A (getItem (.ref t) (.ref sl)) Q E s:=by
 obtain⟨os,hos,hcs,hds⟩:=id hs
 have hTs:s.TypeIs (.ref sl) "slice":=⟨os,hos,hcs⟩
 unfold getItem
 try with_reducible refine wpAny_holding ?_
 first | refine wpAny_bind (wpAny_pure ?_) | skip
 refine wpAny_bind (wpAny_sequenceKey ht.typeIs (by decide) ?_)
 refine wpAny_bind (wpAny_callSpecial?_slot (name:=Str.ofString "__getitem__") ht.typeIs PyProof.Rows.slot_tuple_getitem
  (wpAny_call_entry PyProof.Rows.slot_tuple_getitem ht.typeIs entry_tuple_getitem ?_ (args_tuple_getitem _ _)))
 show wpAny _ _ (Builtin.Tuple.tupleItemsOf (.ref t) >>= _) _ _ s
 refine wpAny_bind (tupleItemsOf_ ht ?_)
 refine wpAny_bind (wpAny_typeOf hTs ?_)
 rw [if_pos (by decide)]
 refine wpAny_bind (HT.xV hs pl pu ?_)
 have hyes:(((HT.sIx items.size 0 lo:Nat):Int) == 0 && (1:Int) == 1 && (HT.sIx items.size items.size hi - HT.sIx items.size 0 lo) == items.size)=true:=by
  rw [h1,h2]
  simp
 show wpAny _ _ (if (((HT.sIx items.size 0 lo:Nat):Int) == 0 && (1:Int) == 1 && (HT.sIx items.size items.size hi - HT.sIx items.size 0 lo) == items.size)=true then _ else _) _ _ s
 rw [if_pos hyes]
 unfold Builtin.Tuple.tupleIsExact
 refine wpAny_bind (wpAny_bind (wpAny_typeOf ht.typeIs (wpAny_pure ?_)))
 rw [if_pos (by decide)]
 refine wpAny_bind (wpAny_rule ?_)
 exact wpAny_pure ⟨_,rfl,wpAny_pure h⟩
def aj6 (K:PySem.W.Frag):V→Option Int→Option Int→Hp→VK→Prop:=fun x lo hi H Q=>∃ a xs,x=.ref a∧SqT K H a xs ∧
 HT.sIx xs.length 0 lo=0∧HT.sIx xs.length xs.length hi=xs.length∧Q (.ref a) H
theorem af_:SlR X (aj6 X.K):=by
 intro pins s σ H x v vl vu lo hi sl Q I rx hs pl pu h
 obtain⟨a,xs,rfl,hx,w1,w2,q⟩:=h
 cases rx
 obtain⟨its,r,ht,hz⟩:=I.tuple hx
 have hlen:its.toArray.size=xs.length:=by rw [List.size_toArray]; exact r.length.symm
 refine⟨"tuple",_,PyProof.Rows.slot_tuple_getitem.lookup,ht.typeIs,?_⟩
 exact Fz ht hs pl pu (by rw [hlen]; exact w1) (by rw [hlen]; exact w2) ⟨.ref a,H,I,rfl,q⟩
def aaS (K:PySem.W.Frag):V→Option Int→Option Int→Hp→VK→Prop:=fun x lo hi H Q=>∃ a xs,x=.ref a∧SqT K H a xs∧∀ p H',Same H H'→SqT K H' p (qe xs lo hi)→Q (.ref p) H'
theorem abH {xs:List V}{lo hi:Option Int} (h1:HT.sIx xs.length 0 lo=0) (h2:HT.sIx xs.length xs.length hi=xs.length):qe xs lo hi=xs:=by
 unfold qe
 rw [h1,h2]
 simp
theorem BZ:SlR X (aaS X.K):=by
 intro pins s σ H x v vl vu lo hi sl Q I rx hs pl pu h
 obtain⟨a,xs,rfl,hx,q⟩:=h
 by_cases hw:HT.sIx xs.length 0 lo=0∧HT.sIx xs.length xs.length hi=xs.length
 ·exact af_ pins s σ H _ v vl vu lo hi sl Q I rx hs pl pu ⟨a,xs,rfl,hx,hw.1,hw.2,q a H (Same.refl H) (by rw [abH hw.1 hw.2]; exact hx)⟩
 ·exact ahv pins s σ H _ v vl vu lo hi sl Q I rx hs pl pu ⟨a,xs,rfl,hx,hw,fun p hp=>q p _ (same_new hp _) (SqT.of upd_same)⟩
theorem Ij:CallR X (.builtin "isinstance") (fun xs H Q=>∃ a ys T b,xs=[.ref a,.ty T]∧SqT X.K H a ys∧PySem.W.kitOne X.K (.type "tuple") (.type T)=some b∧Q (.bl b) H):=by
 intro pins s σ H xs us Q I r h
 obtain⟨a,ys,T,b,rfl,hq,e,q⟩:=h
 obtain⟨u,w',rfl,r1,r2⟩:=vals2 r
 cases r1
 cases r2
 obtain⟨its,_,⟨o,h1,h2,_⟩,_⟩:=I.tuple hq
 exact PySem.W.kia_one PySem.W.kitx_tuple I.kIn ⟨o,h1,h2⟩ e (fun z=>nomatch z) fun tk=>⟨.bl b,H,I.tok tk,rfl,q⟩
end
mutual
def TR (K:PySem.W.Frag) (H:Hp):T→V→Prop
 | .node ts,x=>∃ a xs,x=.ref a∧SqT K H a xs∧TRs K H ts xs
def TRs (K:PySem.W.Frag) (H:Hp):List T→List V→Prop
 | [],xs=>xs=[]
 | t::ts,xs=>∃ x r,xs=x::r∧TR K H t x∧TRs K H ts r
end
section
variable {K:PySem.W.Frag}{H H':Hp}
theorem cN {ts:List T}{x:V}:TR K H (.node ts) x↔∃ a xs,x=.ref a∧SqT K H a xs∧TRs K H ts xs:=by rw [TR]
theorem bO {xs:List V}:TRs K H [] xs↔xs=[]:=by rw [TRs]
theorem cI {t:T}{ts:List T}{xs:List V}:TRs K H (t::ts) xs↔∃ x r,xs=x::r∧TR K H t x∧TRs K H ts r:=by rw [TRs]
theorem JN {t:T}{x:V} (h:TR K H t x):∃ a xs,x=.ref a∧SqT K H a xs∧TRs K H t.kids xs:=by
 cases t with
 | node ts=>exact cN.mp h
theorem vC {ts:List T}{a:Addr}{xs:List V} (h:SqT K H a xs) (q:TRs K H ts xs):TR K H (.node ts) (.ref a):=cN.mpr ⟨a,xs,rfl,h,q⟩
mutual
theorem TR.mono (S:Kt H H'):∀ {t:T}{x:V},TR K H t x→TR K H' t x
 | .node ts,x,h=>by
  obtain⟨a,xs,e,h1,h2⟩:=cN.mp h
  exact cN.mpr ⟨a,xs,e,cj S h1,TRs.mono S h2⟩
theorem TRs.mono (S:Kt H H'):∀ {ts:List T}{xs:List V},TRs K H ts xs→TRs K H' ts xs
 | [],xs,h=>by rw [bO] at h ⊢; exact h
 | t::ts,xs,h=>by
  obtain⟨x,r,e,h1,h2⟩:=cI.mp h
  exact cI.mpr ⟨x,r,e,TR.mono S h1,TRs.mono S h2⟩
end
theorem TRs.length:∀ {ts:List T}{xs:List V},TRs K H ts xs→xs.length=ts.length
 | [],xs,h=>by rw [bO] at h; rw [h]; rfl
 | t::ts,xs,h=>by
  obtain⟨x,r,e,h1,h2⟩:=cI.mp h
  rw [e,List.length_cons,List.length_cons,TRs.length h2]
theorem TRs.append:∀ {ts us:List T}{xs ys:List V},TRs K H ts xs→TRs K H us ys→TRs K H (ts++us) (xs++ys)
 | [],us,xs,ys,h,g=>by rw [bO] at h; rw [h]; exact g
 | t::ts,us,xs,ys,h,g=>by
  obtain⟨x,r,e,h1,h2⟩:=cI.mp h
  rw [e]
  exact cI.mpr ⟨x,r++ys,rfl,h1,TRs.append h2 g⟩
theorem TRs.get:∀ {ts:List T}{xs:List V},TRs K H ts xs→∀ {i:Nat}{x:V},xs[i]?=some x→∃ t,ts[i]?=some t∧TR K H t x
 | [],xs,h,i,x,e=>by rw [bO] at h; rw [h] at e; simp at e
 | t::ts,xs,h,i,x,e=>by
  obtain⟨y,r,rfl,h1,h2⟩:=cI.mp h
  cases i with
  | zero=>exact⟨t,rfl,by have e':y=x:=(by simpa using e);rw [← e']; exact h1⟩
  | succ i=>exact TRs.get h2 (i:=i) (by simpa using e)
theorem TRs.take:∀ (n:Nat) {ts:List T}{xs:List V},TRs K H ts xs→TRs K H (ts.take n) (xs.take n)
 | 0,ts,xs,h=>by rw [List.take_zero,List.take_zero,bO]
 | n+1,[],xs,h=>by rw [bO] at h; rw [h]; exact bO.mpr rfl
 | n+1,t::ts,xs,h=>by
  obtain⟨x,r,rfl,h1,h2⟩:=cI.mp h
  exact cI.mpr ⟨x,r.take n,rfl,h1,TRs.take n h2⟩
theorem TRs.drop:∀ (n:Nat) {ts:List T}{xs:List V},TRs K H ts xs→TRs K H (ts.drop n) (xs.drop n)
 | 0,ts,xs,h=>h
 | n+1,[],xs,h=>by rw [bO] at h; rw [h]; exact bO.mpr rfl
 | n+1,t::ts,xs,h=>by
  obtain⟨x,r,rfl,h1,h2⟩:=cI.mp h
  exact TRs.drop n h2
theorem TRs.dropLast {ts:List T}{xs:List V} (h:TRs K H ts xs):TRs K H ts.dropLast xs.dropLast:=by
 rw [List.dropLast_eq_take,List.dropLast_eq_take,h.length]
 exact h.take _
end
section
variable {X:Cx}{pins:List (Addr×Obj)}{σ:Sg}{H:Hp}{s:Shared}
theorem acw (I:Inv X pins σ H s):∀ (n:Nat),(∀ (t u:T) (x:V),t.parts≤n→TR X.K H t x→TR X.K H u x→t=u)∧(∀ (ts us:List T) (xs:List V),T.aq ts≤n→TRs X.K H ts xs→TRs X.K H us xs→ts=us)
 | 0=>⟨fun t u x h _ _=>absurd (T.jw t) (by lia),fun ts us xs h q r=>by
   have h1:=T.cT ts
   have h2:=q.length
   have h3:=r.length
   have e1:ts=[]:=List.length_eq_zero_iff.mp (by lia)
   have e2:us=[]:=List.length_eq_zero_iff.mp (by lia)
   rw [e1,e2]⟩
 | n+1=>by
  have ih:=acw I n
  have A:∀ (t u:T) (x:V),t.parts≤n+1→TR X.K H t x→TR X.K H u x→t=u:=fun t u x h q r=>by
   cases t with
   | node ts =>
    cases u with
    | node us =>
     obtain⟨a,xs,e1,q1,q2⟩:=cN.mp q
     obtain⟨b,ys,e2,r1,r2⟩:=cN.mp r
     rw [e1] at e2
     cases e2
     have:=I.sy q1 r1
     subst this
     rw [T.aK] at h
     rw [ih.2 ts us xs (by lia) q2 r2]
  refine⟨A,fun ts us xs h q r=>?_⟩
  cases ts with
  | nil =>
   rw [bO] at q
   subst q
   have:=r.length
   exact (List.length_eq_zero_iff.mp (by simpa using this.symm)).symm
  | cons t ts =>
   obtain⟨x,r',rfl,q1,q2⟩:=cI.mp q
   cases us with
   | nil=>rw [bO] at r; cases r
   | cons u us =>
    obtain⟨x2,r2',e,r1,r2⟩:=cI.mp r
    cases e
    rw [T.aA] at h
    have h1:=T.jw t
    rw [A t u x (by lia) q1 r1,ih.2 ts us r' (by lia) q2 r2]
def wV (ts us:List T) (j:Nat):Bool:=match ts[j]?,us[j]? with
 | some t,some u=>T.beq t u
 | _,_=>false
theorem Er:∀ ts us:List T,((List.range (min ts.length us.length)).all (wV ts us) && ts.length == us.length)=T.jo ts us
 | [],[]=>by simp [T.jo]
 | [],u::us=>by simp [T.jo]
 | t::ts,[]=>by simp [T.jo]
 | t::ts,u::us=>by
  have ih:=Er ts us
  have e:min (t::ts).length (u::us).length=min ts.length us.length+1:=by simp only [List.length_cons]; lia
  rw [e,List.range_succ_eq_map,List.all_cons,List.all_map]
  have e2:(wV (t::ts) (u::us)∘Nat.succ)=wV ts us:=by
   funext j
   simp [wV]
  have e3:wV (t::ts) (u::us) 0=T.beq t u:=rfl
  have e4:((t::ts).length == (u::us).length)=(ts.length == us.length):=by simp
  rw [e2,e3,e4,Bool.and_assoc,ih]
  rw [T.jo]
theorem agj (I:Inv X pins σ H s):∀ (n:Nat) (t u:T) (A:Around) (a b:Addr),t.deep≤n→TR X.K H t (.ref a)→TR X.K H u (.ref b)→A.units+n<cLine→SeqAt.RcAt A s (.ref a) (.ref b) (T.beq t u):=by
 intro n
 induction n with
 | zero =>
  intro t u A a b hd q r hu
  cases t with
  | node ts =>
   cases u with
   | node us =>
    obtain⟨a',xs,e1,q1,q2⟩:=cN.mp q
    cases e1
    obtain⟨b',ys,e2,r1,r2⟩:=cN.mp r
    cases e2
    rw [T.aP] at hd
    have hts:ts=[]:=by
     cases ts with
     | nil=>rfl
     | cons t ts=>rw [T.aN] at hd; lia
    subst hts
    rw [bO] at q2
    subst q2
    obtain⟨its,rv,ht,_⟩:=I.tuple q1
    obtain⟨its2,rv2,ht2,_⟩:=I.tuple r1
    have h0:=rv.length
    have h2:=rv2.length
    have h3:=r2.length
    have key:=SeqAt.RcAt.tuples (A:=A) (e:=fun _=>true) ht ht2 (by lia) (fun j j1 _=>absurd j1 (by rw [List.size_toArray,← h0]; simp))
    have ev:((List.range (min its.toArray.size its2.toArray.size)).all (fun _=>true) && its.toArray.size == its2.toArray.size)=T.beq (.node []) (.node us):=by
     rw [List.size_toArray,List.size_toArray,← h0,← h2,h3,T.beq,← Er]
     simp
    rw [ev] at key
    exact key
 | succ n ih =>
  intro t u A a b hd q r hu
  cases t with
  | node ts =>
   cases u with
   | node us =>
    obtain⟨a',xs,e1,q1,q2⟩:=cN.mp q
    cases e1
    obtain⟨b',ys,e2,r1,r2⟩:=cN.mp r
    cases e2
    rw [T.aP] at hd
    obtain⟨its,rv,ht,_⟩:=I.tuple q1
    obtain⟨its2,rv2,ht2,_⟩:=I.tuple r1
    have l1:=rv.length
    have l2:=rv2.length
    have l3:=q2.length
    have l4:=r2.length
    have key:=SeqAt.RcAt.tuples (A:=A) (e:=wV ts us) ht ht2 (by lia) (fun j j1 j2=>?_)
    ·have ev:((List.range (min its.toArray.size its2.toArray.size)).all (wV ts us) && its.toArray.size == its2.toArray.size)=T.beq (.node ts) (.node us):=by
      rw [List.size_toArray,List.size_toArray,← l1,← l2,l3,l4,T.beq,← Er]
     rw [ev] at key
     exact key
    ·have j1':j<xs.length:=by rw [l1]; simpa using j1
     have j2':j<ys.length:=by rw [l2]; simpa using j2
     obtain⟨u1,hu1,ru1⟩:=rv.get (List.getElem?_eq_getElem j1')
     obtain⟨u2,hu2,ru2⟩:=rv2.get (List.getElem?_eq_getElem j2')
     obtain⟨t1,ht1,tr1⟩:=q2.get (List.getElem?_eq_getElem j1')
     obtain⟨t2,aoE,tr2⟩:=r2.get (List.getElem?_eq_getElem j2')
     have ee:wV ts us j=T.beq t1 t2:=by unfold wV; rw [ht1,aoE]
     have g1:its.toArray[j]=u1:=by
      have:its[j]?=some u1:=hu1
      rw [List.getElem?_eq_some_iff] at this
      obtain⟨_,e⟩:=this
      simpa using e
     have g2:its2.toArray[j]=u2:=by
      have:its2[j]?=some u2:=hu2
      rw [List.getElem?_eq_some_iff] at this
      obtain⟨_,e⟩:=this
      simpa using e
     rw [ee,g1,g2]
     obtain⟨a1,zs1,e1,_⟩:=JN tr1
     obtain⟨a2,zs2,e2,_⟩:=JN tr2
     rw [e1] at ru1 tr1
     rw [e2] at ru2 tr2
     obtain rfl:u1=Value.ref a1:=ru1
     obtain rfl:u2=Value.ref a2:=ru2
     by_cases hne:a1=a2
     ·subst hne
      have et:t1=t2:=(acw I t1.parts).1 t1 t2 _ (Nat.le_refl _) tr1 tr2
      rw [et,T.yX]
      exact SeqAt.EqAt.same _
     ·have hd1:t1.deep≤n:=by
       have:=T.lH (List.mem_of_getElem? ht1)
       lia
      exact SeqAt.EqAt.of_refs hne (ih t1 t2 A.in1 a1 a2 hd1 tr1 tr2 (by rw [Around.in1_units]; lia))
end
section
variable {X:Cx}
def aj9 (K:PySem.W.Frag) (n:Nat):R2:=fun x y H Q=>∃ t u,TR K H t x∧TR K H u y∧t.deep≤n∧Q (.bl (T.beq t u)) H
theorem Rc {n:Nat} (hu:X.A.units+n<cLine):OpR X (compareOp .Eq) (aj9 X.K n):=by
 intro pins s σ H x y v u Q I rx ry h
 obtain⟨t,t',h1,h2,hd,q⟩:=h
 obtain⟨a,xs,e1,_⟩:=JN h1
 obtain⟨b,ys,e2,_⟩:=JN h2
 subst e1 e2
 cases rx
 cases ry
 exact agj I n t t' X.A a b hd h1 h2 hu _ _ _ _ ⟨.bl _,H,I,rfl,q⟩
end
section
variable {X:Cx}{K:PySem.W.Frag}
end
theorem af9 {K:PySem.W.Frag}{H:Hp}{a D:Addr}{xs:List V}{o:HO} (h:SqL K H a xs) (hD:H D=none):SqL K (upd H D o) a xs:=(same_new hD o).seq h
theorem agR {K:PySem.W.Frag}{H:Hp}{a:Addr}{xs:List V}{σ:Sg}{js:List Nat}{te:TE}{Q:VK} (Pr:Nat→V→Prop) (hl:SqL K H a xs) (hz:xs.length≤sizeLine)
  (hte:∀ (i:Nat) (x:V) (H':Hp) (R:VK),xs[i]?=some x→Same H H'→(∀ y,Pr i y→R y H')→te (some x::frv σ js) H' R)
  (q:∀ (D:Addr) (ys:List V),H D=none→ys.length=xs.length→(∀ i y,ys[i]?=some y→Pr i y)→Q (.ref D) (upd H D (.lst ys))) :
  zZ (Itl K a) js te σ Q H:=by
 intro D hD
 refine⟨fun i m ys H'=>m=xs.length - i∧i≤xs.length∧ys.length=i∧(∀ j y,ys[j]?=some y→Pr j y)∧H'=upd H D (.lst ys),⟨xs.length,by lia,Nat.zero_le _,rfl,fun j y e=>by simp at e,rfl⟩,?_⟩
 rintro i m ys H' ⟨rfl,hi,hly,hp,rfl⟩
 refine⟨upd_same,?_⟩
 have hl':=af9 (o:=.lst ys) hl hD
 by_cases hlt:i<xs.length
 ·refine .inr ⟨⟨xs,xs[i],hl',List.getElem?_eq_getElem hlt⟩,fun x H2 y=>?_⟩
  obtain⟨e,y⟩:=y
  subst e
  refine hte i x _ _ (y xs hl') (same_new hD _) fun y py=>⟨upd_same,by lia,xs.length - (i+1),by lia,rfl,by lia,by simp [hly],fun j z e=>?_,by rw [Qm]⟩
  by_cases hj:j<ys.length
  ·rw [List.getElem?_append_left hj] at e
   exact hp j z e
  ·rw [List.getElem?_append_right (by lia)] at e
   have:j - ys.length=0:=by
    rcases Nat.eq_zero_or_pos (j - ys.length) with h | h
    ·exact h
    ·rw [List.getElem?_eq_none (by simp; lia)] at e; cases e
   rw [this] at e
   have e':y=z:=by simpa using e
   have ej:j=i:=by lia
   rw [← e',ej]
   exact py
 ·have ei:i=xs.length:=by lia
  exact .inl ⟨⟨xs,hl',by lia⟩,q D ys hD (by lia) hp⟩
end Sw
namespace SwR
open PySem PySem.Spec PyProof.Rows L2 Sw
theorem B_:Slot "reversed" "__next__" "reversed.__next__":=.of (owner:="reversed") (n:="__next__") (by rw [typeLookup_type,builtinLookup_eq_fast]; kernel_rfl) (by decide +kernel) (by decide +kernel) (by decide +kernel) (by first | exact .inl (by decide +kernel) | exact .inr (by decide +kernel)) (by rw [isSubtype_type]; kernel_rfl)
theorem aal:entryFor table "reversed.__next__"=some Builtin.«reversed.__next__»:=entryFor_of_tree (by kernel_rfl)
theorem aar (a:Value):argsOk "reversed.__next__" ⟨[a],[]⟩:=by unfold argsOk; kernel_rfl
theorem ZS:Slot "reversed" "__iter__" "reversed.__iter__":=.of (owner:="reversed") (n:="__iter__") (by rw [typeLookup_type,builtinLookup_eq_fast]; kernel_rfl) (by decide +kernel) (by decide +kernel) (by decide +kernel) (by first | exact .inl (by decide +kernel) | exact .inr (by decide +kernel)) (by rw [isSubtype_type]; kernel_rfl)
theorem ahb (a:Value):argsOk "reversed.__iter__" ⟨[a],[]⟩:=by unfold argsOk; kernel_rfl
theorem ag2:entryFor table "reversed.__iter__"=some Builtin.«dict_keyiterator.__iter__»:=entryFor_alias (id':="dict_keyiterator.__iter__") (by kernel_rfl) (by first | rfl | decide +kernel) (by decide +kernel) (by kernel_rfl)
theorem QC:Slot "reversed" "__length_hint__" "reversed.__length_hint__":=.of (owner:="reversed") (n:="__length_hint__") (by rw [typeLookup_type,builtinLookup_eq_fast]; kernel_rfl) (by decide +kernel) (by decide +kernel) (by decide +kernel) (by first | exact .inl (by decide +kernel) | exact .inr (by decide +kernel)) (by rw [isSubtype_type]; kernel_rfl)
theorem ag3:entryFor table "reversed.__length_hint__"=some Builtin.«reversed.__length_hint__»:=entryFor_of_tree (by kernel_rfl)
theorem ahc (a:Value):argsOk "reversed.__length_hint__" ⟨[a],[]⟩:=by unfold argsOk; kernel_rfl
theorem ail:typeLookup (.type "reversed") "__len__"=pure none:=by rw [typeLookup_type,builtinLookup_eq_fast]; kernel_rfl
theorem agb:Slot "reversed" "__init__" "object.__init__":=.of (owner:="object") (n:="__init__") (by rw [typeLookup_type,builtinLookup_eq_fast]; kernel_rfl) (by decide +kernel) (by decide +kernel) (by decide +kernel) (by first | exact .inl (by decide +kernel) | exact .inr (by decide +kernel)) (by rw [isSubtype_type]; kernel_rfl)
theorem acu:typeLookup (.type "tuple") "__reversed__"=pure none:=by rw [typeLookup_type,builtinLookup_eq_fast]; kernel_rfl
theorem abL:TypeCalled "reversed" "reversed.__new__" "object.__init__" :=
 ⟨by decide +kernel,by decide +kernel,⟨_,_,F.mro_reversed⟩,F.made_reversed,by decide +kernel,by rw [isSubtype_type]; kernel_rfl,agb⟩
def RvO (h:Heap) (p a:Addr) (i:Int):Prop:=∃ o,h.get? p=some o∧o.cls=.type "reversed"∧o.data=.fields #[.ref a,rawInt i]
theorem RvO.typeIs {s:Shared}{p a:Addr}{i:Int} (x:RvO s.heap p a i):s.TypeIs (.ref p) "reversed":=let ⟨o,ho,hc,_⟩:=x; ⟨o,ho,hc⟩
section
variable {prog:Program}{w:World}{A:Around}{E:Value→Shared→Prop}{s:Shared}
theorem next_item {it a:Addr}{i:Nat}{items:Array Value}{x:Value}{Q:Option Value→Shared→Prop} (hit:RvO s.heap it a (i:Int)) (ht:IsTup s.heap a items) (hx:items[i]?=some x) (hz:items.size≤sizeLine) (hne:a≠it)
  (hQ:∀ h' tk,RvO h' it a ((i:Int) - 1)→Heap.SameBut it s.heap h'→Q (some x) { s with heap:=h',toks:=tk }):wpAny (model prog w) A (pyNext (.ref it)) Q E s:=by
 obtain⟨o,ho,hc,hd⟩:=id hit
 unfold pyNext
 refine wpAny_bind (wpAny_attempt (wpAny_callSpecial?_slot (name:=Str.ofString "__next__") hit.typeIs B_ (wpAny_call_entry B_ hit.typeIs aal ?_ (aar _))))
 unfold Builtin.«reversed.__next__»
 refine wpAny_bind (wpAny_of_eq (a:=(Value.ref it,[])) rfl ?_)
 dsimp only
 refine wpAny_bind (wpAny_field ho hd (x:=.ref a) rfl ?_)
 refine wpAny_bind (wpAny_field ho hd (x:=rawInt (i:Int)) rfl ?_)
 show wpAny _ _ (if (i:Int)<0 then _ else _) _ _ s
 rw [if_neg (by lia)]
 refine wpAny_bind (wpAny_specialOf ht.typeIs PyProof.Rows.slot_tuple_getitem.lookup ?_)
 rw [if_neg (by decide)]
 have hi:i<items.size:=(Array.getElem?_eq_some_iff.mp hx).1
 have hl:sizeLine=16777216:=sizeLine_eq
 refine wpAny_bind (wpAny_mkInt ?_)
 refine wpAny_bind (wpAny_attempt (getItem_tuple (j:=i) ht (by lia) (by lia) (by rw [seqIndex_of (by lia) (by lia)]; rfl) hx ?_))
 dsimp only
 refine wpAny_bind (wpAny_field ho hd (x:=rawInt (i:Int)) rfl ?_)
 refine wpAny_bind (wpAny_setField ho hd (by simp) ?_)
 refine wpAny_pure ⟨x,rfl,wpAny_pure (hQ _ _ ?_ (Heap.SameBut.update ..))⟩
 exact⟨_,Heap.get?_update_self _ ho (Obj.isFreed_of_fields (Obj.data_mapFields hd _)),(Obj.cls_mapFields ..).trans hc,by rw [Obj.data_mapFields hd]; simp⟩
theorem next_end {it a:Addr}{Q:Option Value→Shared→Prop} (hh:A.handled=none) (hit:RvO s.heap it a (-1))
  (hQ:∀ h',Heap.ExtBut it s.heap h'→Q none { s with heap:=h' }):wpAny (model prog w) A (pyNext (.ref it)) Q E s:=by
 obtain⟨o,ho,hc,hd⟩:=id hit
 unfold pyNext
 refine wpAny_bind (wpAny_attempt (wpAny_callSpecial?_slot (name:=Str.ofString "__next__") hit.typeIs B_ (wpAny_call_entry B_ hit.typeIs aal ?_ (aar _))))
 unfold Builtin.«reversed.__next__»
 refine wpAny_bind (wpAny_of_eq (a:=(Value.ref it,[])) rfl ?_)
 dsimp only
 refine wpAny_bind (wpAny_field ho hd (x:=.ref a) rfl ?_)
 refine wpAny_bind (wpAny_field ho hd (x:=rawInt (-1)) rfl ?_)
 show wpAny _ _ (if (-1:Int)<0 then _ else _) _ _ s
 rw [if_pos (by decide)]
 refine wpAny_bind (wpAny_rule ?_)
 have e1:=Heap.get?_update_self (Obj.mapFields fun vs=>vs.setIfInBounds 1 (rawInt (-1))) ho (Obj.isFreed_of_fields (Obj.data_mapFields hd _))
 refine wpAny_bind (wpAny_bind (wpAny_setField ho hd (by simp) ?_))
 refine wpAny_setField e1 (Obj.data_mapFields hd _) (by simp) ?_
 refine wpAny_bind ?_
 unfold Builtin.SmallTypes.stopIteration
 refine wpAny_bind ?_
 simp only [newExc,newTuple]
 refine wpAny_bind (wpAny_newObj_type ?_ (by size_fits)); refine wpAny_bind (m:=firstArgMember _ _) (wpAny_of_eq (a:=Value.none) (by first | rfl | (simp only [firstArgMember]; rfl)) ?_); refine wpAny_newObj_type ?_ (by size_fits)
 simp only [raiseNew]; refine wpAny_bind (wpAny_handled ?_)
 first | rw [show A.in1.handled=none from hh] | rw [hh]
 refine wpAny_bind (wpAny_pure (wpAny_throw ?_)); refine wpAny_bind (wpAny_isInstance (T:="StopIteration") (b:=true) ⟨_,Heap.get?_push_size _ rfl,rfl⟩ isSubtype_stop (wpAny_pure (hQ _ ?_)))
 intro b ob hb e
 refine Heap.get?_push_of_some _ (Heap.get?_push_of_some _ ?_)
 exact (Heap.get?_update_other _ _ (Ne.symm hb)).trans ((Heap.get?_update_other _ _ (Ne.symm hb)).trans e)
theorem zT {it a:Addr}{i:Int}{Q:Value→Shared→Prop} (hit:RvO s.heap it a i) (h:Q (.ref it) s):wpAny (model prog w) A (pyIter (.ref it)) Q E s:=by
 refine wpAny_pyIter_slot hit.typeIs ZS (wpAny_call_entry ZS hit.typeIs ag2 ?_ (ahb _))
 show wpAny _ _ (ret (.ref it)) _ _ s
 exact wpAny_pure ⟨_,rfl,"reversed",_,hit.typeIs,B_.lookup,h⟩
theorem RvO.keep {h h':Heap}{p a:Addr}{i:Int} (x:RvO h p a i) (e:∀ o,h.get? p=some o→h'.get? p=some o):RvO h' p a i:=let ⟨o,ho,r⟩:=x; ⟨o,e _ ho,r⟩
theorem Df {h h':Heap}{a:Addr}{items:Array Value} (x:IsTup h a items) (e:∀ o,h.get? a=some o→h'.get? a=some o):IsTup h' a items:=let ⟨o,ho,r⟩:=x; ⟨o,e _ ho,r⟩
end
theorem aci {prog:Program}{w:World}{A:Around} (hh:A.handled=none) (I a:Addr) (hne:a≠I) (items:Array Value) (hz:items.size≤sizeLine) :
  Walks prog w A I [I,a] [I] items.size (fun i v=>items[items.size - 1 - i]?=some v) (fun i h=>i≤items.size∧RvO h I a ((items.size:Int) - 1 - (i:Int))∧IsTup h a items) where
 sub:=fun b hb=>by simp at hb; simp [hb]
 frame:=fun _ _ _ x hk=>⟨x.1,x.2.1.keep fun o e=>hk I (by simp) o e,Df x.2.2 fun o e=>hk a (by simp) o e⟩
 item:=fun i s Q E hi x hQ=>by
  obtain⟨_,hit,ht⟩:=x
  have e:(items.size:Int) - 1 - (i:Int)=((items.size - 1 - i:Nat):Int):=by lia
  rw [e] at hit
  have hx:items[items.size - 1 - i]?=some (items[items.size - 1 - i]'(by lia)):=Array.getElem?_eq_getElem (by lia)
  refine next_item hit ht hx hz hne fun h' tk hit' hs'=>hQ _ h' tk hx ⟨by lia,?_,Df ht fun o eo=>(hs'.2 a hne).trans eo⟩ fun b o hb eo=>hs'.extBut b o (fun z=>hb (by simp [z])) eo
  have e2:((items.size - 1 - i:Nat):Int) - 1=(items.size:Int) - 1 - ((i+1:Nat):Int):=by lia
  rw [← e2]
  exact hit'
 done:=fun s Q E x hQ=>by
  obtain⟨_,hit,ht⟩:=x
  have e:(items.size:Int) - 1 - (items.size:Int)=-1:=by lia
  rw [e] at hit
  exact next_end hh hit fun h' he'=>hQ h' s.toks fun b o hb eo=>he' b o (fun z=>hb (by simp [z])) eo
 self:=fun _ _ _ _ x hQ=>zT x.2.1 hQ
section
variable {prog:Program}{w:World}{A:Around}{E:Value→Shared→Prop}{s:Shared}
theorem T7 (k:Int) (u:Tok):asInt? (.int k u)=pure (some k):=rfl
theorem adL {it a:Addr}{items:Array Value}{Q:Value→Shared→Prop} (hit:RvO s.heap it a ((items.size:Int) - 1)) (ht:IsTup s.heap a items) (hz:items.size≤sizeLine)
  (hQ:∀ t tk,s.toks≤tk→Q (.int (items.size:Int) t) { s with toks:=tk }):wpAny (model prog w) A (call (.builtin "reversed.__length_hint__") [.ref it]) Q E s:=by
 obtain⟨o,ho,hc,hd⟩:=id hit
 have hl:sizeLine=16777216:=sizeLine_eq
 refine wpAny_call_entry QC hit.typeIs ag3 ?_ (ahc _)
 unfold Builtin.«reversed.__length_hint__»
 refine wpAny_bind (wpAny_of_eq (a:=Value.ref it) rfl ?_)
 refine wpAny_bind (wpAny_field ho hd (x:=.ref a) rfl ?_)
 rw [if_neg (show ¬ ((Value.ref a == Value.none)=true) from Bool.false_ne_true)]
 refine wpAny_bind (len_tuple ht (by lia) ?_)
 refine wpAny_bind (m:=asInt? (.int (items.size:Int) (s.toks+1))) (wpAny_pure ?_)
 dsimp only
 refine wpAny_bind (wpAny_field ho hd (x:=rawInt ((items.size:Int) - 1)) rfl ?_)
 show wpAny _ _ (if (items.size:Int)<((items.size:Int) - 1)+1 then _ else retInt (((items.size:Int) - 1)+1)) _ _ _
 rw [if_neg (by lia),show ((items.size:Int) - 1)+1=(items.size:Int) by lia]
 unfold retInt
 refine wpAny_bind (wpAny_mkInt (wpAny_pure ⟨_,rfl,hQ _ _ ?_⟩))
 show s.toks≤s.toks+1+1+1
 lia
theorem aaR {it a S:Addr}{items:Array Value}{c₀:Nat}{R:Result→Shared→Prop} (hh:A.handled=none) (hit:RvO s.heap it a ((items.size:Int) - 1)) (ht:IsTup s.heap a items) (hz:items.size≤sizeLine)
  (hai:a≠it) (hSi:S≠it) (hSa:S≠a) (hS:s.heap.get? S=some { cls:=.type "list",data:=.seq #[] c₀ })
  (hR:∀ h' tk acc' c',(∀ b o,b≠S→b≠it→s.heap.get? b=some o→h'.get? b=some o)→h'.get? S=some { cls:=.type "list",dict:=none,data:=.seq acc' c',slots:=#[] } →
   ItemsOf (fun i v=>items[items.size - 1 - i]?=some v) acc' items.size→R (.ok (.ret .none)) { s with heap:=h',toks:=tk }) :
  wpAny (model prog w) A.in1 (Builtin.List.listExtendWith (.ref S) (.ref it) .none)
   (fun fin s'=>match fin with | .done f=>R (.ok f) s' | .again c'=>c'.quiet=true∧codeAny (model prog w) A c' R s') (fun e s'=>R (.error e) s') s:=by
 have hl:sizeLine=16777216:=sizeLine_eq
 have h1:Builtin.List.listSameRef (.ref S) (.ref it)=false:=by simp [Builtin.List.listSameRef,hSi]
 unfold Builtin.List.listExtendWith
 refine wpAny_bind (wpAny_typeOf hit.typeIs ?_)
 rw [if_neg (by rw [h1]; decide)]
 refine wpAny_bind (zT hit ?_)
 refine wpAny_bind (wpAny_holding ?_)
 unfold Builtin.List.listLengthHint
 refine wpAny_bind (wpAny_specialOf hit.typeIs ail ?_)
 show wpAny _ A.in1 (specialOf (Value.ref it) (Str.ofString "__length_hint__") >>= _) _ _ _
 refine wpAny_bind (wpAny_specialOf hit.typeIs QC.lookup ?_)
 (generalize hid:("reversed.__length_hint__":String)=id0; (fail_if_success (clear hid id0)); wp_delta; rw [show splitId id0=some ("reversed","__length_hint__") from by subst hid; decide +kernel]; subst hid)
 refine wpAny_bind (wpAny_isInstance (b:=true) hit.typeIs (by rw [isSubtype_type]; kernel_rfl) ?_)
 rw [if_neg (by decide)]
 dsimp only
 rw [if_neg (by decide)]
 refine wpAny_bind (wpAny_rule ?_)
 refine wpAny_bind (wpAny_of_eq (QC.bind _) ?_)
 dsimp only
 refine wpAny_bind (wpAny_attempt (adL hit ht hz fun t tk htk=>?_))
 dsimp only
 rw [T7,pure_bind]
 dsimp only
 have hf:Builtin.List.listFitsIndex (items.size:Int)=true:=by
  unfold Builtin.List.listFitsIndex
  simp only [Bool.and_eq_true,decide_eq_true_eq]
  lia
 have htl:Builtin.List.listTooLong (Int.toNat (items.size:Int))=false:=by
  rw [Int.toNat_natCast]
  exact LQ hz
 rw [if_neg (by rw [hf]; decide),if_neg (by lia),if_neg (by rw [htl]; decide)]
 refine wpAny_pure ?_
 have hSf:S ∉ [it,a]:=by simp [hSi,hSa]
 have W:=aci (prog:=prog) (w:=w) (A:=A.in1) hh it a hai items hz
 have loop:∀ (s2:Shared) (c₂:Nat),(∀ b o,b≠S→s.heap.get? b=some o→s2.heap.get? b=some o)→s2.heap.get? S=some { cls:=.type "list",data:=.seq #[] c₂ }→s2.gens=s.gens→s2.drawn=s.drawn→s2.os=s.os →
   codeAny (model prog w) A (.builtin "list.extend.loop" ⟨[.ref S,.ref it,.none],[]⟩) R s2:=fun s2 c₂ hk hS2 g1 g2 g3=>by
  have st:0≤items.size∧RvO s2.heap it a ((items.size:Int) - 1 - ((0:Nat):Int))∧IsTup s2.heap a items:=by
   refine⟨Nat.zero_le _,?_,Df ht fun o e=>hk a o (Ne.symm hSa) e⟩
   have:(items.size:Int) - 1 - ((0:Nat):Int)=(items.size:Int) - 1:=by lia
   rw [this]
   exact hit.keep fun o e=>hk it o (Ne.symm hSi) e
  refine codeAny_extend_loopS W.toS hz S hSf .none items.size 0 s2 #[] c₂ rfl (Nat.zero_le _) st hS2 (ItemsOf.nil _) fun s' acc' c' hm hS' hacc=>?_
  have hs':=Moved.eq_with hm
  rw [g1,g2,g3] at hs'
  rw [hs']
  exact hR s'.heap s'.toks acc' c' (fun b o hbS hbi e=>hm.heap b o (by simp [hbS,hbi]) (hk b o hbS e)) hS' hacc
 split
 ·refine wpAny_bind (wpAny_rule ?_)
  unfold Builtin.List.listTouch
  have e1:=Heap.get?_update_self (Obj.mapSeq (·.push Value.none)) hS rfl
  have e2:=Heap.get?_update_self (Obj.mapSeq (·.pop)) e1 rfl
  refine wpAny_bind (wpAny_bind (m:=Builtin.List.listUpdate (.ref S) (·.push Value.none)) (wpAny_updateSeq hS rfl ?_ (hz:=Nat.zero_le _) (_hz':=Nat.succ_le_succ (Nat.zero_le _))))
  refine wpAny_updateSeq e1 rfl ?_ (hz:=(by show 1≤sizeLine; decide)) (_hz':=Nat.zero_le _)
  refine wpAny_pure ⟨plainId_quiet F.plain_extend_loop _,loop _ _ (fun b o hb e=>?_) (by simpa [Obj.mapSeq] using e2) rfl rfl rfl⟩
  exact (Heap.get?_update_other _ _ (Ne.symm hb)).trans ((Heap.get?_update_other _ _ (Ne.symm hb)).trans e)
 ·exact wpAny_pure ⟨plainId_quiet F.plain_extend_loop _,loop _ c₀ (fun b o _ e=>e) hS rfl rfl rfl⟩
theorem Uz {it a:Addr}{items:Array Value}{Q:Value→Shared→Prop} (hh:A.handled=none) (hit:RvO s.heap it a ((items.size:Int) - 1)) (ht:IsTup s.heap a items) (hz:items.size≤sizeLine) (hai:a≠it)
  (hQ:∀ h' tk acc' c',(∀ b o,b≠it→s.heap.get? b=some o→h'.get? b=some o)→h'.get? s.heap.objs.size=some { cls:=.type "list",dict:=none,data:=.seq acc' c',slots:=#[] } →
   acc'.toList=items.toList.reverse→Q (.ref s.heap.objs.size) { s with heap:=h',toks:=tk }):wpAny (model prog w) A (call (.type "list") [.ref it]) Q E s:=by
 have lit:it<s.heap.objs.size:=let ⟨_,ho,_⟩:=hit; Heap.lt_size ho
 have la:a<s.heap.objs.size:=let ⟨_,ho,_⟩:=ht; Heap.lt_size ho
 refine callType_codes (Q₁:=fun obj s₁=>obj=.ref s.heap.objs.size∧s₁={ s with heap:=s.heap.push { cls:=.type "list",data:=.seq #[] } }) F.called_list (F.typeCall_list_1 _) F.entry_list_init (code_list_new _ ⟨rfl,rfl⟩) fun obj s1 h1=>?_
 obtain⟨e1,e2⟩:=h1
 subst e1 e2
 have hS:(s.heap.push { cls:=.type "list",data:=.seq #[] }).get? s.heap.objs.size=some { cls:=.type "list",data:=.seq #[] }:=Heap.get?_push_size _ rfl
 refine⟨⟨_,hS,rfl⟩,F.args_list_init_2 _ _,?_⟩
 show wpAny _ _ (Builtin.List.listItems (.ref s.heap.objs.size) >>= fun old=>Builtin.List.listUpdate (.ref s.heap.objs.size) (fun _=>#[]) >>= fun _=>letGo old.toList.reverse >>= fun _=>Builtin.List.listExtendWith (.ref s.heap.objs.size) (.ref it) .none) _ _ _
 refine wpAny_bind ?_
 unfold Builtin.List.listItems
 refine wpAny_bind (wpAny_seqItems hS rfl (wpAny_pure ?_))
 refine wpAny_bind (m:=Builtin.List.listUpdate (.ref s.heap.objs.size) (fun _=>#[])) (wpAny_updateSeq hS rfl ?_)
 have hS2:=Heap.get?_update_self (Obj.mapSeq (fun _=>(#[]:Array Value))) hS rfl
 have oth:∀ b o,b≠s.heap.objs.size→s.heap.get? b=some o→((s.heap.push { cls:=.type "list",data:=.seq #[] }).update s.heap.objs.size (Obj.mapSeq (fun _=>(#[]:Array Value)))).get? b=some o :=
  fun b o hb e=>(Heap.get?_update_other _ _ (Ne.symm hb)).trans (Heap.get?_push_of_some _ e)
 refine wpAny_bind (wpAny_letGo ?_)
 refine aaR (A:=A.in1) hh (hit.keep fun o e=>oth it o (Nat.ne_of_lt lit) e) (Df ht fun o e=>oth a o (Nat.ne_of_lt la) e) hz hai (Nat.ne_of_gt lit) (Nat.ne_of_gt la) hS2 fun h' tk acc' c' hk hS' hacc=>?_
 refine⟨rfl,hQ h' tk acc' c' (fun b o hb e=>hk b o (Nat.ne_of_lt (Heap.lt_size e)) hb (oth b o (Nat.ne_of_lt (Heap.lt_size e)) e)) hS' ?_⟩
 obtain⟨hsz,hat⟩:=hacc
 refine List.ext_getElem? fun i=>?_
 by_cases hi:i<items.size
 ·have h1:=hat i (acc'[i]'(by lia)) (Array.getElem?_eq_getElem (by lia))
  rw [List.getElem?_reverse (by rw [Array.length_toList]; exact hi),Array.length_toList,Array.getElem?_toList,Array.getElem?_toList,h1,Array.getElem?_eq_getElem (by lia)]
 ·rw [List.getElem?_eq_none (by rw [Array.length_toList]; lia),List.getElem?_eq_none (by rw [List.length_reverse,Array.length_toList]; lia)]
end
section
variable {prog:Program}{w:World}{A:Around}{E:Value→Shared→Prop}{s:Shared}
theorem Ug (a:Addr) (items:Array Value) (n:Nat) (dd:Option Addr) (sl:Array (Option Value)) (hz:items.size≤sizeLine) :
  Meets (Builtin.«reversed.__new__» ⟨[.type "reversed",.ref a],[]⟩) (fun _ R s=>s.heap.get? a=some { cls:=.type "tuple",dict:=dd,data:=.seq items n,slots:=sl } ∧
   ∀ tk,R (.ok (.ret (.ref s.heap.objs.size))) { s with heap:=s.heap.push { cls:=.type "reversed",data:=.fields #[.ref a,rawInt ((items.size:Int) - 1)] },toks:=tk }) :=
 .of_wp fun prog w A R s h=>by
  obtain⟨ht,h⟩:=h
  have hl:sizeLine=16777216:=sizeLine_eq
  have hT:s.TypeIs (.ref a) "tuple":=⟨_,ht,rfl⟩
  have hI:IsTup s.heap a items:=⟨_,ht,rfl,n,rfl⟩
  unfold Builtin.«reversed.__new__»
  refine wpAny_bind (wpAny_of_eq (newClass_reversed _) ?_)
  dsimp only
  refine wpAny_bind (wpAny_of_eq (a:=()) (by first | rfl | kernel_rfl) ?_); refine wpAny_bind (wpAny_of_eq (a:=()) (by first | rfl | kernel_rfl) ?_)
  refine wpAny_bind (wpAny_specialOf hT acu ?_)
  dsimp only
  refine wpAny_bind ?_
  refine wpAny_bind (wpAny_isInstance (b:=false) hT (by rw [isSubtype_type]; kernel_rfl) ?_)
  rw [if_neg (by decide)]
  refine wpAny_bind (wpAny_specialOf hT PyProof.Rows.slot_tuple_getitem.lookup ?_)
  dsimp only
  rw [if_pos (by decide)]
  refine wpAny_pure ?_
  rw [if_neg (by decide)]
  refine wpAny_bind (len_tuple hI (by lia) ?_)
  rw [T7,pure_bind]
  dsimp only
  show wpAny _ _ (newObj (.type "reversed") (.fields #[.ref a,rawInt ((items.size:Int) - 1)]) >>= _) _ _ _
  refine wpAny_bind (wpAny_newObj_type ?_)
  exact wpAny_pure ⟨_,rfl,h _⟩
theorem X3 {a:Addr}{items:Array Value}{Q:Value→Shared→Prop} (ht:IsTup s.heap a items) (hz:items.size≤sizeLine)
  (h:∀ tk,Q (.ref s.heap.objs.size) { s with heap:=s.heap.push { cls:=.type "reversed",data:=.fields #[.ref a,rawInt ((items.size:Int) - 1)] },toks:=tk }):wpAny (model prog w) A (call (.type "reversed") [.ref a]) Q E s:=by
 obtain⟨⟨c,d,dt,sl⟩,ho,hc,n,hd⟩:=id ht
 simp only at hc hd
 subst hc hd
 refine callType_new abL (by decide) (F.typeCall_reversed_1 _) (F.newCall_reversed_1 _) (fun obj=>F.args_object_init_2 obj _) F.entry_reversed_new (Ug a items n d sl hz) ⟨ho,fun tk=>?_⟩
 exact⟨⟨_,Heap.get?_push_size _ rfl,rfl⟩,h tk⟩
end
theorem Bl:bootBuiltins "reversed"=some (.type "reversed"):=by decide +kernel
theorem afx:bootBuiltins "list"=some (.type "list"):=by decide +kernel
def tLR (K:PySem.W.Frag) (te:TE):TE:=fun σ H Q=>te σ H fun x H1=>∃ a ys,x=.ref a∧SqT K H1 a ys∧∀ l,H1 l=none→Q (.ref l) (upd H1 l (.lst ys.reverse))
theorem aaV {X:Cx}{e:Expr}{te:TE}{p1 p2 pos pos2:Pos} (hgl:Gl X "list") (hgr:Gl X "reversed") (ml:X.mg "list"=none) (mr:X.mg "reversed"=none) (hc:X.calm=true) (he:PE X e te)
  (hs1:starEach [.Call (.Name "reversed" p2) [e] [] pos2] X.env=[(false,eval (.Call (.Name "reversed" p2) [e] [] pos2) X.env)]:=by rfl) (hs2:starEach [e] X.env=[(false,eval e X.env)]:=by rfl) :
  PE X (.Call (.Name "list" p1) [.Call (.Name "reversed" p2) [e] [] pos2] [] pos) (tLR X.K te):=by
 intro pins s σ H Q I h
 refine wpAny_Call_Name_kw (ld_blt I hgl ml afx ?_)
 refine PyProof.Rows.callWith_type1 ?_ (by rw [hs1]; rfl) (by rfl)
 rw [hs1]
 refine Calls.spliced_cons ?_
 refine wpAny_Call_Name_kw (ld_blt I hgr mr Bl ?_)
 refine PyProof.Rows.callWith_type1 ?_ (by rw [hs2]; rfl) (by rfl)
 rw [hs2]
 refine Calls.spliced_cons (thn (he pins s σ H _ I h) fun v s1 ⟨x,H1,I1,r1,q1⟩=>Calls.spliced_nil ?_)
 obtain⟨a,ys,e1,hq,q⟩:=q1
 subst e1
 cases r1
 obtain⟨its,rv,ht,hz⟩:=I1.tuple hq
 have hlen:=rv.length
 have hz':its.toArray.size≤sizeLine:=by rw [List.size_toArray]; lia
 refine X3 ht hz' fun tk=>Calls.spliced_nil ?_
 generalize Mz:({ s1 with heap:=s1.heap.push { cls:=.type "reversed",data:=.fields #[.ref a,rawInt ((its.toArray.size:Int) - 1)] },toks:=tk }:Shared)=s2
 have I2:Inv X pins σ H1 s2:=by rw [← Mz]; exact I1.kept fun b o e=>Heap.get?_push_of_some _ e
 have la:a<s1.heap.objs.size:=let ⟨_,ho,_⟩:=ht; Heap.lt_size ho
 have sz2:s2.heap.objs.size=s1.heap.objs.size+1:=by rw [← Mz]; exact Heap.size_push ..
 have hit:RvO s2.heap s1.heap.objs.size a ((its.toArray.size:Int) - 1):=by rw [← Mz]; exact⟨_,Heap.get?_push_size _ rfl,rfl,rfl⟩
 have ht2:IsTup s2.heap a its.toArray:=by rw [← Mz]; exact ht.push _
 have fp:FpOk X pins H1 s1.heap.objs.size:=I1.fpOk (Nat.le_refl _) (I1.hok.fresh (Nat.le_refl _))
 refine Uz (I2.ok.hd hc) hit ht2 hz' (Nat.ne_of_lt la) fun h' tk' acc' c' hk hS' hacc=>?_
 have hfree:H1 s2.heap.objs.size=none:=I2.hok.fresh (Nat.le_refl _)
 have hp0:H1 s1.heap.objs.size=none:=fp.1
 have oks:ObjOk X.prog X.w (upd H1 s2.heap.objs.size (.lst ys.reverse)) h' s2.heap.objs.size (.lst ys.reverse):=by
  refine⟨by rw [List.length_reverse]; exact hz,its.reverse,c',rv.reverse,?_⟩
  rw [hS',show acc'=its.reverse.toArray from Array.toList_inj.mp (by simpa using hacc)]
 have nS:∀ b o,s2.heap.get? b=some o→b≠s2.heap.objs.size:=fun b o e=>Nat.ne_of_lt (Heap.lt_size e)
 have np:∀ b u,H1 b=some u→b≠s1.heap.objs.size:=fun b u e=>ne_of_none e hp0
 have nh:∀ b u,H1 b=some u→upd H1 s2.heap.objs.size (.lst ys.reverse) b=some u:=fun b u e=>by rw [upd_ne (ne_of_none e hfree)]; exact e
 have hok:HOk X.prog X.w (upd H1 s2.heap.objs.size (.lst ys.reverse)) h':=fun b u e=>by
  by_cases hb:b=s2.heap.objs.size
  ·subst hb
   rw [upd_same] at e
   cases e
   exact oks
  ·rw [upd_ne hb] at e
   refine (I2.hok b u e).stay (fun c v hc' q'=>hk c v ?_ q') (fun x q'=>nh _ _ q') fun c v q'=>nh _ _ q'
   rcases hc' with z | z
   ·rw [z]; exact np b u e
   ·exact np c _ z
 have I3:Inv X pins σ (upd H1 s2.heap.objs.size (.lst ys.reverse)) { s2 with heap:=h',toks:=tk' }:=by
  refine I2.step (g':=s2.gens) (d':=s2.drawn) (t':=tk') (ch:=[s1.heap.objs.size]) (fun b hb=>?_) (fun b o _ _ hb e _=>hk b o (fun z=>hb (by simp [z])) e) (fun b o _ _ hb e _=>⟨o.slots,hk b o (fun z=>hb (by simp [z])) e⟩)
   (fun b o _ e n=>by rw [upd_ne (nS b o e)]; exact n) (fun b o hb e=>⟨o,hk b o (fun z=>hb (by simp [z])) e⟩) (fun b xs e=>nh _ _ e) (fun b o u e=>nh _ _ e) (fun b ps e=>⟨#[],by rw [nh _ _ e]; simp⟩) (fun m hm=>?_) hok I2.bare
  ·have e:b=s1.heap.objs.size:=by simpa using hb
   subst e
   exact⟨fp.2.2.2.1,fp.2.1,fp.2.2.2.2.1,fp.2.2.2.2.2⟩
  ·obtain⟨o,es,ep,ho,r⟩:=hm
   exact⟨o,es,ep,hk _ o (Ne.symm fp.2.1) ho,r⟩
 exact⟨.ref s2.heap.objs.size,_,I3,rfl,q _ hfree⟩
end SwR
namespace Sw
open PySem PySem.Spec PyProof.Rows L2
section
variable {X:Cx}
end
end Sw
namespace Sw
namespace T
end T
end Sw
namespace Sw
namespace T
end T
end Sw
namespace Sw
open PySem PySem.Spec PyProof.Rows L2
end Sw
namespace Sw
open PySem PySem.Spec PyProof.Rows L2
section
variable {P:Program}{w:World}{K:PySem.W.Frag}{mg:Str→Option Value}{base:Heap}{N:List Str}{qual:Str}{scope:Scope}{f:Addr}{cd:Value}{A:Around}{outer:List Env}{s₀:Shared}{H₀:Hp}{E:XK}
end
section
variable {X:Cx}{pins:List (Addr×Obj)}{σ:Sg}{H:Hp}{s:Shared}
end
end Sw
namespace Sw
open PySem PySem.Spec PyProof.Rows L2
end Sw
namespace Sw
open PySem PySem.Spec PyProof.Rows L2
section
variable {K:PySem.W.Frag}{C a:Addr}{prog:Program}{w:World}{A:Around}
end
end Sw
namespace Sw
open PySem PySem.Spec PyProof.Rows L2
structure QE (X:Cx) (e:Expr) (t:TE):Prop where
 run:PE X e t
structure QT (X:Cx) (e:Expr) (t:TT):Prop where
 run:PT X e t
structure QW (X:Cx) (e:Expr) (t:TT):Prop where
 run:PW X e t
structure QA (X:Cx) (es:List Expr) (t:TA):Prop where
 run:PA X es t
structure QS (X:Cx) (st:Stmt) (t:TS):Prop where
 run:PS X st t
structure QSs (X:Cx) (st:List Stmt) (t:TS):Prop where
 run:PSs X st t
structure QI (X:Cx) (tg iter:Expr) (wi:TI):Prop where
 run:PI X tg iter wi
structure QG (X:Cx) (tg:Expr) (t:TG):Prop where
 run:PG X tg t
structure QGs (X:Cx) (ts:List Expr) (t:TGs):Prop where
 run:PGs X ts t
structure QO (X:Cx) (o:Option Expr) (t:TO):Prop where
 run:PO X o t
theorem QW.pt {X:Cx}{e:Expr}{t:TT} (h:QW X e t):QT X e t:=⟨h.run.pt⟩
theorem qv {X:Cx} (i:Nat) {x:Str}{pos:Pos} (hN:X.N[i]?=some x:=by rfl) (hv:Vis X.env.scope x:=by first | exact Or.inl rfl | exact Or.inr (Or.inl rfl) | exact Or.inr (Or.inr rfl)) (hd:(x == ("__debug__":Str))=false:=by decide) (hcd:(x == ("__classdict__":Str))=false:=by decide):QE X (.Name x pos) (tVar i):=⟨L2.pv (i:=i) (hN:=hN) (hv:=hv) (hd:=hd) (hcd:=hcd)⟩
theorem aJ {X:Cx}{i j pos}:QE X (.Constant (.int i) j pos) (tC (.int i)):=⟨L2.pe_int⟩
theorem Jx {X:Cx}{b j pos}:QE X (.Constant (.bool b) j pos) (tC (.bl b)):=⟨L2.pe_bl⟩
theorem yp {X:Cx}{j pos}:QE X (.Constant .none j pos) (tC .non):=⟨L2.ahY⟩
theorem cW {X:Cx}{x j pos}:QE X (.Constant (.str x) j pos) (tC (.str x)):=⟨L2.ahW⟩
theorem Z6 {X:Cx}{x:Str}{v:V}{u:Value}{pos:Pos} (hg:Gl X x) (hm:X.mg x=none) (hv:bootBuiltins x=some u) (r:RelV v u) (hn:x≠"__name__":=by decide) (hd:(x == ("__debug__":Str))=false:=by decide):QE X (.Name x pos) (tC v):=⟨L2.agC (hg:=hg) (hm:=hm) (hv:=hv) (r:=r) (hn:=hn) (hd:=hd)⟩
theorem bB {X:Cx}{x:Str}{v:V}{u:Value}{pos:Pos} (hg:Gl X x) (hm:X.mg x=some u) (r:RelV v u) (hd:(x == ("__debug__":Str))=false:=by decide):QE X (.Name x pos) (tC v):=⟨L2.agB (hg:=hg) (hm:=hm) (r:=r) (hd:=hd)⟩
theorem aU {X:Cx}{a b:Expr}{ta tb:TE}{pos:Pos}{op:Operator}{r:R2} (ho:OpR X (binaryOp op) r) (ha:QE X a ta) (hb:QE X b tb):QE X (.BinOp a op b pos) (tOp r ta tb):=⟨L2.pe_op (ho:=ho) (ha:=ha.run) (hb:=hb.run)⟩
theorem zP {X:Cx}{a:Expr}{ta:TE}{pos:Pos}{op:UnaryOp}{r:V→Hp→VK→Prop} (ho:UnR X (unaryOp op) r) (ha:QE X a ta):QE X (.UnaryOp op a pos) (tUn r ta):=⟨L2.akd (ho:=ho) (ha:=ha.run)⟩
theorem Jw {X:Cx}{a b:Expr}{ta tb:TE}{pos:Pos}{op:CmpOp}{r:R2} (ho:OpR X (compareOp op) r) (ha:QE X a ta) (hb:QE X b tb) (hm:behindInMarks op b=false):QE X (.Compare a [op] [b] pos) (tOp r ta tb):=⟨L2.pe_cmpR (ho:=ho) (ha:=ha.run) (hb:=hb.run) (hm:=hm)⟩
theorem acT {X:Cx}{a b:Expr}{ta tb:TE}{pos:Pos}{rest:List Expr} (ha:QE X a ta) (hb:QE X (.BoolOp .And (b::rest) pos) tb):QE X (.BoolOp .And (a::b::rest) pos) (afP ta tb):=⟨L2.ah1 (ha:=ha.run) (hb:=hb.run)⟩
theorem acS {X:Cx}{a:Expr}{pos:Pos}{op}{t:TE} (h:QE X a t):QE X (.BoolOp op [a] pos) t:=⟨L2.ahX (h:=h.run)⟩
theorem qT {X:Cx}{es:List Expr}{t:TA}{pos:Pos} (h:QA X es t):QE X (.List es pos) (tLst t):=⟨L2.pe_lst (h:=h.run)⟩
theorem aY {X:Cx}{es:List Expr}{t:TA}{pos:Pos}{x1} (h:QA X es t):QE X (.Tuple es x1 pos) (ahp t):=⟨L2.ahV (h:=h.run)⟩
theorem rG {X:Cx}{a b:Expr}{ta tb:TE}{pos:Pos}{tA:TT}{c:Expr} (hc:QT X c tA) (ha:QE X a ta) (hb:QE X b tb):QE X (.IfExp c a b pos) (tIf tA ta tb):=⟨L2.aeV (hc:=hc.run) (ha:=ha.run) (hb:=hb.run)⟩
theorem uH {X:Cx}{e:Expr}{te:TE}{lo hi:Option Expr}{tl th:TO}{pos p2:Pos}{r:V→Option Int→Option Int→Hp→VK→Prop} (hr:SlR X r) (he:QE X e te) (hl:QO X lo tl) (hu:QO X hi th):QE X (.Subscript e (.Slice lo hi none p2) pos) (tSl r te tl th):=⟨L2.aeT (hr:=hr) (he:=he.run) (hl:=hl.run) (hu:=hu.run)⟩
theorem cY {X:Cx}{a b:Expr}{ta tb:TE}{pos:Pos}{r:R2} (hr:IxR X r) (ha:QE X a ta) (hb:QE X b tb) (hs:PlainIx b):QE X (.Subscript a b pos) (tOp r ta tb):=⟨L2.pe_ix (hr:=hr) (ha:=ha.run) (hb:=hb.run) (hs:=hs)⟩
theorem Du {X:Cx}{scope:Scope}{cl:List (Str×Addr)}{x:Str}{fr:List Str}{js:List Nat}{elt iter:Expr}{px pos:Pos}{wi:TI}{te:TE} (hc:X.calm=true) (L:zB X scope x fr js cl) (hi:QI X (.Name x px) iter wi) (he:∀ C s H fp pins,QE (blk X scope cl C (x::fr) s H fp pins) elt te) (hs:∀ v,foldedSetIterable iter X.env v=pure v:=by intro _; rfl):QE X (.ListComp elt [⟨.Name x px,iter,[],0⟩] scope pos) (tLC wi js te):=⟨Sw.ake (hc:=hc) (L:=L) (hi:=hi.run) (he:=fun C s H fp pins=>(he C s H fp pins).run) (hs:=hs)⟩
theorem aD {X:Cx}{CX:CXT}{k:Nat}{f:Addr}{fd:FuncData}{ps:List Str}{sp:Sp}{dvs:List V}{ds:List Value}{E:XK}{x:Str}{p pos:Pos}{e:Expr}{es:List Expr}{t:TA} (F:FnOk X.prog X.w X.K X.mg X.base CX k f fd ps sp) (hr:Room k X.A) (hg:Gl X x) (hm:X.mg x=some (.ref f)) (hk:PySem.W.keepIn X.K (.ref f)=true) (hb:Binds X.K fd ps ds) (hd:Vals dvs ds) (hx:Passes CX X E) (ha:QA X (e::es) t) (hdb:(x == ("__debug__":Str))=false:=by decide) (he:starEach (e::es) X.env=(false,eval e X.env)::starEach es X.env:=by rfl) (hpl:(backTo pos (starEach es X.env)).any (·.1)=false:=by rfl):QE X (.Call (.Name x p) (e::es) [] pos) (tCall sp dvs E t):=⟨L2.pe_call (F:=F) (hr:=hr) (hg:=hg) (hm:=hm) (hk:=hk) (hb:=hb) (hd:=hd) (hx:=hx) (ha:=ha.run) (hdb:=hdb) (he:=he) (hpl:=hpl)⟩
theorem fK {X:Cx}{CX:CXT}{k:Nat}{f:Addr}{fd:FuncData}{ps:List Str}{sp:Sp}{dvs:List V}{ds:List Value}{E:XK}{x:Str}{p pos:Pos} (F:FnOk X.prog X.w X.K X.mg X.base CX k f fd ps sp) (hr:Room k X.A) (hg:Gl X x) (hm:X.mg x=some (.ref f)) (hk:PySem.W.keepIn X.K (.ref f)=true) (hb:Binds X.K fd ps ds) (hd:Vals dvs ds) (hx:Passes CX X E) (hdb:(x == ("__debug__":Str))=false:=by decide):QE X (.Call (.Name x p) [] [] pos) (tCall sp dvs E tNil):=⟨L2.aeW (F:=F) (hr:=hr) (hg:=hg) (hm:=hm) (hk:=hk) (hb:=hb) (hd:=hd) (hx:=hx) (hdb:=hdb)⟩
theorem mX {X:Cx}{x:Str}{p pos:Pos}{e:Expr}{es:List Expr}{t:TA}{T:String}{r:List V→Hp→VK→Prop} (hc:CallR X (.type T) r) (hg:Gl X x) (hm:X.mg x=none) (hv:bootBuiltins x=some (.type T)) (ha:QA X (e::es) t) (hn:x≠"__name__":=by decide) (hdb:(x == ("__debug__":Str))=false:=by decide) (he:starEach (e::es) X.env=(false,eval e X.env)::starEach es X.env:=by rfl) (hpl:(backTo pos (starEach es X.env)).any (·.1)=false:=by rfl):QE X (.Call (.Name x p) (e::es) [] pos) (tCB r t):=⟨L2.acX (hc:=hc) (hg:=hg) (hm:=hm) (hv:=hv) (ha:=ha.run) (hn:=hn) (hdb:=hdb) (he:=he) (hpl:=hpl)⟩
theorem cR {X:Cx}{x:Str}{p pos:Pos}{e:Expr}{es:List Expr}{t:TA}{id:String}{r:List V→Hp→VK→Prop} (hc:CallR X (.builtin id) r) (hg:Gl X x) (hm:X.mg x=none) (hv:bootBuiltins x=some (.builtin id)) (ha:QA X (e::es) t) (hn:x≠"__name__":=by decide) (hdb:(x == ("__debug__":Str))=false:=by decide) (he:starEach (e::es) X.env=(false,eval e X.env)::starEach es X.env:=by rfl) (hpl:(backTo pos (starEach es X.env)).any (·.1)=false:=by rfl):QE X (.Call (.Name x p) (e::es) [] pos) (tCB r t):=⟨L2.pe_callB (hc:=hc) (hg:=hg) (hm:=hm) (hv:=hv) (ha:=ha.run) (hn:=hn) (hdb:=hdb) (he:=he) (hpl:=hpl)⟩
theorem gK {X:Cx}{o e:Expr}{es:List Expr}{to:TE}{t:TA}{name:Str}{apos cpos:Pos}{T id:String}{r:V→List V→Hp→VK→Prop} (pa:PlainAttrs T) (slot:Slot T name id) (hty:typeOf (.builtin id)=pure (.type "method_descriptor")) (hm:MtR X id r) (ho:QE X o to) (ha:QA X (e::es) t) (hbase:attributeBase o name X.env (eval o X.env)=eval o X.env:=by rfl) (hfew:((backTo cpos (starEach (e::es) X.env)).all (fun x=>!x.1) && (backToKw cpos (keywordEach [] X.env)).all (fun x=>x.1.isSome)
   && decide ((e::es).length+([]:List Keyword).length+(if ([]:List Keyword).isEmpty then 0 else 1)<30))=true:=by rfl) (hline:(apos.endLine == cpos.line)=true:=by rfl) (hs:starEach (e::es) X.env=(false,eval e X.env)::starEach es X.env:=by rfl) (hplain:(backTo cpos (starEach es X.env)).any (·.1)=false:=by rfl):QE X (.Call (.Attribute o name apos) (e::es) [] cpos) (tBM X.K T r to t):=⟨L2.akf (pa:=pa) (slot:=slot) (hty:=hty) (hm:=hm) (ho:=ho.run) (ha:=ha.run) (hbase:=hbase) (hfew:=hfew) (hline:=hline) (hs:=hs) (hplain:=hplain)⟩
theorem qU {X:Cx}{o:Expr}{to:TE}{name:Str}{apos cpos:Pos}{T id:String}{r:V→List V→Hp→VK→Prop} (pa:PlainAttrs T) (slot:Slot T name id) (hty:typeOf (.builtin id)=pure (.type "method_descriptor")) (hm:MtR X id r) (ho:QE X o to) (hbase:attributeBase o name X.env (eval o X.env)=eval o X.env:=by rfl) (hline:(apos.endLine == cpos.line)=true:=by rfl):QE X (.Call (.Attribute o name apos) [] [] cpos) (ahs X.K T r to):=⟨L2.ah0 (pa:=pa) (slot:=slot) (hty:=hty) (hm:=hm) (ho:=ho.run) (hbase:=hbase) (hline:=hline)⟩
theorem aaT {X:Cx}{e:Expr}{te:TE}{p1 p2 pos pos2:Pos} (hgl:Gl X "list") (hgr:Gl X "reversed") (ml:X.mg "list"=none) (mr:X.mg "reversed"=none) (hc:X.calm=true) (he:QE X e te) (hs1:starEach [.Call (.Name "reversed" p2) [e] [] pos2] X.env=[(false,eval (.Call (.Name "reversed" p2) [e] [] pos2) X.env)]:=by rfl) (hs2:starEach [e] X.env=[(false,eval e X.env)]:=by rfl):QE X (.Call (.Name "list" p1) [.Call (.Name "reversed" p2) [e] [] pos2] [] pos) (SwR.tLR X.K te):=⟨SwR.aaV (hgl:=hgl) (hgr:=hgr) (ml:=ml) (mr:=mr) (hc:=hc) (he:=he.run) (hs1:=hs1) (hs2:=hs2)⟩
theorem oG {X:Cx}{e:Expr}{t:TE} (h:QE X e t) (he:∀ whole,isTrue e X.env whole=(do let v ← whole; standAt e.pos; holding [v] (truthy v)):=by intro _; rfl):QT X e (tB t):=⟨L2.ahN (h:=h.run) (he:=he)⟩
theorem Ds {X:Cx}{a:Expr}{ta:TE} (ha:QE X a ta) (he:∀ whole,isTrue a X.env whole=(do let v ← whole; standAt a.pos; holding [v] (truthy v))):QT X a (fun σ H Q=>ta σ H fun x H'=>∃ k,Yh X.K x H' k∧Q k H'):=⟨L2.aeO (ha:=ha.run) (he:=he)⟩
theorem bK {X:Cx}{a b:Expr}{ta tb:TE}{pos:Pos}{op:CmpOp}{r:R2} (ho:OpR X (compareOp op) r) (ha:QE X a ta) (hb:QE X b tb) (hm:behindInMarks op b=false):QT X (.Compare a [op] [b] pos) (tTest (tOp r ta tb)):=⟨L2.pt_cmpR (ho:=ho) (ha:=ha.run) (hb:=hb.run) (hm:=hm)⟩
theorem V3 {X:Cx}{a:Expr}{pos:Pos}{tA:TT} (ha:QT X a tA):QT X (.UnaryOp .Not a pos) (ahq tA):=⟨L2.ahO (ha:=ha.run)⟩
theorem Oo {X:Cx}{a b:Expr}{pos:Pos}{tA tB':TT}{rest:List Expr} (ha:QT X a tA) (hb:QW X (.BoolOp .And (b::rest) pos) tB'):QW X (.BoolOp .And (a::b::rest) pos) (aaJ tA tB'):=⟨L2.ahM (ha:=ha.run) (hb:=hb.run)⟩
theorem Ju {X:Cx}{a:Expr}{pos:Pos}{tA:TT} (ha:QT X a tA):QW X (.BoolOp .And [a] pos) tA:=⟨L2.agr (ha:=ha.run)⟩
theorem akb {X:Cx}{a b:Expr}{pos:Pos}{tA tB':TT}{rest:List Expr} (ha:QT X a tA) (hb:QW X (.BoolOp .Or (b::rest) pos) tB'):QW X (.BoolOp .Or (a::b::rest) pos) (tOr tA tB'):=⟨L2.akc (ha:=ha.run) (hb:=hb.run)⟩
theorem ahF {X:Cx}{a:Expr}{pos:Pos}{tA:TT} (ha:QT X a tA):QW X (.BoolOp .Or [a] pos) tA:=⟨L2.ahL (ha:=ha.run)⟩
theorem ak {X:Cx}:QA X [] tNil:=⟨L2.pa_nil⟩
theorem aj {X:Cx}{e:Expr}{es:List Expr}{te:TE}{t:TA} (ha:QE X e te) (hr:QA X es t) (hs:starEach (e::es) X.env=(false,eval e X.env)::starEach es X.env:=by rfl):QA X (e::es) (tCons te t):=⟨L2.pa_cons (ha:=ha.run) (hr:=hr.run) (hs:=hs)⟩
theorem aQ {X:Cx}{e:Expr}{te:TE}{pos:Pos} (he:QE X e te):QS X (.Return (some e) pos) (tRet te):=⟨L2.ps_ret (he:=he.run)⟩
theorem Z2 {X:Cx}{pos:Pos}:QS X (.Return none pos) afK:=⟨L2.ags⟩
theorem bU {X:Cx}{pos:Pos}{i:Nat}{x:Str}{e:Expr}{te:TE}{pos':Pos} (hN:X.N.Nodup) (hi:X.N[i]?=some x) (hx:Loc X.env.scope x) (he:QE X e te) (hs:swapsWith e (some (.Name x pos')) pos.line X.env=pure false:=by rfl) (hf:X.fn x=true∨X.env.scope.names.lookup x=some .local:=by first | exact .inl rfl | exact .inr rfl | assumption):QS X (.Assign [.Name x pos'] e pos) (tAsg te (gName i)):=⟨L2.ps_set (hN:=hN) (hi:=hi) (hx:=hx) (he:=he.run) (hs:=hs) (hf:=hf)⟩
theorem acQ {X:Cx}{pos:Pos}{i:Nat}{x:Str}{e:Expr}{te:TE}{op:Operator}{ti:TIp}{pos':Pos} (hN:X.N.Nodup) (hi:X.N[i]?=some x) (hx:Loc X.env.scope x) (he:QE X e te) (ho:PIp X op ti) (hf:X.fn x=true∨X.env.scope.names.lookup x=some .local:=by first | exact .inl rfl | exact .inr rfl | assumption):QS X (.AugAssign (.Name x pos') op e pos) (aht i te ti):=⟨L2.ahP (hN:=hN) (hi:=hi) (hx:=hx) (he:=he.run) (ho:=ho) (hf:=hf)⟩
theorem cA {X:Cx}{t u:TS}{pos:Pos}{c:Expr}{a b:List Stmt}{tc:TT} (hc:QT X c tc) (ha:QSs X a t) (hb:QSs X b u):QS X (.If c a b pos) (tIfS tc t u):=⟨L2.ps_if (hc:=hc.run) (ha:=ha.run) (hb:=hb.run)⟩
theorem yj {X:Cx}{pos:Pos}{c:Expr}{body:List Stmt}{tc:TT}{tb:TS} (hp:PassesOwn (model X.prog X.w) X.A X.env X.xe) (hc:QT X c tc) (hb:QSs X body tb):QS X (.While c body [] pos) (vJ tc tb):=⟨L2.aeP (hp:=hp) (hc:=hc.run) (hb:=hb.run)⟩
theorem V4 {X:Cx}{tg:Expr}{iter:Expr}{body:List Stmt}{wi:TI}{g:TG}{tb:TS}{pos:Pos} (hp:PassesOwn (model X.prog X.w) X.A X.env X.xe) (hc:X.calm=true) (hi:QI X tg iter wi) (hg:QG X tg g) (hb:QSs X body tb) (hs:∀ x,foldedSetIterable iter X.env x=pure x:=by intro _; rfl):QS X (.For tg iter body [] pos) (tFor wi g tb):=⟨L2.ps_for (hp:=hp) (hc:=hc) (hi:=hi.run) (hg:=hg.run) (hb:=hb.run) (hs:=hs)⟩
theorem cX {X:Cx}{e:Expr}{te:TE}{pos:Pos} (he:QE X e te) (hs:swapsWith e none pos.line X.env=pure false:=by rfl):QS X (.Expr e pos) (tDrop te):=⟨L2.ps_expr (he:=he.run) (hs:=hs)⟩
theorem YM {X:Cx}{pos:Pos}:QS X (.Continue pos) afN:=⟨L2.YQ⟩
theorem agm {X:Cx}{pos:Pos}:QS X (.Pass pos) tNext:=⟨L2.agt⟩
theorem aeN {X:Cx}{st:Stmt}:QS X st acC:=⟨L2.aeR⟩
theorem ahG {X:Cx}{pos:Pos}{tg e:Expr}{te:TE}{g:TG} (he:QE X e te) (hg:QG X tg g) (hs:swapsWithSole [tg] e pos.line X.env=pure false:=by rfl) (hw:swappedStores [tg] e X.env=pure none:=by rfl) (h1:(assignEach [tg] X.env).map (·.2)=[assign tg X.env]:=by rfl):QS X (.Assign [tg] e pos) (tAsg te g):=⟨L2.ahQ (he:=he.run) (hg:=hg.run) (hs:=hs) (hw:=hw) (h1:=h1)⟩
theorem bV {X:Cx}:QSs X [] tNext:=⟨L2.pss_nil⟩
theorem aB {X:Cx}{st:Stmt}{rest:List Stmt}{t u:TS} (h1:QS X st t) (h2:QSs X rest u):QSs X (st::rest) (tSeq t u):=⟨L2.pss_cons (h1:=h1.run) (h2:=h2.run)⟩
theorem aF {X:Cx}{st:Stmt}{t:TS} (h1:QS X st t):QSs X [st] t:=⟨L2.pss_one (h1:=h1.run)⟩
theorem GQ {X:Cx}{tg:Expr}{a:Expr}{ta:TA}{p pos:Pos} (hg:Gl X "range") (hm:X.mg "range"=none) (ha:QA X [a] ta) (hs:starEach [a] X.env=[(false,eval a X.env)]:=by rfl):QI X tg (.Call (.Name "range" p) [a] [] pos) (afV ta):=⟨L2.acV (hg:=hg) (hm:=hm) (ha:=ha.run) (hs:=hs)⟩
theorem Z4 {X:Cx}{tg:Expr}{l:Expr}{tl:TE} (hl:QE X l tl):QI X tg l (iList X.K tl):=⟨L2.pi_list (hl:=hl.run)⟩
theorem V5 {X:Cx}{tg:Expr}{l:Expr}{tl:TE} (hl:QE X l tl):QI X tg l (aiB X.K tl):=⟨L2.ahT (hl:=hl.run)⟩
theorem Jv {X:Cx}{pos:Pos}{i:Nat}{x:Str} (hN:X.N.Nodup) (hi:X.N[i]?=some x) (hx:Loc X.env.scope x) (hf:X.fn x=true∨X.env.scope.names.lookup x=some .local:=by first | exact .inl rfl | exact .inr rfl | assumption):QG X (.Name x pos) (gName i):=⟨L2.pg_name (hN:=hN) (hi:=hi) (hx:=hx) (hf:=hf)⟩
theorem ahH {X:Cx}{pos:Pos}{es:List Expr}{k:Nat}{t:TGs}{n:Nat} (hc:X.calm=true) (h:QGs X es t) (hn:(assignEach es X.env).length=n:=by rfl) (hst:(assignEach es X.env).findIdx? (·.1)=none:=by rfl):QG X (.Tuple es k pos) (afk X.K n t):=⟨L2.acW (hc:=hc) (h:=h.run) (hn:=hn) (hst:=hst)⟩
theorem agp {X:Cx}:QGs X [] afl:=⟨L2.Z7⟩
theorem V6 {X:Cx}{e:Expr}{es:List Expr}{t:TG}{u:TGs} (h1:QG X e t) (h2:QGs X es u) (hs:(assignEach (e::es) X.env).map (·.2)=assign e X.env::(assignEach es X.env).map (·.2):=by rfl):QGs X (e::es) (U8 t u):=⟨L2.Lf (h1:=h1.run) (h2:=h2.run) (hs:=hs)⟩
theorem xr {X:Cx}:QO X none Qv:=⟨L2.agw⟩
theorem xq {X:Cx}{e:Expr}{te:TE} (h:QE X e te):QO X (some e) (afL te):=⟨L2.agv (h:=h.run)⟩
theorem okQ {P:Program}{w:World}{K:PySem.W.Frag}{mg:Str→Option Value}{base:Heap}{x qual:Str}{st:Stmt}{f:Addr}{fd:FuncData}{N ps:List Str}{k:Nat}{sp:Sp} (F:Fun K x qual st f fd) (S:FnScope N ps (defScope st)) (len:∀ vs H Q E,sp vs H Q E→vs.length=ps.length)
  (hb:∀ (cdv:Value) (A:Around) (outer:List Env) (s:Shared) (H:Hp) (vs:List V) (Q:VK) (E:XK),Room k (A.deeper (envOfC qual (defScope st) s.heap.objs.size f cdv))→sp vs H Q E →
   ∃ t,QSs (cxOf CX0 P w K mg base N qual (defScope st) f cdv A outer s H E).nox (defBody st) t∧t { nx:=fun _ H'=>Q .non H',rt:=Q } (start N vs) H):FnOk P w K mg base CX0 (k+1) f fd ps sp :=
 F.ok S len fun cdv A outer s H vs Q E hr h=>let ⟨t,q,r⟩:=hb cdv A outer s H vs Q E hr h; ⟨t,q.run,r⟩
end Sw
namespace Sw
open PySem PySem.Spec PyProof.Rows L2
theorem rm:bootBuiltins "len"=some (.builtin "len"):=by decide +kernel
theorem adM:bootBuiltins "sum"=some (.builtin "sum"):=by decide +kernel
theorem ajy:bootBuiltins "min"=some (.builtin "min"):=by decide +kernel
theorem gj:bootBuiltins "isinstance"=some (.builtin "isinstance"):=by decide +kernel
theorem ajz:bootBuiltins "int"=some (.type "int"):=by decide +kernel
theorem nP:bootBuiltins "tuple"=some (.type "tuple"):=by decide +kernel
theorem small {n:Nat} (h:n≤1000000):n≤sizeLine:=Nat.le_trans h (by decide)
theorem acH {n:Nat} (h:n≤1000000):n<sizeLine:=Nat.lt_of_le_of_lt h (by decide)
theorem agU {α:Type}{ys:List α} (h:ys≠[]):∃ y,ys[ys.length - 1]?=some y:=by
 have:ys.length - 1<ys.length:=by
  have:=List.length_pos_iff.mpr h
  lia
 exact⟨ys[ys.length - 1],List.getElem?_eq_getElem this⟩
theorem XQ (xs:List V) (k:Nat):qe xs (some (k:Int)) none=xs.drop k:=by
 unfold qe
 rw [HT.ZV,HT.V0]
 by_cases h:k≤xs.length
 ·rw [Nat.min_eq_left h,List.take_of_length_le (by rw [List.length_drop]; lia)]
 ·rw [Nat.min_eq_right (by lia),List.drop_eq_nil_of_le (by lia),List.drop_eq_nil_of_le (by lia),List.take_nil]
theorem adF (xs:List V) (k:Nat):qe xs none (some (k:Int))=xs.take k:=by
 unfold qe
 rw [HT.ZV,HT.V0,List.drop_zero,Nat.sub_zero]
 by_cases h:k≤xs.length
 ·rw [Nat.min_eq_left h]
 ·rw [Nat.min_eq_right (by lia),List.take_of_length_le (Nat.le_refl _),List.take_of_length_le (by lia)]
section
variable {K:PySem.W.Frag}
theorem aX.rev {α β:Type}{R:α→β→Prop}{as:List α}{bs:List β} (h:aX R as bs):aX R as.reverse bs.reverse:=by
 induction h with
 | nil=>exact .nil
 | cons r _ ih=>rw [List.reverse_cons,List.reverse_cons]; exact ih.append (aX.one r)
def JQ (K:PySem.W.Frag) (H₀ H:Hp) (ts:List T) (x:V):Prop:=∃ a xs,x=.ref a∧H₀ a=none∧H a=some (.lst xs)∧TRs K H ts xs
structure E_ (K:PySem.W.Frag) (H₀ H:Hp) (p:Addr) (st:List (List T)) (ys:List V):Prop where
 new:H₀ p=none
 same:Same H₀ H
 at_:H p=some (.lst ys)
 rows:aX (JQ K H₀ H) st.reverse ys
 nd:((.ref p:V)::ys).Nodup
theorem JQ.upd {H₀ H:Hp}{p:Addr}{o:HO}{ts:List T}{x:V} (h:JQ K H₀ H ts x) (hne:x≠.ref p) (k:Kt H (upd H p o)):JQ K H₀ (upd H p o) ts x:=by
 obtain⟨a,xs,rfl,h1,h2,h3⟩:=h
 exact⟨a,xs,rfl,h1,by rw [upd_ne (fun z=>hne (by rw [z]))]; exact h2,h3.mono k⟩
theorem yd {H₀ H:Hp}{p:Addr}{o:HO} (k:Kt H (upd H p o)):∀ {ss:List (List T)}{ys:List V},aX (JQ K H₀ H) ss ys→(.ref p:V) ∉ ys→aX (JQ K H₀ (upd H p o)) ss ys:=by
 intro ss ys h
 induction h with
 | nil=>intro _; exact .nil
 | cons r _ ih=>intro hn; exact .cons (r.upd (fun z=>hn (by rw [z]; exact List.mem_cons_self)) k) (ih fun z=>hn (List.mem_cons_of_mem _ z))
theorem acL {H₀ H:Hp}{p q:Addr}{st:List (List T)}{ys:List V} (R:E_ K H₀ H p st ys) (hq:H q=none):E_ K H₀ (upd (upd H q (.lst [])) p (.lst (ys++[.ref q]))) p ([]::st) (ys++[.ref q]):=by
 have npq:p≠q:=ne_of_none R.at_ hq
 have hq0:H₀ q=none:=R.same.free hq
 have nin:(.ref q:V) ∉ ys:=fun hm=>by
  obtain⟨i,hi⟩:=List.mem_iff_getElem?.mp hm
  obtain⟨ts,_,a,xs,e,_,h2,_⟩:=R.rows.get hi
  cases e
  rw [hq] at h2
  cases h2
 have nd:=List.nodup_cons.mp R.nd
 have k1:Kt H (upd H q (.lst [])):=Kt.new hq
 have h1:upd H q (.lst []) p=some (.lst ys):=by rw [upd_ne npq]; exact R.at_
 have k2:Kt (upd H q (.lst [])) (upd (upd H q (.lst [])) p (.lst (ys++[.ref q]))):=Kt.lst h1
 refine⟨R.new,dZ (dZ R.same hq0) R.new,upd_same,?_,?_⟩
 ·rw [List.reverse_cons]
  refine aX.append (yd k2 (yd k1 R.rows nin) nd.1) (aX.one ⟨q,[],rfl,hq0,?_,bO.mpr rfl⟩)
  rw [upd_ne (Ne.symm npq)]
  exact upd_same
 ·rw [← List.cons_append]
  refine List.nodup_append.mpr ⟨R.nd,by simp,fun x hx y hy e=>?_⟩
  have ey:y=.ref q:=by simpa using hy
  rw [ey] at e
  subst e
  rcases List.mem_cons.mp hx with z | z
  ·exact npq (V.ref.inj z).symm
  ·exact nin z
theorem aX.snoc {α β:Type}{R:α→β→Prop}{as:List α}{a:α}{bs:List β} (h:aX R (as++[a]) bs):∃ bs' b,bs=bs'++[b]∧aX R as bs'∧R a b:=by
 induction as generalizing bs with
 | nil =>
  cases h with
  | cons r h=>cases h; exact⟨[],_,rfl,.nil,r⟩
 | cons c as ih =>
  cases h with
  | cons r h =>
   obtain⟨bs',b,rfl,h1,h2⟩:=ih h
   exact⟨_::bs',b,rfl,.cons r h1,h2⟩
theorem Cw {ys:List V}{v:V}:atI (ys++[v]) (-1)=some v:=by
 unfold atI ixN
 have hl:(ys++[v]).length=ys.length+1:=by simp
 rw [if_neg (by decide),if_pos (by rw [hl]; lia),hl,show ((-1:Int)+((ys.length+1:Nat):Int)).toNat=ys.length by lia,Option.bind_some]
 simp
theorem ajR {t u:TT}{σ:Sg}{H H1 H2:Hp}{Q:Bool→Hp→Prop}{b1 b2:Bool} (h1:∀ R:Bool→Hp→Prop,R b1 H1→t σ H R) (h2:∀ R:Bool→Hp→Prop,R b2 H2→u σ H1 R) (q1:b1=true→Q b2 H2) (q2:b1=false→Q false H1):aaJ t u σ H Q:=by
 refine h1 _ ?_
 cases b1 with
 | true=>exact iteT (h2 _ (q1 rfl))
 | false=>exact iteF (q2 rfl)
theorem acB {t u:TT}{σ:Sg}{H:Hp}{Q:Bool→Hp→Prop}{b1 b2:Bool} (h1:∀ R:Bool→Hp→Prop,R b1 H→t σ H R) (h2:∀ R:Bool→Hp→Prop,R b2 H→u σ H R) (q:Q (b1 && b2) H):aaJ t u σ H Q :=
 ajR h1 h2 (fun e=>by subst e; exact q) (fun e=>by subst e; exact q)
end
end Sw
namespace Sw
open PySem PySem.Spec PyProof.Rows L2
section
variable {X:Cx}
def acP (K:PySem.W.Frag):R2:=fun x y H Q=>∃ a b xs ys,x=.ref a∧y=.ref b∧SqT K H a xs∧SqT K H b ys∧xs.length+ys.length≤sizeLine∧∀ p H',Same H H'→SqT K H' p (xs++ys)→Q (.ref p) H'
theorem aW:OpR X (binaryOp .Add) (acP X.K):=by
 intro pins s σ H x y v u Q I rx ry h
 obtain⟨a,b,xs,ys,rfl,rfl,ha,hb,hz,q⟩:=h
 by_cases hx:xs=[]
 ·subst hx
  cases rx
  cases ry
  obtain⟨its,r1,p1,_⟩:=I.tuple ha
  obtain⟨its2,r2,p2,_⟩:=I.tuple hb
  have e1:its=[]:=r1.Ci.mpr rfl
  subst e1
  obtain⟨⟨cls,dd,data,sl⟩,ho,hc,n,hd⟩:=id p1
  obtain⟨⟨cls2,dd2,data2,sl2⟩,ho2,hc2,n2,hd2⟩:=id p2
  simp only at hc hd hc2 hd2
  subst hc hd hc2 hd2
  exact concat_meets ⟨_,ho,rfl⟩ ⟨_,ho2,rfl⟩ noFill_tuple_add seq_tuple_add PySem.F.slot_tuple_add PySem.F.entry_tuple_add (PySem.F.args_tuple_add_2 _ _)
   (tuple_addW0 a b ([]:List Value).toArray its2.toArray n n2 dd dd2 sl sl2 rfl) ⟨ho,ho2,⟨.ref b,H,I,rfl,q b H (Same.refl H) hb⟩⟩
 ·refine agE pins s σ H _ _ v u Q I rx ry ⟨a,b,xs,ys,rfl,rfl,ha,hb,hx,hz,fun e=>?_,fun _ p hp=>q p _ (same_new hp _) (SqT.of upd_same)⟩
  subst e
  exact q a H (Same.refl H) (by rw [List.append_nil]; exact ha)
theorem LR:fillsNumberSlot (.type "tuple") "mul"=pure false:=by
 first | kernel_rfl | (unfold fillsNumberSlot; kernel_rfl)
theorem V2:seqRepeat? (.type "tuple")=pure (some (.builtin "tuple.__mul__")):=by
 unfold seqRepeat?
 first | kernel_rfl | (simp only [typeLookup_type,builtinLookup_eq_fast]; kernel_rfl) | rfl
theorem aaQ (a:Int) (t:Tok) (l:Addr) (items:Array Value) (n:Nat) (dd:Option Addr) (sl:Array (Option Value)) :
  Meets (Builtin.«int.__rmul__» ⟨[.int a t,.ref l],[]⟩) (fun _ R s=>s.heap.get? l=some { cls:=.type "tuple",dict:=dd,data:=.seq items n,slots:=sl }∧R (.ok (.ret Value.notImplemented)) s) :=
 .of_wp fun prog w A R s h=>by
  obtain⟨hp,g,d,tk,os⟩:=s
  obtain⟨hl,h⟩:=h
  wp_walk
  exact⟨_,rfl,h⟩
theorem acz (l:Addr) (items:Array Value) (n:Nat) (dd:Option Addr) (sl:Array (Option Value)) (k:Int) (t:Tok) (h0:(items.isEmpty || k == 1)=true) (h1:¬ (decide (k < -(2 ^ 63)) || decide (k ≥ 2 ^ 63))=true) :
  Meets (Builtin.«tuple.__mul__» ⟨[.ref l,.int k t],[]⟩) (fun _ R s=>s.heap.get? l=some { cls:=.type "tuple",dict:=dd,data:=.seq items n,slots:=sl }∧R (.ok (.ret (.ref l))) s) :=
 .of_wp fun prog w A R s h=>by
  obtain⟨hp,g,d,tk,os⟩:=s
  obtain⟨hl,h⟩:=h
  have f1:=AutoSeq1.idx_int
  have f2:=AutoSeq1.sub_tuple_tuple
  wp_walk using AutoSeq1.wpAny_loadPart' hl
  rw [if_neg h1]
  wp_walk using AutoSeq1.wpAny_loadPart' hl
  exact⟨_,rfl,h⟩
theorem acy (l:Addr) (items:Array Value) (n:Nat) (dd:Option Addr) (sl:Array (Option Value)) (k:Int) (t:Tok) (h0:¬ (items.isEmpty || k == 1)=true) (h1:¬ (decide (k < -(2 ^ 63)) || decide (k ≥ 2 ^ 63))=true) (h2:(decide (k≤0) || items.isEmpty)=true) :
  Meets (Builtin.«tuple.__mul__» ⟨[.ref l,.int k t],[]⟩) (fun _ R s=>s.heap.get? l=some { cls:=.type "tuple",dict:=dd,data:=.seq items n,slots:=sl }∧R (.ok (.ret (.ref s.heap.objs.size))) { s with heap:=s.heap.push { cls:=.type "tuple",data:=.seq #[] } }) :=
 .of_wp fun prog w A R s h=>by
  obtain⟨hp,g,d,tk,os⟩:=s
  obtain⟨hl,h⟩:=h
  have f1:=AutoSeq1.idx_int
  have f2:=AutoSeq1.sub_tuple_tuple
  wp_walk using AutoSeq1.wpAny_loadPart' hl
  rw [if_neg h1]
  wp_walk using AutoSeq1.wpAny_loadPart' hl
  exact⟨_,rfl,h⟩
theorem acA (l:Addr) (items:Array Value) (n:Nat) (dd:Option Addr) (sl:Array (Option Value)) (k:Int) (t:Tok) (h0:¬ (items.isEmpty || k == 1)=true) (h1:¬ (decide (k < -(2 ^ 63)) || decide (k ≥ 2 ^ 63))=true) (h2:¬ (decide (k≤0) || items.isEmpty)=true)
  (h3:¬ (items.size:Int) * k > (2 ^ 63 - 1) / 8) (h4:¬ Builtin.Tuple.tupleTooMany ((items.size:Int) * k)=true) (h5:((List.replicate k.toNat items).foldl (·++·) #[]).size≤sizeLine) :
  Meets (Builtin.«tuple.__mul__» ⟨[.ref l,.int k t],[]⟩) (fun _ R s=>s.heap.get? l=some { cls:=.type "tuple",dict:=dd,data:=.seq items n,slots:=sl }∧R (.ok (.ret (.ref s.heap.objs.size))) { s with heap:=s.heap.push { cls:=.type "tuple",data:=.seq ((List.replicate k.toNat items).foldl (·++·) #[]) } }) :=
 .of_wp fun prog w A R s h=>by
  obtain⟨hp,g,d,tk,os⟩:=s
  obtain⟨hl,h⟩:=h
  have f1:=AutoSeq1.idx_int
  have f2:=AutoSeq1.sub_tuple_tuple
  wp_walk using AutoSeq1.wpAny_loadPart' hl
  rw [if_neg h1]
  wp_walk using AutoSeq1.wpAny_loadPart' hl
  rw [if_neg h3]
  wp_walk using AutoSeq1.wpAny_loadPart' hl
  exact⟨_,rfl,h⟩
def sV (xs:List V) (k:Int):List V:=(List.replicate k.toNat xs).flatten
def GK (K:PySem.W.Frag):R2:=fun x y H Q=>∃ a k xs,x=.ref a∧y=.int k∧SqT K H a xs∧-(2 ^ 62)≤k∧k<2 ^ 62∧xs.length * k.toNat≤sizeLine∧∀ p H',Same H H'→SqT K H' p (sV xs k)→Q (.ref p) H'
theorem pR:OpR X (binaryOp .Mult) (GK X.K):=by
 intro pins s σ H x y v u Q I rx ry h
 obtain⟨a,k,xs,rfl,rfl,ha,h1,h2,hz,q⟩:=h
 cases rx
 obtain⟨t,rfl⟩:=ry
 obtain⟨its,r,p1,hzx⟩:=I.tuple ha
 have hlen:=r.length
 obtain⟨⟨cls,dd,data,sl⟩,ho,hc,n,hd⟩:=id p1
 simp only at hc hd
 subst hc hd
 have b1:¬ (decide (k < -(2 ^ 63)) || decide (k ≥ 2 ^ 63))=true:=by
  rw [decide_eq_false (by lia),decide_eq_false (by lia)]
  decide
 refine wpAny_binaryOp_repeat_ref (T:="tuple") (U:="int") (by decide) ⟨_,ho,rfl⟩ (fun s'=>typeIs_int s' k t) LR F.fills_int_mul F.slot_int_rmul V2 F.slot_int_index.lookup
  (call_meets F.slot_int_rmul (typeIs_int s k t) F.entry_int_rmul (F.args_int_rmul_2 _ _) (aaQ k t a its.toArray n dd sl) ⟨ho,rfl,⟨_,ho,rfl⟩,?_⟩)
 by_cases c0:(its.toArray.isEmpty || k == 1)=true
 ·refine call_meets F.slot_tuple_mul ⟨_,ho,rfl⟩ F.entry_tuple_mul (F.args_tuple_mul_2 _ _) (acz a its.toArray n dd sl k t c0 b1) ⟨ho,⟨.ref a,H,I,rfl,q a H (Same.refl H) ?_⟩⟩
  rcases Bool.or_eq_true_iff.mp c0 with z | z
  ·have:its=[]:=by simpa using z
   have hx:xs=[]:=r.Ci.mp this
   subst hx
   have:sV ([]:List V) k=[]:=by unfold sV; simp
   rw [this]
   exact ha
  ·have:k=1:=by simpa using z
   subst this
   have:sV xs 1=xs:=by unfold sV; simp
   rw [this]
   exact ha
 ·by_cases c2:(decide (k≤0) || its.toArray.isEmpty)=true
  ·refine call_meets F.slot_tuple_mul ⟨_,ho,rfl⟩ F.entry_tuple_mul (F.args_tuple_mul_2 _ _) (acy a its.toArray n dd sl k t c0 b1 c2) ⟨ho,?_⟩
   have hk:k≤0:=by
    rcases Bool.or_eq_true_iff.mp c2 with z | z
    ·exact of_decide_eq_true z
    ·rw [z] at c0
     exact absurd rfl c0
   have e0:sV xs k=[]:=by
    unfold sV
    rw [show k.toNat=0 by lia]
    rfl
   refine⟨.ref s.heap.objs.size,_,I.laid (t':=s.toks) (o:=.tup []) (fun b ob z=>Heap.get?_push_of_some _ z) (Nat.le_refl _) ?_,rfl,q _ _ (same_new (I.hok.fresh (Nat.le_refl _)) _) (by rw [e0]; exact SqT.of upd_same)⟩
   exact⟨Nat.zero_le _,[],.nil,IsTup.new _ _⟩
  ·have hk:0<k:=by
    by_cases hk:k≤0
    ·rw [decide_eq_true hk] at c2
     exact absurd rfl c2
    ·lia
   have hsz:its.toArray.size * k.toNat≤sizeLine:=by rw [List.size_toArray,← hlen]; exact hz
   have hsl:(sizeLine:Nat)=16777216:=sizeLine_eq
   have hpr:(its.toArray.size:Int) * k=((its.toArray.size * k.toNat:Nat):Int):=by
    rw [Int.natCast_mul,show ((k.toNat:Nat):Int)=k by lia]
   have hnew:(List.replicate k.toNat its.toArray).foldl (·++·) #[]=(List.replicate k.toNat its).flatten.toArray:=by
    have:=foldl_rep its k.toNat []
    rw [List.nil_append] at this
    exact this
   have hrl:(List.replicate k.toNat its).flatten.length≤sizeLine:=by
    rw [len_rep,Nat.mul_comm]
    simpa using hsz
   refine call_meets F.slot_tuple_mul ⟨_,ho,rfl⟩ F.entry_tuple_mul (F.args_tuple_mul_2 _ _) (acA a its.toArray n dd sl k t c0 b1 c2 ?_ ?_ ?_) ⟨ho,?_⟩
   ·rw [hpr]
    have:((2:Int) ^ 63 - 1) / 8=1152921504606846975:=by decide
    rw [this]
    lia
   ·unfold Builtin.Tuple.tupleTooMany
    rw [hpr,decide_eq_false (by lia)]
    decide
   ·rw [hnew,List.size_toArray]
    exact hrl
   ·rw [hnew]
    have rr:=r.rep k.toNat
    refine⟨.ref s.heap.objs.size,_,I.laid (t':=s.toks) (o:=.tup (sV xs k)) (fun b ob z=>Heap.get?_push_of_some _ z) (Nat.le_refl _) ?_,rfl,q _ _ (same_new (I.hok.fresh (Nat.le_refl _)) _) (SqT.of upd_same)⟩
    exact⟨by unfold sV; rw [rr.length]; exact hrl,_,rr,IsTup.new _ _⟩
end
theorem TY {H:Hp}{lo:Int}{n:Nat}{σ:Sg}{js:List Nat}{te:TE}{Q:VK} (J:Addr→Nat→List V→Hp→Prop) (hz:n≤sizeLine) (h0:∀ D,H D=none→J D 0 [] (upd H D (.lst [])))
  (hD:∀ D i ys H',J D i ys H'→H' D=some (.lst ys)∧ys.length=i)
  (hte:∀ D i ys H' (R:VK),i<n→J D i ys H'→(∀ y H3,H3 D=some (.lst ys)→J D (i+1) (ys++[y]) (upd H3 D (.lst (ys++[y])))→R y H3)→te (some (.int (lo+i))::frv σ js) H' R)
  (q:∀ D ys H',J D n ys H'→Q (.ref D) H'):zZ (Itr lo n) js te σ Q H:=by
 intro D hDn
 refine⟨fun i m ys H'=>m=n - i∧i≤n∧J D i ys H',⟨n,by lia,Nat.zero_le _,h0 D hDn⟩,?_⟩
 rintro i m ys H' ⟨rfl,hi,hj⟩
 obtain⟨h1,h2⟩:=hD D i ys H' hj
 refine⟨h1,?_⟩
 by_cases hlt:i<n
 ·refine .inr ⟨hlt,fun x H2 y=>?_⟩
  obtain⟨e,y⟩:=y
  subst e
  subst y
  exact hte D i ys _ _ hlt hj fun y H3 g1 g2=>⟨g1,by lia,n - (i+1),by lia,rfl,hlt,g2⟩
 ·have e:i=n:=by lia
  subst e
  exact .inl ⟨Nat.le_refl _,q D ys H' hj⟩
theorem RB {K:PySem.W.Frag}{H:Hp}{a:Addr}{xs:List V}{σ:Sg}{js:List Nat}{te:TE}{Q:VK} (J:Addr→Nat→List V→Hp→Prop) (hz:xs.length≤sizeLine) (h0:∀ D,H D=none→J D 0 [] (upd H D (.lst [])))
  (hD:∀ D i ys H',J D i ys H'→H' D=some (.lst ys)∧ys.length=i∧SqT K H' a xs)
  (hte:∀ D i x ys H' (R:VK),xs[i]?=some x→J D i ys H'→(∀ y H3,H3 D=some (.lst ys)→J D (i+1) (ys++[y]) (upd H3 D (.lst (ys++[y])))→R y H3)→te (some x::frv σ js) H' R)
  (q:∀ D ys H',J D xs.length ys H'→Q (.ref D) H'):zZ (Itt K a) js te σ Q H:=by
 intro D hDn
 refine⟨fun i m ys H'=>m=xs.length - i∧i≤xs.length∧J D i ys H',⟨xs.length,by lia,Nat.zero_le _,h0 D hDn⟩,?_⟩
 rintro i m ys H' ⟨rfl,hi,hj⟩
 obtain⟨h1,h2,h3⟩:=hD D i ys H' hj
 refine⟨h1,?_⟩
 by_cases hlt:i<xs.length
 ·refine .inr ⟨⟨xs,xs[i],h3,List.getElem?_eq_getElem hlt⟩,fun x H2 y=>?_⟩
  obtain⟨e,y⟩:=y
  subst e
  exact hte D i x ys _ _ (y xs h3) hj fun y H3 g1 g2=>⟨g1,by lia,xs.length - (i+1),by lia,rfl,hlt,g2⟩
 ·have e:i=xs.length:=by lia
  subst e
  exact .inl ⟨⟨xs,h3,Nat.le_refl _⟩,q D ys H' hj⟩
theorem ae_ {K:PySem.W.Frag}{H:Hp}{a:Addr}{xs:List V}{σ:Sg}{js:List Nat}{te:TE}{Q:VK} (J:Addr→Nat→List V→Hp→Prop) (hz:xs.length≤sizeLine) (h0:∀ D,H D=none→J D 0 [] (upd H D (.lst [])))
  (hD:∀ D i ys H',J D i ys H'→H' D=some (.lst ys)∧ys.length=i∧SqL K H' a xs)
  (hte:∀ D i x ys H' (R:VK),xs[i]?=some x→J D i ys H'→(∀ y H3,H3 D=some (.lst ys)→J D (i+1) (ys++[y]) (upd H3 D (.lst (ys++[y])))→R y H3)→te (some x::frv σ js) H' R)
  (q:∀ D ys H',J D xs.length ys H'→Q (.ref D) H'):zZ (Itl K a) js te σ Q H:=by
 intro D hDn
 refine⟨fun i m ys H'=>m=xs.length - i∧i≤xs.length∧J D i ys H',⟨xs.length,by lia,Nat.zero_le _,h0 D hDn⟩,?_⟩
 rintro i m ys H' ⟨rfl,hi,hj⟩
 obtain⟨h1,h2,h3⟩:=hD D i ys H' hj
 refine⟨h1,?_⟩
 by_cases hlt:i<xs.length
 ·refine .inr ⟨⟨xs,xs[i],h3,List.getElem?_eq_getElem hlt⟩,fun x H2 y=>?_⟩
  obtain⟨e,y⟩:=y
  subst e
  exact hte D i x ys _ _ (y xs h3) hj fun y H3 g1 g2=>⟨g1,by lia,xs.length - (i+1),by lia,rfl,hlt,g2⟩
 ·have e:i=xs.length:=by lia
  subst e
  exact .inl ⟨⟨xs,h3,Nat.le_refl _⟩,q D ys H' hj⟩
def zK (H:Hp) (p:Addr):Prop:=∃ ns:List Int,H p=some (.lst (ns.map V.int))
structure Dr (p:Addr) (H H':Hp):Prop where
 keep:∀ b o,b≠p→H b=some o→H' b=some o
 dJ:zK H' p
theorem Dr.refl {p:Addr}{H:Hp} (d:zK H p):Dr p H H:=⟨fun _ _ _ e=>e,d⟩
theorem Dr.trans {p:Addr}{H H1 H2:Hp} (a:Dr p H H1) (b:Dr p H1 H2):Dr p H H2:=⟨fun c o n e=>b.keep c o n (a.keep c o n e),b.dJ⟩
theorem Dr.same {p:Addr}{H H1 H2:Hp} (a:Dr p H H1) (S:Same H1 H2):Dr p H H2:=⟨fun c o n e=>S c o (a.keep c o n e),let ⟨ns,e⟩:=a.dJ; ⟨ns,S _ _ e⟩⟩
theorem Dr.kt {p:Addr}{H H':Hp} (d:zK H p) (a:Dr p H H'):Kt H H':=by
 obtain⟨ns,e⟩:=d
 exact⟨fun b xs q=>a.keep b _ (ne_of q e (fun z=>by cases z)) q,fun b o u q=>a.keep b _ (ne_of q e (fun z=>by cases z)) q⟩
theorem Dr.upd {p b:Addr}{H H':Hp}{o:HO} (a:Dr p H H') (h:H b=none) (hp:b≠p):Dr p H (upd H' b o) :=
 ⟨fun c u n e=>by rw [upd_ne (ne_of_none e h)]; exact a.keep c u n e,let ⟨ns,e⟩:=a.dJ; ⟨ns,by rw [upd_ne (Ne.symm hp)]; exact e⟩⟩
end Sw
namespace Sw
open PySem PySem.Spec PyProof.Rows L2
section
variable {X:Cx}{scope:Scope}{cl:List (Str×Addr)}{x:Str}{fr:List Str}{js:List Nat}{elt iter:Expr}{px pos:Pos}{wi:TI}{te:TE}{pins:List (Addr×Obj)}{s:Shared}{σ:Sg}{H:Hp}
theorem agT {Q:VK} (use:Option (Value→Sem Unit)) (QQ:Value→Shared→Prop) (hc:X.calm=true) (L:zB X scope x fr js cl) (hi:PI X (.Name x px) iter wi)
  (he:∀ C s H fp pins,PE (blk X scope cl C (x::fr) s H fp pins) elt te)
  (hs:∀ v,foldedSetIterable iter X.env v=pure v) (I:Inv X pins σ H s) (h:tLC wi js te σ H Q)
  (fin:∀ (D C:Addr) (s6:Shared) (H5:Hp) (m6:Str→Option Value),s6.heap.Ns C m6→H5 C=none→(∀ h',Heap.SameBut C s6.heap h'→Inv X pins σ H5 { s6 with heap:=h' })→X.env.locals≠C→X.s₀.heap.objs.size≤C →
   (∀ y c,X.env.cells.lookup y=some c→c≠C)→(∀ p∈X.pn++pins,p.1≠C)→Q (.ref D) H5→compPost (model X.prog X.w) X.A X.xe use QQ (.ref D) C (.ok .next) s6) :
  wpAny (model X.prog X.w) X.A (comprehension (.ListComp elt [⟨.Name x px,iter,[],0⟩] scope pos) scope X.env (firstIterPos [⟨.Name x px,iter,[],0⟩] pos) (newList []) false (eval iter X.env) use) QQ X.xe s:=by
 refine wpAny_comprehension_free rfl hs L.clos L.kind L.loc (thn (hi pins s σ H _ I h) fun v s1 h1=>thn h1 fun itv s2 h2=>?_)
 obtain⟨it,fp,tn,J,H2,e,I2,T,st2,f2,rd⟩:=h2
 subst e
 obtain⟨W,⟨m0,w0⟩,turn⟩:=rd _ I2.fresh
 have I3:=I2.lnew (ys:=[]) (its:=[]) (t':=s2.toks) .nil (Nat.zero_le _)
 refine wpAny_newObj_type ?_
 have Hv:∀ b∈fp,b<s2.heap.objs.size:=fun b hb=>by
  obtain⟨o,ho,_⟩:=T.obj 0 _ st2 b hb
  exact Heap.lt_size ho
 generalize hs3:({ s2 with heap:=s2.heap.push { cls:=.type "list",dict:=none,data:=.seq ([]:List Value).toArray } }:Shared)=s3
 have I3':Inv X pins σ (upd H2 s2.heap.objs.size (.lst [])) s3:=by rw [← hs3]; exact I3
 have sz3:s3.heap.objs.size=s2.heap.objs.size+1:=by rw [← hs3]; exact Heap.size_push ..
 have k23:∀ b o,s2.heap.get? b=some o→s3.heap.get? b=some o:=fun b o e=>by rw [← hs3]; exact Heap.get?_push_of_some _ e
 have fsz:∀ b∈fp,b<s3.heap.objs.size:=fun b hb=>by rw [sz3]; exact Nat.lt_succ_of_lt (Hv b hb)
 have f3:∀ b∈fp,FpOk X pins (upd H2 s2.heap.objs.size (.lst [])) b:=fun b hb=>⟨by rw [upd_ne (Nat.ne_of_lt (Hv b hb))]; exact (f2 b hb).1,(f2 b hb).2⟩
 refine wpAny_newFunctionEnv L.cell (by intro y hy; simp at hy) (fun h4 hn4 Xh=>?_) L.kind
 have k34:∀ b o,s3.heap.get? b=some o→h4.get? b=some o:=fun b o e=>(Xh.2 b (Nat.ne_of_lt (Heap.lt_size e))).trans (Heap.get?_push_of_some _ e)
 generalize hX':blk X scope cl s3.heap.objs.size (x::fr) s3 (upd H2 s2.heap.objs.size (.lst [])) fp pins=X'
 have I4:Inv X' [] (none::frv σ js) (upd H2 s2.heap.objs.size (.lst [])) { s3 with heap:=h4,toks:=s3.toks+([]:List (Str×Value)).length }:=by
  rw [← hX']; exact aao I3' L hc f3 fsz hn4 k34
 have st4:tn 0 h4:=T.keep _ _ _ st2 fun b _ o e=>k34 b o (k23 b o e)
 have he':PE X' elt te:=by rw [← hX']; exact he _ _ _ _ _
 have xp:X'.prog=X.prog:=by rw [← hX']; rfl
 have xw:X'.w=X.w:=by rw [← hX']; rfl
 have xK:X'.K=X.K:=by rw [← hX']; rfl
 have xA:X'.A=X.A:=by rw [← hX']; rfl
 have xc:X'.calm=true:=by rw [← hX']; rfl
 have xe:X'.xe=fun _ _=>False:=by rw [← hX']; rfl
 have xn:X'.N=x::fr:=by rw [← hX']; rfl
 have xv:X'.env=compEnvC scope cl s3.heap.objs.size X.env:=by rw [← hX']; rfl
 have xpn:X'.pn=X.pn++pins:=by rw [← hX']; rfl
 have xex:X'.ex=fp:=by rw [← hX']; rfl
 have xfs:X'.fs=frs X.stack:=by rw [← hX']; rfl
 have back:∀ {H':Hp}{s':Shared}{h':Heap}{σ':Sg},Inv X' [] σ' H' s'→Heap.SameBut s3.heap.objs.size s'.heap h'→Inv X pins σ H' { s' with heap:=h' }:=fun {H' s' h' σ'} J' hsb=>by
  rw [← hX'] at J'; exact Nt I3' J' f3 hsb
 have frame:∀ b∈fp,b ∉ frs X.stack:=fun b hb z=>by
  rcases List.mem_cons.mp (I3'.stkSub b z) with e | e
  ·exact (f3 b hb).2.1 e
  ·exact (f3 b hb).2.2.1 e
 have stat:∀ {H':Hp},(∀ b∈fp,H' b=none)→∀ b∈fp,FpOk X' [] H' b:=fun {H'} hn b hb=>by
  refine⟨hn b hb,?_,?_,.inl (by rw [xex]; exact hb),?_,?_⟩
  ·rw [xv]; exact Nat.ne_of_lt (fsz b hb)
  ·rw [xfs]; exact frame b hb
  ·rw [xv]; exact fun y c e=>(f3 b hb).2.2.2.2.1 y c (L.sub y c e)
  ·rw [xpn,List.append_nil]; exact (f3 b hb).2.2.2.2.2
 have loop:codeAny (model X.prog X.w) X.A (.compLoop (.ListComp elt [⟨.Name x px,iter,[],0⟩] scope pos) 0 (.ref it) (.ref s2.heap.objs.size) (compEnvC scope cl s3.heap.objs.size X.env))
   (compPost (model X.prog X.w) X.A X.xe use QQ (.ref s2.heap.objs.size) s3.heap.objs.size) { s3 with heap:=h4,toks:=s3.toks+([]:List (Str×Value)).length }:=by
  refine RD (fun n s'=>∃ i ys o H',Inv X' [] (o::frv σ js) H' s'∧tn i s'.heap∧(∀ b∈fp,H' b=none)∧W i n ys H') ?_ m0 ⟨0,[],none,_,I4,st4,fun b hb=>(f3 b hb).1,w0⟩
  rintro n s5 ⟨i,ys,o,H5,I5,st5,fr5,w5⟩
  obtain⟨hD,hstep⟩:=turn i n ys H5 w5
  rcases hstep with⟨stop,qn⟩ | ⟨go,step⟩
  ·have q:=T.done X' xp xw xK xc i [] s5 _ H5 (fun _ _=>False) I5 (stat fr5) st5 stop
   rw [xA] at q
   refine thn q fun r s6 ⟨hr,I6⟩=>?_
   subst hr
   obtain⟨m6,hn6,_⟩:=I6.loc
   rw [xv] at hn6
   have nC:H5 s3.heap.objs.size=none:=by
    have q:=I6.free
    rw [xv] at q
    exact q
   exact fin s2.heap.objs.size s3.heap.objs.size s6 H5 m6 hn6 nC (fun h' hsb=>back I6 hsb) (Nat.ne_of_lt I3'.lt) I3'.sz (fun y c e=>Nat.ne_of_lt (by
    obtain⟨v,hv⟩:=I3'.cell y c e
    obtain⟨o,ho,_⟩:=hv
    exact Heap.lt_size ho)) (fun p hp=>Nat.ne_of_lt (Heap.lt_size (I3'.pin p hp).1)) qn
  ·have q:=T.item X' xp xw xK xc i [] s5 _ H5 (fun _ _=>False) I5 (stat fr5) st5 go
   rw [xA] at q
   refine thn q fun r s6 ⟨u,hr,h6⟩=>?_
   subst hr
   refine thn h6 fun _ s7 ⟨xx,H7,I7,r7,y7,st7,fr7⟩=>?_
   have I7':=I7.pinned (stat fr7) (T.obj _ _ st7)
   have hg:PG X' (.Name x px) (gName 0):=by
    refine pg_name (i:=0) (x:=x) (by rw [xn]; exact L.nd) (by rw [xn]; rfl) ?_ ?_
    ·rw [xv]; exact .inl (lookup_relabel_local L.var)
    ·rw [xv]; exact .inr (lookup_relabel_local L.var)
   have q7:=hg _ s7 _ H7 xx u (fun σ8 H8=>σ8=some xx::frv σ js∧H8=H7) I7' r7 ⟨rfl,rfl⟩
   rw [xp,xw,xA,xe,xv] at q7
   refine thn q7 fun _ s8 ⟨σ8,H8,I8,e8,e8'⟩=>?_
   subst e8 e8'
   have q8:=he' _ s8 _ _ _ I8 (step xx _ y7)
   rw [xp,xw,xA,xe,xv] at q8
   refine thn q8 fun yv s9 ⟨y,H9,I9,r9,d9,z9,m9,hm9,w9⟩=>?_
   have q9:=cU (X:=X') _ s9 _ H9 (.ref s2.heap.objs.size) [y] (.ref s2.heap.objs.size) [yv] (fun z H'=>H'=upd H9 s2.heap.objs.size (.lst (ys++[y]))) I9 rfl (.cons r9 .nil) ⟨_,ys,y,rfl,rfl,d9,z9,rfl⟩
   rw [xp,xw,xA,xe] at q9
   refine thn q9 fun _ s10 ⟨_,H10,I10,_,e10⟩=>?_
   subst e10
   refine⟨m9,hm9,i+1,ys++[y],some xx,_,I10.unpinned,T.keep _ _ _ st7 fun b hb ob e=>(I10.pin (b,ob) (List.mem_append_right _ (List.mem_append_right _ (mem_pinsAt hb e)))).1,fun b hb=>?_,w9⟩
   obtain⟨ob,e,_⟩:=T.obj _ _ st7 b hb
   exact (I10.pin (b,ob) (List.mem_append_right _ (List.mem_append_right _ (mem_pinsAt hb e)))).2.1
 exact codeAny_compStart_list loop (T.self _ 0 _ _ _ st4 loop)
theorem aeQ {i:Nat}{y:Str}{py spos:Pos} (hN:X.N.Nodup) (hy:X.N[i]?=some y) (hx:Loc X.env.scope y) (hc:X.calm=true) (L:zB X scope x fr js cl) (hi:PI X (.Name x px) iter wi)
  (he:∀ C s H fp pins,PE (blk X scope cl C (x::fr) s H fp pins) elt te)
  (hs:∀ v,foldedSetIterable iter X.env v=pure v:=by intro _; rfl)
  (hsw:swapsWith (.ListComp elt [⟨.Name x px,iter,[],0⟩] scope pos) (some (.Name y py)) spos.line X.env=pure true:=by rfl)
  (hf:X.fn y=true∨X.env.scope.names.lookup y=some .local:=by first | exact .inl rfl | exact .inr rfl | assumption) :
  PS X (.Assign [.Name y py] (.ListComp elt [⟨.Name x px,iter,[],0⟩] scope pos) spos) (tAsg (tLC wi js te) (gName i)):=by
 intro pins s σ H D I h
 rw [exec_Assign_Name_used _ _ _ _ hsw]
 refine wpAny_bind (wpAny_standAt (wpAny_bind ?_))
 show wpAny _ X.A (do let _ ← comprehension (.ListComp elt [⟨.Name x px,iter,[],0⟩] scope pos) scope X.env (firstIterPos [⟨.Name x px,iter,[],0⟩] pos) (newList []) false (eval iter X.env) (some (assign (.Name y py) X.env))) _ _ s
 refine wpAny_bind (wpAny_mono (agT (some (assign (.Name y py) X.env)) (fun _ s'=>SP X pins D .next s') hc L hi he hs I h ?_) (fun _ s' hq=>wpAny_pure (wpAny_pure hq)) fun _ _ e=>e)
 intro Dd C s6 H5 m6 hn nC back hLC hsz hcell hpin q
 have J:Inv X pins σ H5 s6:=back s6.heap (Heap.SameBut.refl _ _)
 show wpAny _ X.A (assign (.Name y py) X.env (.ref Dd)) _ _ _
 refine wpAny_assign_Name (store_ok2 (v:=.ref Dd) J hN hy hx rfl (fun s7 I7 hsb=>?_) hf)
 obtain⟨a,hsb,ha⟩:=hsb
 have haC:C≠a:=by
  rcases ha with e | e
  ·rw [e]; exact Ne.symm hLC
  ·exact Ne.symm (hcell _ _ e)
 refine⟨m6,hn.sameBut hsb haC,fun h' hs'=>?_⟩
 have k:∀ b o,b≠C→s7.heap.get? b=some o→h'.get? b=some o:=fun b o n e=>hs'.extBut b o n e
 have J':=I7.turned (t':=s7.toks) k nC (Ne.symm hLC) (.inr hsz) hcell hpin
 exact⟨_,_,J',q⟩
end
theorem aeM {X:Cx}{scope:Scope}{cl:List (Str×Addr)}{x:Str}{fr:List Str}{js:List Nat}{elt iter:Expr}{px pos:Pos}{wi:TI}{te:TE}{i:Nat}{y:Str}{py spos:Pos} (hN:X.N.Nodup) (hy:X.N[i]?=some y) (hx:Loc X.env.scope y) (hc:X.calm=true) (L:zB X scope x fr js cl) (hi:QI X (.Name x px) iter wi)
  (he:∀ C s H fp pins,QE (blk X scope cl C (x::fr) s H fp pins) elt te)
  (hs:∀ v,foldedSetIterable iter X.env v=pure v:=by intro _; rfl)
  (hsw:swapsWith (.ListComp elt [⟨.Name x px,iter,[],0⟩] scope pos) (some (.Name y py)) spos.line X.env=pure true:=by rfl)
  (hf:X.fn y=true∨X.env.scope.names.lookup y=some .local:=by first | exact .inl rfl | exact .inr rfl | assumption) :
  QS X (.Assign [.Name y py] (.ListComp elt [⟨.Name x px,iter,[],0⟩] scope pos) spos) (tAsg (tLC wi js te) (gName i)) :=
 ⟨aeQ hN hy hx hc L hi.run (fun C s H fp pins=>(he C s H fp pins).run) hs hsw hf⟩
end Sw
namespace Sw
open PySem PySem.Spec PyProof.Rows L2
section
variable {K:PySem.W.Frag}{H:Hp}{Q:VK}
theorem cB {ts us:List T}{x y:V} (hx:TR K H (.node ts) x) (hy:TR K H (.node us) y) (hz:ts.length+us.length≤sizeLine) (q:∀ z H',Same H H'→TR K H' (.node (ts++us)) z→Q z H'):acP K x y H Q:=by
 obtain⟨a,xs,rfl,ha,ra⟩:=cN.mp hx
 obtain⟨b,ys,rfl,hb,rb⟩:=cN.mp hy
 refine⟨a,b,xs,ys,rfl,rfl,ha,hb,by rw [ra.length,rb.length]; exact hz,fun p H' S h=>q _ _ S (vC h ((ra.append rb).mono (.of S)))⟩
theorem TRs.at {ts:List T}{xs:List V} (h:TRs K H ts xs) {i:Nat}{t:T} (e:ts[i]?=some t):∃ x,xs[i]?=some x∧TR K H t x:=by
 have hl:=h.length
 have hi:i<ts.length:=(List.getElem?_eq_some_iff.mp e).1
 have e2:xs[i]?=some (xs[i]'(by lia)):=List.getElem?_eq_getElem _
 obtain⟨t',e3,h3⟩:=h.get e2
 rw [e] at e3
 cases e3
 exact⟨_,e2,h3⟩
theorem nIx {ts:List T}{x y:V}{t:T} (hx:TR K H (.node ts) x) (i:Nat) (e:ts[i]?=some t) (q:∀ z,TR K H t z→Q z H) (hy:y=.int ((i:Nat):Int):=by rfl):aeK K x y H Q:=by
 obtain⟨a,xs,rfl,ha,ra⟩:=cN.mp hx
 obtain⟨v,e2,h2⟩:=ra.at e
 exact⟨a,xs,_,v,rfl,hy,ha,atI_nat e2,q v h2⟩
theorem akj {ts:List T}{x:V} (hx:TR K H (.node ts) x) (k:Nat) {j:Option Int} (q:∀ z H',Same H H'→TR K H' (.node (ts.drop k)) z→Q z H') (hj:j=some ((k:Nat):Int):=by rfl):aaS K x j none H Q:=by
 obtain⟨a,xs,rfl,ha,ra⟩:=cN.mp hx
 subst hj
 refine⟨a,xs,rfl,ha,fun p H' S h=>q _ _ S (vC h ?_)⟩
 rw [XQ]
 exact (ra.drop k).mono (.of S)
theorem gD {t:T}{x:V} (h:TR K H t x):TRs K H [t] [x]:=cI.mpr ⟨x,[],rfl,h,bO.mpr rfl⟩
theorem xU {t u:T}{x y:V} (h:TR K H t x) (g:TR K H u y):TRs K H [t,u] [x,y]:=cI.mpr ⟨x,[y],rfl,h,gD g⟩
theorem aep {t u r:T}{x y z:V} (h:TR K H t x) (g:TR K H u y) (k:TR K H r z):TRs K H [t,u,r] [x,y,z]:=cI.mpr ⟨x,[y,z],rfl,h,xU g k⟩
end
section
variable {X:Cx}{K:PySem.W.Frag}
end
theorem agS {K:PySem.W.Frag}{p:Addr}{H1:Hp}{n:Nat}{lo:Int}{σ:Sg}{js:List Nat}{te:TE}{Q:VK} (Sh:T→Prop) (hk:zK H1 p) (hn:n≤sizeLine)
  (hte:∀ (i:Nat) H' (R:VK),i<n→Dr p H1 H'→(∀ y t H3,Dr p H' H3→TR K H3 t y→Sh t→R y H3)→te (some (.int (lo+i))::frv σ js) H' R)
  (q:∀ D ys ts H',Dr p H1 H'→H' D=some (.lst ys)→ts.length=n→TRs K H' ts ys→(∀ t∈ts,Sh t)→Q (.ref D) H'):zZ (Itr lo n) js te σ Q H1:=by
 refine TY (fun D i ys H'=>D≠p∧H1 D=none∧Dr p H1 H'∧H' D=some (.lst ys)∧ys.length=i∧∃ ts,TRs K H' ts ys∧∀ t∈ts,Sh t) hn (fun D hD=>?_) (fun D i ys H' j=>⟨j.2.2.2.1,j.2.2.2.2.1⟩) (fun D i ys H' R hi j hR=>?_) (fun D ys H' j=>?_)
 ·have hne:D≠p:=fun z=>by
   obtain⟨ns,e1⟩:=hk
   rw [z,e1] at hD; cases hD
  exact⟨hne,hD,(Dr.refl hk).upd hD hne,upd_same,rfl,[],bO.mpr rfl,fun _ h=>by simp at h⟩
 ·obtain⟨hne,hD,Dh,h1,hl,ts,htr,hsh⟩:=j
  refine hte i H' R hi Dh fun y t H3 D3 ht hs=>?_
  have h3:=D3.keep D _ hne h1
  refine hR y H3 h3 ⟨hne,hD,(Dh.trans D3).upd hD hne,upd_same,by rw [List.length_append,hl]; rfl,ts++[t],?_,fun u hu=>?_⟩
  ·exact TRs.append ((htr.mono (D3.kt Dh.dJ)).mono (Kt.lst h3)) (cI.mpr ⟨y,[],rfl,ht.mono (Kt.lst h3),bO.mpr rfl⟩)
  ·rcases List.mem_append.mp hu with z | z
   ·exact hsh u z
   ·rw [List.mem_singleton.mp z]; exact hs
 ·obtain⟨hne,hD,Dh,h1,hl,ts,htr,hsh⟩:=j
  exact q D ys ts H' Dh h1 (by rw [← htr.length]; exact hl) htr hsh
theorem ajA:bootBuiltins "all"=some (.builtin "all"):=by decide +kernel
section
variable {X:Cx}
theorem X4:∀ {bs:List Bool}{its:List Value},Vals (bs.map V.bl) its→its=bs.map Value.bool
 | [],_,h=>by cases h; rfl
 | b::bs,_,h=>by
  cases h with
  | cons r q =>
   rw [X4 q]
   exact congrArg (·::_) r
theorem range_all (bs:List Bool):(List.range bs.length).all (fun i=>bs.getD i true)=bs.all id:=by
 rw [Bool.eq_iff_iff,List.all_eq_true,List.all_eq_true]
 refine⟨fun h b hb=>?_,fun h i hi=>?_⟩
 ·obtain⟨i,hi,e⟩:=List.getElem_of_mem hb
  have:=h i (List.mem_range.mpr hi)
  rw [List.getD_eq_getElem?_getD,List.getElem?_eq_getElem hi,Option.getD_some,e] at this
  exact this
 ·have hi':=List.mem_range.mp hi
  rw [List.getD_eq_getElem?_getD,List.getElem?_eq_getElem hi',Option.getD_some]
  exact h _ (List.getElem_mem hi')
theorem afw (hc:X.calm=true):CallR X (.builtin "all") (fun xs H Q=>∃ (p:Addr) (bs:List Bool),xs=[.ref p]∧SqL X.K H p (bs.map V.bl)∧Q (.bl (bs.all id)) H):=by
 intro pins s σ H xs us Q I r h
 obtain⟨p,bs,rfl,hq,q⟩:=h
 obtain⟨u,rfl,rx⟩:=vals1 r
 cases rx
 obtain⟨its,r',pl,hz⟩:=I.list hq
 have hit:=X4 r'
 subst hit
 have hl:=pl.isList
 have hlt:p<s.heap.objs.size:=by obtain⟨_,e,_⟩:=hl; exact Heap.lt_size e
 refine call_all_walk (wpAny_pyIter_list hl ?_)
 refine⟨_,_,_,_,_,_,fun i=>bs.getD i true,rfl,Walks.list (A:=X.A.in1) (I.ok.hd hc) _ p (Nat.ne_of_lt hlt) (bs.map Value.bool).toArray,⟨⟨_,Heap.get?_push_size _ rfl,rfl,rfl⟩,hl.push _⟩,?_,fun h' tk hk=>?_⟩
 ·intro i v s Q E hv hQ
  rw [List.getElem?_toArray,List.getElem?_map] at hv
  cases hh:bs[i]? with
  | none=>rw [hh] at hv; cases hv
  | some b =>
   rw [hh] at hv
   cases hv
   have hQ':Q (bs.getD i true) s:=hQ
   rw [List.getD_eq_getElem?_getD,hh] at hQ'
   exact wpAny_truthy_bool hQ'
 ·have es:(List.range (bs.map Value.bool).toArray.size).all (fun i=>bs.getD i true)=bs.all id:=by
   rw [List.size_toArray,List.length_map]
   exact range_all bs
  rw [es]
  exact⟨.bl (bs.all id),H,I.kept (old_kept hk),rfl,q⟩
end
def B (a b:Nat) (t:T):Prop:=t.deep≤a∧t.parts≤b
theorem B.le {a b a' b':Nat}{t:T} (h:B a b t) (h1:a≤a') (h2:b≤b'):B a' b' t:=⟨Nat.le_trans h.1 h1,Nat.le_trans h.2 h2⟩
theorem Ae:B 0 1 (.node []):=⟨by rw [T.aP,T.bQ]; lia,by rw [T.aK,T.aR]; lia⟩
theorem cP {a b a' b':Nat}{t:T}{ts:List T} (h:B a b t) (g:B a' b' (.node ts)):B (max (a+1) a') (b+b') (.node (t::ts)):=by
 obtain⟨h1,h2⟩:=h
 obtain⟨g1,g2⟩:=g
 rw [T.aP] at g1
 rw [T.aK] at g2
 refine⟨?_,?_⟩
 ·rw [T.aP,T.aN]; lia
 ·rw [T.aK,T.aA]; lia
theorem rD {a b a' b':Nat}{us:List T} (g:B a' b' (.node us)):∀ {ts:List T},B a b (.node ts)→B (max a a') (b+b') (.node (ts++us))
 | [],_=>g.le (by lia) (by lia)
 | t::ts,h=>by
  obtain⟨h1,h2⟩:=h
  rw [T.aP,T.aN] at h1
  rw [T.aK,T.aA] at h2
  have q:=rD g (ts:=ts) (a:=a) (b:=b - t.parts) ⟨by rw [T.aP]; lia,by rw [T.aK]; lia⟩
  have q1:=q.1
  have q2:=q.2
  rw [T.aP] at q1
  rw [T.aK] at q2
  refine⟨?_,?_⟩
  ·rw [List.cons_append,T.aP,T.aN]; lia
  ·rw [List.cons_append,T.aK,T.aA]; lia
theorem jU {a b:Nat}{t:T} (h:B a b t):B (a+1) (b+1) (.node [t]):=(cP h Ae).le (by lia) (by lia)
theorem Vc {a b n:Nat}:∀ {ts:List T},(∀ t∈ts,B a b t)→ts.length≤n→B (a+1) (1+n * b) (.node ts)
 | [],_,_=>Ae.le (by lia) (by lia)
 | t::ts,h,hl=>by
  rw [List.length_cons] at hl
  obtain⟨m,rfl⟩:∃ m,n=m+1:=⟨n - 1,by lia⟩
  refine (cP (h t List.mem_cons_self) (Vc (n:=m) (fun u hu=>h u (List.mem_cons_of_mem _ hu)) (by lia))).le (by lia) ?_
  rw [Nat.succ_mul]; lia
theorem B.len {a b:Nat}{ts:List T} (h:B a b (.node ts)):ts.length<b:=by
 have h2:=h.2
 rw [T.aK] at h2
 have:∀ us:List T,us.length≤T.aq us:=fun us=>by
  induction us with
  | nil=>exact Nat.zero_le _
  | cons u us ih =>
   rw [List.length_cons,T.aA]
   have:1≤u.parts:=by cases u; rw [T.aK]; lia
   lia
 have:=this ts
 lia
theorem cF {K:PySem.W.Frag}{H:Hp}{p:Addr}{xs:List V}{ts:List T} (hp:H p=none) (h:TRs K H ts xs):Same H (upd H p (.tup xs))∧TR K (upd H p (.tup xs)) (.node ts) (.ref p) :=
 ⟨same_new hp _,vC (SqT.of upd_same) (h.mono (.new hp))⟩
def pbT:Nat→Nat
 | 0=>1
 | d+1=>1+3 * pbT d
theorem acZ {ts:List T}{n b:Nat} (hl:ts.length≤n) (h:∀ t∈ts,t.parts≤b):T.aq ts≤n * b :=
 Nat.le_trans (T.yq h) (Nat.mul_le_mul_right b hl)
theorem Cp {K:PySem.W.Frag}{H:Hp}{p:Addr} (h:H p=some (.tup [])):TR K H (.node []) (.ref p):=vC (xs:=[]) (SqT.of h) (bO.mpr rfl)
theorem agi (x:V) (n:Nat):sV [x] (n:Int)=List.replicate n x:=by
 unfold sV
 rw [Int.toNat_natCast]
 induction n with
 | zero=>rfl
 | succ n ih=>rw [List.replicate_succ,List.flatten_cons,ih,List.replicate_succ]; rfl
theorem Qn {K:PySem.W.Frag}{H:Hp}{t:T}{x:V} (h:TR K H t x):∀ n:Nat,TRs K H (List.replicate n t) (List.replicate n x)
 | 0=>bO.mpr rfl
 | n+1=>by
  rw [List.replicate_succ,List.replicate_succ]
  exact cI.mpr ⟨x,_,rfl,h,Qn h n⟩
theorem aai:∀ {ys:List V},(∀ (i:Nat) y,ys[i]?=some y→∃ n:Int,y=.int n∧0≤n∧n<2147483647)→∃ ns:List Int,ys=ns.map V.int∧∀ n∈ns,0≤n∧n<2147483647
 | [],_=>⟨[],rfl,fun _ h=>by simp at h⟩
 | y::ys,h=>by
  obtain⟨n,rfl,h1,h2⟩:=h 0 y rfl
  obtain⟨ns,e,g⟩:=aai (ys:=ys) fun i z e=>h (i+1) z (by simpa using e)
  refine⟨n::ns,by rw [e]; rfl,fun m hm=>?_⟩
  rcases List.mem_cons.mp hm with rfl | hm
  ·exact⟨h1,h2⟩
  ·exact g m hm
def acG (K:PySem.W.Frag):Sp:=fun vs H Q _=>∃ (a:Addr) (ns:List Int),vs=[.ref a]∧SqL K H a (ns.map V.int)∧ns.length≤63∧∀ p H',Same H H'→H p=none→zK H' p→Q (.ref p) H'
def Gm:Sp:=fun vs H Q _=>∃ (p:Addr) (m:Int),vs=[.ref p,.int m]∧0<m∧zK H p∧∀ i H',0≤i→i<m→Dr p H H'→Q (.int i) H'
def ShT:Nat→T→Prop:=fun d t=>t.deep≤d∧t.parts≤pbT d
def oV (n:Nat):T:=.node (List.replicate n (.node []))
def Dj (K:PySem.W.Frag):Sp:=fun vs H Q _=>∃ n:Nat,vs=[.int (n:Int)]∧n≤100000∧∀ y H',Same H H'→TR K H' (oV n) y→Q y H'
theorem su (n:Nat):B 1 (1+n) (oV n):=(Vc (n:=n) (fun t ht=>by rw [List.eq_of_mem_replicate ht]; exact Ae) (by rw [List.length_replicate]; exact Nat.le_refl _)).le (by lia) (by lia)
theorem ShT.b {d:Nat}{t:T} (h:ShT d t):B d (pbT d) t:=h
def pbW:Nat→Nat
 | 0=>60
 | d+1=>60+2 * (1+4 * pbW d)
theorem ah2:∀ d,60≤pbW d
 | 0=>Nat.le_refl _
 | d+1=>by rw [pbW]; lia
def ShW (d:Nat) (t:T):Prop:=B (3+2 * d) (pbW d) t
def ShX (d:Nat) (t:T):Prop:=B (4+2 * d) (1+4 * pbW d) t∧t.kids.length≤4
theorem ait {ns:List Nat}{k:Nat} (hk:k<ns.length):∃ c∈ns,atI (ns.map fun n:Nat=>V.int (n:Int)) (k:Int)=some (.int (c:Int)) :=
 ⟨ns[k],List.getElem_mem hk,atI_nat (by rw [List.getElem?_map,List.getElem?_eq_getElem hk]; rfl)⟩
theorem XD (p:Addr) (e:Nat):[V.ref p,V.int (((e+1:Nat):Int) - 1)]=[V.ref p,V.int (e:Int)]:=by
 rw [show ((e+1:Nat):Int) - 1=(e:Int) by lia]
def spLaw (K:PySem.W.Frag):Sp:=fun vs H Q _=>∃ (a:Addr) (ns:List Int),vs=[.ref a]∧SqL K H a (ns.map V.int)∧ns.length≤63∧∀ H',Q (.bl true) H'
def aH (t:T):Nat:=match t.kids with
 | []=>0
 | f::_=>min 9 f.kids.length
def bL (t:T):T:=.node (t.kids.drop 1)
theorem afo {α:Type} (x:α) (n:Nat):(List.replicate n [x]).flatten=List.replicate n x:=by
 induction n with
 | zero=>rfl
 | succ n ih=>rw [List.replicate_succ,List.flatten_cons,ih,List.replicate_succ]; rfl
def bC (n:Nat) (us:List T):T:=.node (oV n::us)
def Oe (K:PySem.W.Frag):Sp:=fun vs H Q _=>∃ x t,vs=[x]∧TR K H t x∧t.deep≤400∧t.parts≤1000000∧∀ y H',Same H H'→TR K H' (bC 0 t.kids) y→Q y H'
def acF (K:PySem.W.Frag):Sp:=fun vs H Q _=>∃ x t,vs=[x]∧TR K H t x∧t.deep≤400∧t.parts≤1000000∧∀ y H',Same H H'→TR K H' (bC 8 t.kids) y→Q y H'
def ZK (K:PySem.W.Frag):Sp:=fun vs H Q _=>∃ n:Nat,vs=[.int (n:Int)]∧1≤n∧n≤6∧∀ y H',Same H H'→TR K H' (bC n []) y→Q y H'
def Gn (K:PySem.W.Frag):Sp:=fun vs H Q _=>∃ x t y u,vs=[x,y]∧TR K H t x∧TR K H u y∧(t.deep≤400∧t.parts≤1000000)∧(u.deep≤400∧u.parts≤1000000)∧∀ z H',Same H H'→TR K H' (bC 7 (t::u.kids)) z→Q z H'
end Sw
namespace Sw
open PySem PySem.Spec PyProof.Rows L2
theorem aip {K:PySem.W.Frag}{H:Hp}{Q:VK}{σ:L2.St}{ts:List T}{x:V} (hx:TR K H (.node ts) x) (k:Nat) {j:Option Int} (q:∀ z H',Same H H'→TR K H' (.node (ts.drop k)) z→Q z H') (hj:j=some ((k:Nat):Int):=by rfl):Qv σ H (fun u H3=>aaS K x j u H3 Q):=akj hx k q hj
theorem WK {K:PySem.W.Frag}{H:Hp}{Q:VK}{σ:L2.St}{ts:List T}{x y:V}{t:T} (hx:TR K H (.node ts) x) (i:Nat) (e:ts[i]?=some t) (q:∀ z,TR K H t z→Q z H) (hy:y=.int ((i:Nat):Int):=by rfl):tC y σ H (fun y H2=>aeK K x y H2 Q):=nIx hx i e q hy
theorem aax {a b:Nat}{t:T} (h:B a b t):B a b (bL t):=by
 cases t with
 | node ts =>
  cases ts with
  | nil=>exact h
  | cons u us =>
   obtain⟨h1,h2⟩:=h
   rw [T.aP,T.aN] at h1
   rw [T.aK,T.aA] at h2
   exact⟨by show (T.node us).deep≤a; rw [T.aP]; lia,by show (T.node us).parts≤b; rw [T.aK]; lia⟩
def leaf:T:=.node []
def ats (s:List T) (k:Nat):T:=(s[k]?).getD leaf
def many (k:Nat):Nat:=([0,1,1,2,2,1,3,1,1,0]:List Nat).getD k 0
def pad (s:List T) (n:Nat):List T:=s++List.replicate (n - s.length) leaf
theorem dD {s:List T}{n:Nat} (h:n≤s.length):pad s n=s:=by
 unfold pad
 rw [show n - s.length=0 by lia,List.replicate_zero,List.append_nil]
theorem Z8 (s:List T) (n:Nat):n≤(pad s n).length:=by
 unfold pad
 rw [List.length_append,List.length_replicate]
 lia
def behind (w:T) (s:List T):List T :=
 if aH w=0 then bL w::s
 else if 6<aH w then pad s (many (aH w))
 else if aH w=1 then (pad s 1).drop 1
 else if aH w=2 then ats (pad s 1) 0::ats (pad s 1) 0::(pad s 1).drop 1
 else if aH w=3 then ats (pad s 2) 1::ats (pad s 2) 0::(pad s 2).drop 2
 else if aH w=4 then .node (ats (pad s 2) 0::(ats (pad s 2) 1).kids)::(pad s 2).drop 2
 else if aH w=5 then ats (ats (pad s 1) 0).kids 0::.node ((ats (pad s 1) 0).kids.drop 1)::(pad s 1).drop 1
 else ats (pad s 3) 2::ats (pad s 3) 0::ats (pad s 3) 1::(pad s 3).drop 3
def onward (tx s:List T):List T×List T×Nat :=
 match (ats tx 0).kids with
 | []=>(tx.drop 1,s,12)
 | w::ws =>
  if aH w=7 then
   if (ats s 0).kids≠[] then (ats (w.kids.drop 1) 0::.node ws::tx.drop 1,behind w s,7) else (.node (w.kids.drop 2)::.node ws::tx.drop 1,behind w s,8)
  else if aH w=8 then
   if (ats s 0).kids≠[] then (bL w::tx,behind w s,9) else (.node ws::tx.drop 1,behind w s,10)
  else if aH w=9 then (.node ws::tx.drop 1,behind w s,11)
  else (.node ws::tx.drop 1,behind w s,aH w)
theorem BR (w:T):aH w≤9:=by
 unfold aH
 split
 ·lia
 ·exact Nat.min_le_left _ _
def ZJ (K:PySem.W.Frag):Sp:=fun vs H Q _=>∃ x t,vs=[x]∧TR K H t x∧t.deep≤400∧∀ H',Same H H'→Q (.int (aH t:Nat)) H'
theorem aha {s:List T}{k:Nat} (h:k<s.length):s[k]?=some (ats s k):=by
 unfold ats
 rw [List.getElem?_eq_getElem h]
 rfl
theorem gH (t:T):T.node t.kids=t:=by cases t; rfl
section
variable {w:T}{s:List T}
theorem Nu (h:aH w=0):behind w s=bL w::s:=by unfold behind; rw [if_pos h]
theorem oZ (h:6<aH w):behind w s=pad s (many (aH w)):=by unfold behind; rw [if_neg (by lia),if_pos h]
theorem abT (h:aH w=1):behind w s=(pad s 1).drop 1:=by unfold behind; rw [h]; rfl
theorem abS (h:aH w=2):behind w s=ats (pad s 1) 0::ats (pad s 1) 0::(pad s 1).drop 1:=by unfold behind; rw [h]; rfl
theorem abR (h:aH w=3):behind w s=ats (pad s 2) 1::ats (pad s 2) 0::(pad s 2).drop 2:=by unfold behind; rw [h]; rfl
theorem abQ (h:aH w=4):behind w s=.node (ats (pad s 2) 0::(ats (pad s 2) 1).kids)::(pad s 2).drop 2:=by unfold behind; rw [h]; rfl
theorem abP (h:aH w=5):behind w s=ats (ats (pad s 1) 0).kids 0::.node ((ats (pad s 1) 0).kids.drop 1)::(pad s 1).drop 1:=by unfold behind; rw [h]; rfl
theorem abO (h:aH w=6):behind w s=ats (pad s 3) 2::ats (pad s 3) 0::ats (pad s 3) 1::(pad s 3).drop 3:=by unfold behind; rw [h]; rfl
end
theorem adW {s:List T}{k:Nat} (h:k<s.length):ats s k∈s:=List.mem_of_getElem? (aha h)
section
variable {X:Cx}
end
theorem B.pos {a b:Nat}{t:T} (h:B a b t):1≤b:=Nat.le_trans (T.jw t) h.2
theorem oM {a b:Nat} (k:Nat) {ts:List T} (h:B a b (.node ts)):B a b (.node (ts.drop k)):=by
 obtain⟨h1,h2⟩:=h
 have e:=List.take_append_drop k ts
 rw [← e,T.aP,T.h_] at h1
 rw [← e,T.aK,T.cL] at h2
 exact⟨by rw [T.aP]; lia,by rw [T.aK]; lia⟩
theorem af4 {a b:Nat}{ts:List T}{t:T} (h:B a b (.node ts)) (ht:t∈ts):B a b t:=by
 have h1:=h.1
 have h2:=h.2
 rw [T.aP] at h1
 rw [T.aK] at h2
 have:=T.lH ht
 have:=T.kZ ht
 exact⟨by lia,by lia⟩
theorem lU {a b:Nat}{ts:List T} (h:B a b (.node ts)) (k:Nat):B a b (ats ts k):=by
 by_cases hk:k<ts.length
 ·exact af4 h (adW hk)
 ·unfold ats
  rw [List.getElem?_eq_none (by lia)]
  exact Ae.le (by lia) h.pos
theorem CP {a b:Nat}{t:T} (h:B a b t):B a b (.node t.kids):=by rw [gH]; exact h
theorem Qf {a b:Nat}{s:List T} (n:Nat) (hn:n≤3) (ha:1≤a) (h:B a b (.node s)):B a (b+4) (.node (pad s n)) :=
 (rD (Vc (a:=0) (b:=1) (n:=3) (fun t ht=>by rw [List.eq_of_mem_replicate ht]; exact Ae) (by rw [List.length_replicate]; lia)) h).le (by lia) (by lia)
theorem afH {a b:Nat}{w:T}{s:List T} (ha:1≤a) (hw:B a b w) (hs:B a b (.node s)):B (a+2) (4 * b+16) (.node (behind w s)):=by
 have hb:=hw.pos
 unfold behind
 split
 ·exact (cP (aax hw) hs).le (by lia) (by lia)
 split
 ·refine (Qf _ ?_ ha hs).le (by lia) (by lia)
  have:∀ k,k≤9→many k≤3:=by decide
  exact this _ (BR w)
 have p1:=Qf 1 (by lia) ha hs
 have p2:=Qf 2 (by lia) ha hs
 have p3:=Qf 3 (by lia) ha hs
 split
 ·exact (oM 1 p1).le (by lia) (by lia)
 split
 ·exact (cP (lU p1 0) (cP (lU p1 0) (oM 1 p1))).le (by lia) (by lia)
 split
 ·exact (cP (lU p2 1) (cP (lU p2 0) (oM 2 p2))).le (by lia) (by lia)
 split
 ·exact (cP (cP (lU p2 0) (CP (lU p2 1))) (oM 2 p2)).le (by lia) (by lia)
 split
 ·exact (cP (lU (CP (lU p1 0)) 0) (cP (oM 1 (CP (lU p1 0))) (oM 1 p1))).le (by lia) (by lia)
 ·exact (cP (lU p3 2) (cP (lU p3 0) (cP (lU p3 1) (oM 3 p3)))).le (by lia) (by lia)
theorem afG {a b:Nat}{tx s:List T} (ha:1≤a) (ht:B a b (.node tx)) (hs:B a b (.node s)):B (a+2) (4 * b+16) (.node (onward tx s).1)∧B (a+2) (4 * b+16) (.node (onward tx s).2.1):=by
 have hb:=ht.pos
 have t0:=CP (lU ht 0)
 unfold onward
 split
 ·exact⟨(oM 1 ht).le (by lia) (by lia),hs.le (by lia) (by lia)⟩
 ·rename_i w ws e
  rw [e] at t0
  have hw:B a b w:=af4 t0 List.mem_cons_self
  have hws:B a b (.node ws):=oM 1 t0
  have hbe:=afH ha hw hs
  have hd:=oM 1 ht
  have hl:=oM 1 (CP hw)
  split
  ·split
   ·exact⟨(cP (lU hl 0) (cP hws hd)).le (by lia) (by lia),hbe⟩
   ·exact⟨(cP (oM 2 (CP hw)) (cP hws hd)).le (by lia) (by lia),hbe⟩
  split
  ·split
   ·exact⟨(cP (aax hw) ht).le (by lia) (by lia),hbe⟩
   ·exact⟨(cP hws hd).le (by lia) (by lia),hbe⟩
  split
  ·exact⟨(cP hws hd).le (by lia) (by lia),hbe⟩
  ·exact⟨(cP hws hd).le (by lia) (by lia),hbe⟩
theorem ali {te:TE}{i:Nat}{u:TS}{D:Ends}{σ:L2.St}{H:Hp} (P:V→Hp→Prop) (h:∀ R:VK,(∀ v H',P v H'→R v H')→te σ H R) (k:∀ v H',P v H'→u D (σ.set i (some v)) H'):tSeq (tAsg te (gName i)) u D σ H:=h _ k
theorem jl {te:TE}{i:Nat}{u:TS}{D:Ends}{σ:L2.St}{H:Hp} (σ':V→L2.St) (hσ:∀ v,σ.set i (some v)=σ' v) (P:V→Hp→Prop) (h:∀ R:VK,(∀ v H',P v H'→R v H')→te σ H R) (k:∀ v H',P v H'→u D (σ' v) H'):tSeq (tAsg te (gName i)) u D σ H :=
 ali P h fun v H' p=>by rw [hσ]; exact k v H' p
end Sw
namespace Sw
open PySem PySem.Spec PyProof.Rows L2
def jV (o:Obj) (xs:List V):Prop:=∃ (its:Array Value) (n:Nat),o.cls=.type "tuple"∧o.data=.seq its n∧its.size≤sizeLine∧Vals xs its.toList
theorem jV.sq {K:PySem.W.Frag}{o:Obj}{xs:List V}{a:Addr}{H:Hp} (h:jV o xs) (l:K.lookup a=some o):SqT K H a xs:=by
 obtain⟨its,n,h1,h2,h3,h4⟩:=h
 exact .inr ⟨o,its,n,l,h1,h2,h3,h4⟩
def Jr (K:PySem.W.Frag):Sp:=fun vs H Q _=>∃ x t,vs=[x]∧TR K H t x∧t.deep≤400∧∀ y H',Same H H'→TR K H' (ats t.kids 0) y→Q y H'
def Gk (K:PySem.W.Frag):Sp:=fun vs H Q _=>∃ x t,vs=[x]∧TR K H t x∧∀ y H',Same H H'→TR K H' (bL t) y→Q y H'
theorem VD (t:T):aH t=min 9 (ats t.kids 0).kids.length:=by
 cases t with
 | node ts=>cases ts <;> rfl
theorem xM {K:PySem.W.Frag}{H:Hp}{t:T}{x:V} (h:TR K H t x):TR K H (.node t.kids) x:=by rw [gH]; exact h
theorem BW {n:Nat} (h:n≤16000000):n≤sizeLine:=Nat.le_trans h (by decide)
theorem ajQ:(2:Int) ^ 62=4611686018427387904:=by decide
theorem aio {K:PySem.W.Frag}{H:Hp}{Q:VK}{x y:V}{k:Int} (n:Nat) (hx:TR K H (.node [.node []]) x) (hy:y=.int k) (hk:k.toNat=n) (h0:-16000000≤k) (hn:n≤16000000) (q:∀ z H',Same H H'→TR K H' (oV n) z→Q z H'):GK K x y H Q:=by
 obtain⟨a,xs,rfl,ha,ra⟩:=cN.mp hx
 obtain⟨v,r,rfl,hv,hr⟩:=cI.mp ra
 rw [bO] at hr
 subst hr
 subst hk
 have h2:=ajQ
 refine⟨a,k,[v],rfl,hy,ha,by lia,by lia,by show 1 * k.toNat≤sizeLine; exact BW (by lia),fun p H' S h=>q _ _ S ?_⟩
 have e:sV [v] k=List.replicate k.toNat v:=by
  unfold sV
  exact afo v _
 rw [e] at h
 exact vC h (Qn (hv.mono (.of S)) _)
theorem afU {K:PySem.W.Frag}{H:Hp}{Q:VK}{σ:L2.St}{x y:V}{k:Int} (n:Nat) (hx:TR K H (.node [.node []]) x) (hy:y=.int k) (hk:k.toNat=n) (h0:-16000000≤k) (hn:n≤16000000) (q:∀ z H',Same H H'→TR K H' (oV n) z→Q z H'):tC y σ H (fun y H2=>GK K x y H2 Q):=aio n hx hy hk h0 hn q
def looks (k:Nat):Nat:=([0,1,1,2,2,1,3,1,1,1,1,0,0]:List Nat).getD k 0
def CV (k:Nat) (l:T) (s:List T):List T :=
 if k=0 then l::s
 else if k=1 then s.drop 1
 else if k=2 then ats s 0::s
 else if k=3 then ats s 1::ats s 0::s.drop 2
 else if k=4 then .node (ats s 0::(ats s 1).kids)::s.drop 2
 else if k=5 then ats (ats s 0).kids 0::bL (ats s 0)::s.drop 1
 else if k=6 then ats s 2::ats s 0::ats s 1::s.drop 3
 else s
theorem adH {s:List T} (h:1≤s.length):ats s 0::s.drop 1=s:=by
 cases s with
 | nil=>simp at h
 | cons t r=>rfl
theorem Yy {w:T}{s:List T} (h:aH w≤6):behind w s=CV (aH w) (bL w) (pad s (looks (aH w))):=by
 have hl:aH w=0∨aH w=1∨aH w=2∨aH w=3∨aH w=4∨aH w=5∨aH w=6:=by lia
 rcases hl with e | e | e | e | e | e | e
 ·rw [Nu e,e]; show _=bL w::pad s 0; rw [dD (Nat.zero_le _)]
 ·rw [abT e,e]; rfl
 ·rw [abS e,e]
  show _=ats (pad s 1) 0::pad s 1
  rw [adH (Z8 s 1)]
 ·rw [abR e,e]; rfl
 ·rw [abQ e,e]; rfl
 ·rw [abP e,e]; rfl
 ·rw [abO e,e]; rfl
def stepT (tx s:List T):Nat:=(onward tx s).2.2
theorem Vi {tx s:List T} (h:(ats tx 0).kids=[]):stepT tx s=12:=by
 unfold stepT onward
 rw [h]
section
variable {tx s:List T}{w:T}{ws:List T}
theorem ac4 (h:(ats tx 0).kids=[]):onward tx s=(tx.drop 1,s,12):=by
 unfold onward
 rw [h]
theorem Wg (h:(ats tx 0).kids=w::ws) (e:aH w=7) (d:(ats s 0).kids≠[]):onward tx s=(ats (w.kids.drop 1) 0::.node ws::tx.drop 1,pad s 1,7):=by
 unfold onward
 rw [h]
 show (if aH w=7 then _ else _)=_
 rw [if_pos e,if_pos d,oZ (by lia),e]
 rfl
theorem aaY (h:(ats tx 0).kids=w::ws) (e:aH w=7) (d:(ats s 0).kids=[]):onward tx s=(.node (w.kids.drop 2)::.node ws::tx.drop 1,pad s 1,8):=by
 unfold onward
 rw [h]
 show (if aH w=7 then _ else _)=_
 rw [if_pos e,if_neg (by simp [d]),oZ (by lia),e]
 rfl
theorem Ri (h:(ats tx 0).kids=w::ws) (e:aH w=8) (d:(ats s 0).kids≠[]):onward tx s=(bL w::tx,pad s 1,9):=by
 unfold onward
 rw [h]
 show (if aH w=7 then _ else _)=_
 rw [if_neg (by lia),if_pos e,if_pos d,oZ (by lia),e]
 rfl
theorem Rg (h:(ats tx 0).kids=w::ws) (e:aH w=8) (d:(ats s 0).kids=[]):onward tx s=(.node ws::tx.drop 1,pad s 1,10):=by
 unfold onward
 rw [h]
 show (if aH w=7 then _ else _)=_
 rw [if_neg (by lia),if_pos e,if_neg (by simp [d]),oZ (by lia),e]
 rfl
theorem Rh (h:(ats tx 0).kids=w::ws) (e:aH w=9):onward tx s=(.node ws::tx.drop 1,pad s 0,11):=by
 unfold onward
 rw [h]
 show (if aH w=7 then _ else _)=_
 rw [if_neg (by lia),if_neg (by lia),if_pos e,oZ (by lia),e]
 rfl
theorem Rf (h:(ats tx 0).kids=w::ws) (e:aH w≤6):onward tx s=(.node ws::tx.drop 1,CV (aH w) (bL w) (pad s (looks (aH w))),aH w):=by
 unfold onward
 rw [h]
 show (if aH w=7 then _ else _)=_
 rw [if_neg (by lia),if_neg (by lia),if_neg (by lia),Yy e]
end
theorem Qk {k:Nat}{l:T}{s:List T} (h:7≤k):CV k l s=s:=by
 unfold CV
 rw [if_neg (by lia),if_neg (by lia),if_neg (by lia),if_neg (by lia),if_neg (by lia),if_neg (by lia),if_neg (by lia)]
theorem ae8 (k:Nat):looks k≤3:=by
 by_cases h:k<13
 ·have:∀ k,k<13→looks k≤3:=by decide
  exact this k h
 ·unfold looks
  rw [List.getD_eq_getElem?_getD,List.getElem?_eq_none (by show 13≤k; lia)]
  decide
section
variable {tx s:List T}
theorem ah6:((ats tx 0).kids=[]∧onward tx s=(tx.drop 1,s,12))∨∃ w ws,(ats tx 0).kids=w::ws ∧
  (onward tx s=(ats (w.kids.drop 1) 0::.node ws::tx.drop 1,pad s 1,7)∨onward tx s=(.node (w.kids.drop 2)::.node ws::tx.drop 1,pad s 1,8)∨onward tx s=(bL w::tx,pad s 1,9) ∨ ∃ k,(k≤6∨k=10∨k=11)∧onward tx s=(.node ws::tx.drop 1,CV k (bL w) (pad s (looks k)),k)):=by
 cases hk:(ats tx 0).kids with
 | nil=>exact .inl ⟨rfl,ac4 hk⟩
 | cons w ws =>
  refine .inr ⟨w,ws,rfl,?_⟩
  have h9:=BR w
  by_cases e7:aH w=7
  ·by_cases d:(ats s 0).kids=[]
   ·exact .inr (.inl (aaY hk e7 d))
   ·exact .inl (Wg hk e7 d)
  by_cases e8:aH w=8
  ·by_cases d:(ats s 0).kids=[]
   ·exact .inr (.inr (.inr ⟨10,by lia,Rg hk e8 d⟩))
   ·exact .inr (.inr (.inl (Ri hk e8 d)))
  by_cases e9:aH w=9
  ·exact .inr (.inr (.inr ⟨11,by lia,Rh hk e9⟩))
  ·exact .inr (.inr (.inr ⟨aH w,by lia,Rf hk (by lia)⟩))
theorem wZ:stepT tx s≤12:=by
 unfold stepT
 rcases ah6 (tx:=tx) (s:=s) with⟨_,e⟩ | ⟨w,ws,_,e | e | e | ⟨k,h,e⟩⟩
 ·rw [e]; exact Nat.le_refl 12
 ·rw [e]; show 7≤12; lia
 ·rw [e]; show 8≤12; lia
 ·rw [e]; show 9≤12; lia
 ·rw [e]; show k≤12; lia
variable {w:T}{ws:List T}
end
def BX (tx:List T):Prop:=tx.length≤8000000∧∀ t∈tx,B 389 8000000 t
theorem BX.of {a b:Nat}{tx:List T} (h:B a b (.node tx)) (ha:a≤390) (hb:b≤8000000):BX tx:=by
 refine⟨by have:=h.len; lia,fun t ht=>?_⟩
 have h1:=h.1
 have h2:=h.2
 rw [T.aP] at h1
 rw [T.aK] at h2
 have:=T.lH ht
 have:=T.kZ ht
 exact⟨by lia,by lia⟩
end Sw
namespace Sw
open PySem PySem.Spec PyProof.Rows L2
end Sw
namespace Sw
open PySem PySem.Spec PyProof.Rows L2
theorem ahI {X:Cx}{pos:Pos}{o i:Expr}{to ti:TE}{t:NZ} (ho:QE X o to) (hi:QE X i ti) (hs:Yl X t)
  (ha:∀ v,assign (.Subscript o i pos) X.env v=(do
   let ov ← holding [v] (eval o X.env)
   let iv ← holding [v,ov] (eval i X.env)
   standAt pos
   holding [v,ov,iv] (setItem ov iv v)
   release [v,ov,iv] []):=by intro _; rfl):QG X (.Subscript o i pos) (aiK to ti t):=⟨L2.ahU (ho:=ho.run) (hi:=hi.run) (hs:=hs) (ha:=ha)⟩
section
variable {X:Cx}
theorem adI (hc:X.calm=true):CallR X (.builtin "sum") (fun xs H Q=>∃ (p:Addr) (ns:List Int),xs=[.ref p]∧SqT X.K H p (ns.map V.int)∧Q (.int ns.sum) H):=by
 intro pins s σ H xs us Q I r h
 obtain⟨p,ns,rfl,hq,q⟩:=h
 obtain⟨u,rfl,rx⟩:=vals1 r
 cases rx
 obtain⟨its,r',pl,hz⟩:=I.tuple hq
 have hi:IntsAre its ns:=intsAre_of r'
 obtain⟨ys,e⟩:=hi.allInts.items
 have hns:ns=ys.toList.map (·.1):=by
  rw [← hi.numsOf,← nums_intItems,← e]
 have ht:s.heap.IsTuple p its.toArray:=pl
 rw [e] at ht
 obtain⟨o,ho,hc',n,hd⟩:=id ht
 have hne:p≠s.heap.objs.size:=Nat.ne_of_lt (Heap.lt_size ho)
 have hsz:(intItems ys).size=ys.size:=by simp [intItems]
 have W:=Walks.tuple (prog:=X.prog) (w:=X.w) (A:=X.A.in1) (I.ok.hd hc) s.heap.objs.size p hne (intItems ys)
 rw [hsz] at W
 refine call_sum_walkG (wpAny_pyIter_tuple ht ?_)
 refine⟨s.heap.objs.size,_,_,_,_,_,numAt ys,rfl,W,⟨⟨_,Heap.get?_push_size _ rfl,rfl,rfl⟩,ht.push _⟩,fun b hb=>?_,fun i v hP=>intItems_at hP,fun h' tk t' hk=>?_⟩
 ·rcases List.mem_cons.mp hb with rfl | hb
  ·exact Heap.lt_size (Heap.get?_push_size _ rfl)
  ·obtain rfl:=List.mem_singleton.mp hb
   exact Heap.lt_size (Heap.get?_push_of_some _ ho)
 ·have es:preSum (numAt ys) ys.size=ns.sum:=by rw [preSum_eq,List.take_of_length_le (by simp),hns]
  exact⟨.int ns.sum,H,I.kept (fun b o e=>hk b o (fun z=>absurd (Heap.lt_size e) (by rw [List.mem_singleton.mp z]; exact Nat.lt_irrefl _)) (Heap.get?_push_of_some _ e)),⟨t',by rw [es]⟩,q⟩
end
theorem RN {n j:Nat} (h:j<n):ixN n (j:Int)=some j:=by
 unfold ixN
 rw [if_pos (by lia),if_pos (by lia),Int.toNat_natCast]
abbrev nv (n:Nat):V:=.int (n:Int)
def Vr (K:PySem.W.Frag):Sp:=fun vs H Q _=>∃ x t,vs=[x]∧TR K H t x∧t.parts≤8000000∧∀ H',Same H H'→Q (.int t.parts) H'
def aas (K:PySem.W.Frag) (H:Hp) (x:V) (n:Nat) (p:Addr):Nat→Sg→Hp→Prop:=fun m σ H'=>∃ (ys:List V) (ts:List T) (c:Nat) (o:Option V),
 σ=[some x,some (.ref p),some (.int c),o]∧Same H H'∧H' p=some (.lst ys)∧TRs K H' ts ys∧c+T.aq ts=n∧m=T.aq ts
def ev0 (k:Nat):List Nat:=(List.replicate 15 0).set k 1
def mH (tx s:List T):List Nat :=
 if stepT tx s=2 then (ev0 2).set 13 (ats s 0).parts
 else if stepT tx s=9 then (ev0 9).set 14 (bL (ats (ats tx 0).kids 0)).parts
 else ev0 (stepT tx s)
def nO (ns:List Nat):Int:=((ns.take 13).map fun n:Nat=>(n:Int)).sum - (ns.getD 2 0:Nat)+(ns.getD 13 0:Nat)
def bM (tx s:List T):Nat:=if stepT tx s=2 then (ats s 0).parts else 1
theorem Hx (tx s:List T):(mH tx s).length=15:=by
 unfold mH ev0
 split
 ·simp
 split <;> simp
theorem ag1 (tx s:List T):nO (mH tx s)=(bM tx s:Nat):=by
 have h:=wZ (tx:=tx) (s:=s)
 unfold mH bM
 split
 ·rename_i e
  show (0+(0+(1+(0+(0+(0+(0+(0+(0+(0+(0+(0+(0+0))))))))))))) - (1:Int)+((ats s 0).parts:Int)=_
  lia
 split
 ·show (0+(0+(0+(0+(0+(0+(0+(0+(0+(1+(0+(0+(0+0))))))))))))) - (0:Int)+(0:Int)=_
  lia
 ·generalize stepT tx s=k at *
  have:∀ k,k≤12→k≠2→nO (ev0 k)=((1:Nat):Int):=by decide
  exact this k h (by assumption)
theorem qg (tx s:List T):1≤bM tx s:=by
 unfold bM
 split
 ·exact T.jw _
 ·exact Nat.le_refl 1
def Vz (K:PySem.W.Frag):Sp:=fun vs H Q _=>∃ (a:Addr) (ns:List Nat),vs=[.ref a]∧SqT K H a (ns.map nv)∧ns.length=15∧∀ H',Same H H'→Q (.int (nO ns)) H'
theorem afT {ns:List Nat}{k:Nat} (h:k<ns.length):atI (ns.map nv) (k:Int)=some (.int ((ns.getD k 0:Nat):Int)) :=
 atI_nat (by rw [List.getElem?_map,List.getElem?_eq_getElem h,List.getD_eq_getElem?_getD,List.getElem?_eq_getElem h]; rfl)
theorem agL (ns:List Nat) (k:Nat):(ns.map nv).take k=((ns.take k).map fun n:Nat=>(n:Int)).map V.int:=by
 rw [← List.map_take,List.map_map]
 rfl
theorem aij (ns:List Nat) (k v:Nat):(ns.map nv).set k (nv v)=(ns.set k v).map nv:=by rw [List.map_set]
end Sw
namespace Sw
open PySem PySem.Spec PyProof.Rows L2
theorem abC (s:List T) (k:Nat):T.aq (s.drop k)≤T.aq s:=by
 have e:=congrArg T.aq (List.take_append_drop k s)
 rw [T.cL] at e
 lia
theorem aeX (t:T):t.parts=1+T.aq t.kids:=by cases t; rw [T.aK]; rfl
theorem abl (t:T):(bL t).parts≤t.parts:=by
 unfold bL
 rw [T.aK,aeX t]
 have:=abC t.kids 1
 lia
end Sw
namespace PySem
section
variable {prog:Program}{w:World}{A:Around}{E:Value→Shared→Prop}{s:Shared}
theorem adf {m t:Addr}{i:Nat}{its:Array Value}{x:Value}{Q:Value→Shared→Prop} (hm:s.heap.IsTupleIter m t i) (ht:s.heap.IsTuple t its) (hx:its[i]?=some x)
  (q:∀ g,g.IsTupleIter m t (i+1)→Heap.SameBut m s.heap g→Q x { s with heap:=g }):wpAny (model prog w) A (Builtin.SmallTypes.nextOf (.ref m)) Q E s:=by
 obtain⟨om,e1,e2,e3⟩:=id hm
 obtain⟨ot,f1,_,nt,f3⟩:=ht
 unfold Builtin.SmallTypes.nextOf; refine wpAny_bind (wpAny_callSpecial?_slot (name:=Str.ofString "__next__") hm.typeIs F.slot_tuple_iterator_next (wpAny_call_entry F.slot_tuple_iterator_next hm.typeIs F.entry_tuple_iterator_next ?_ (F.args_tuple_iterator_next_1 _)))
 show wpAny _ _ (field (.ref m) 0 >>= _) _ _ s
 refine wpAny_bind (wpAny_field e1 e3 (x:=.ref t) rfl ?_); show wpAny _ _ (if (Value.ref t == Value.none)=true then _ else _) _ _ s
 rw [if_neg (fun z:(Value.ref t == Value.none)=true=>Bool.false_ne_true z)]; show wpAny _ _ (field (.ref m) 1 >>= _) _ _ s
 refine wpAny_bind (wpAny_field e1 e3 (x:=.int i 0) rfl ?_); show wpAny _ _ (seqItems? (.ref t) >>= _) _ _ s
 refine wpAny_bind (wpAny_seqItems f1 f3 ?_); simp only [Int.toNat_natCast,hx]
 refine wpAny_bind (wpAny_setField e1 e3 (by simp) (wpAny_pure ⟨x,rfl,wpAny_pure (q _ ?_ (Heap.SameBut.update ..))⟩))
 refine⟨_,Heap.get?_update_self _ e1 (Obj.isFreed_of_fields (Obj.data_mapFields e3 _)),(Obj.cls_mapFields ..).trans e2,?_⟩
 rw [Obj.data_mapFields e3]; simp [rawInt]
theorem aa7 {m t:Addr}{i:Nat}{its:Array Value}{Q:Value→Shared→Prop} (hh:A.handled=none) (hm:s.heap.IsTupleIter m t i) (ht:s.heap.IsTuple t its) (hx:its[i]?=none)
  (q:∀ g e,Heap.ExtBut m s.heap g→(∃ o,g.get? e=some o∧o.cls=.type "StopIteration")→E (.ref e) { s with heap:=g }):wpAny (model prog w) A (Builtin.SmallTypes.nextOf (.ref m)) Q E s:=by
 obtain⟨om,e1,e2,e3⟩:=id hm
 obtain⟨ot,f1,_,nt,f3⟩:=ht
 unfold Builtin.SmallTypes.nextOf; refine wpAny_bind (wpAny_callSpecial?_slot (name:=Str.ofString "__next__") hm.typeIs F.slot_tuple_iterator_next (wpAny_call_entry F.slot_tuple_iterator_next hm.typeIs F.entry_tuple_iterator_next ?_ (F.args_tuple_iterator_next_1 _)))
 show wpAny _ _ (field (.ref m) 0 >>= _) _ _ s
 refine wpAny_bind (wpAny_field e1 e3 (x:=.ref t) rfl ?_); show wpAny _ _ (if (Value.ref t == Value.none)=true then _ else _) _ _ s
 rw [if_neg (fun z:(Value.ref t == Value.none)=true=>Bool.false_ne_true z)]; show wpAny _ _ (field (.ref m) 1 >>= _) _ _ s
 refine wpAny_bind (wpAny_field e1 e3 (x:=.int i 0) rfl ?_); show wpAny _ _ (seqItems? (.ref t) >>= _) _ _ s
 refine wpAny_bind (wpAny_seqItems f1 f3 ?_); simp only [Int.toNat_natCast,hx]
 refine wpAny_bind (wpAny_rule (wpAny_bind (wpAny_setField e1 e3 (by simp) ?_))); show wpAny _ _ (newExc (.type "StopIteration") [] >>= _) _ _ _
 refine wpAny_bind ?_; simp only [newExc,newTuple]; refine wpAny_bind (wpAny_newObj_type ?_ (by size_fits))
 refine wpAny_bind (m:=firstArgMember _ _) (wpAny_of_eq (a:=Value.none) (by first | rfl | (simp only [firstArgMember]; rfl)) ?_); refine wpAny_newObj_type ?_ (by size_fits)
 simp only [raiseNew]; refine wpAny_bind (wpAny_handled ?_); first | rw [show A.in1.handled=none from hh] | rw [hh]
 refine wpAny_bind (wpAny_pure (wpAny_throw ?_))
 exact q _ _ (((Heap.SameBut.update ..).extBut.push _).push _) ⟨_,Heap.get?_push_size _ rfl,rfl⟩
theorem af5 {z I O i1 i2 l1 l2:Addr}{k1 k2:Nat}{xs ys:Array Value}{x y a b:Value}{Q:Value→Shared→Prop} (D:ZipApart z I O i1 i2 l1 l2)
  (hz:IsZip s.heap z I O .none) (hI:IsPair s.heap I (.ref i1) (.ref i2)) (hO:IsPair s.heap O a b) (m1:s.heap.IsTupleIter i1 l1 k1) (m2:s.heap.IsTupleIter i2 l2 k2)
  (t1:s.heap.IsTuple l1 xs) (t2:s.heap.IsTuple l2 ys) (hx:xs[k1]?=some x) (hy:ys[k2]?=some y)
  (q:∀ g,IsZip g z I O (rawInt s.heap.objs.size)→IsPair g O x y→g.IsTupleIter i1 l1 (k1+1)→g.IsTupleIter i2 l2 (k2+1)→IsPair g s.heap.objs.size x y→g.objs.size=s.heap.objs.size+1 →
   (∀ c o,c≠z→c≠O→c≠i1→c≠i2→s.heap.get? c=some o→g.get? c=some o)→Q (.ref s.heap.objs.size) { s with heap:=g }) :
  wpAny (model prog w) A (Builtin.«zip.__next__» ⟨[.ref z],[]⟩) (fun fin u=>∃ v,fin=.done (.ret v)∧Q v u) E s:=by
 show wpAny _ _ (field (.ref z) 2 >>= _) _ _ _; refine wpAny_bind (wpAny_field hz rfl (x:=.bool false) rfl ?_)
 show wpAny _ _ (field (.ref z) 3 >>= _) _ _ _; refine wpAny_bind (wpAny_field hz rfl (x:=.ref I) rfl ?_)
 refine wpAny_bind (wpAny_seqItems hI rfl ?_); show wpAny _ _ (Builtin.SmallTypes.ownedTupleIsFree (.ref z) >>= _) _ _ _
 refine wpAny_bind ?_; unfold Builtin.SmallTypes.ownedTupleIsFree; refine wpAny_bind (wpAny_field hz rfl (x:=.none) rfl (wpAny_pure ?_))
 simp only [if_true]; refine wpAny_bind (wpAny_rule ?_); refine wpAny_bind (wpAny_field hz rfl (x:=.ref O) rfl ?_)
 refine wpAny_bind (wpAny_setField_rec hz (by simp) fun g1 z1 b1=>?_)
 replace z1:IsZip g1 z I O .ellipsis:=z1
 refine wpAny_bind ?_; simp only [List.zipIdx_cons,List.zipIdx_nil,List.forIn_cons,List.forIn_nil]
 refine wpAny_bind (wpAny_bind (wpAny_onRaise ?_)); show wpAny _ _ (Builtin.SmallTypes.nextOf (.ref i1) >>= _) _ _ _
 refine wpAny_bind (adf (m1.extBut b1.extBut D.i1z) (t1.extBut b1.extBut D.l1z) hx fun g2 m12 b2=>wpAny_pure ?_)
 have O2:IsPair g2 O a b:=b2.extBut _ _ D.TOi1 (b1.extBut _ _ D.TOz hO)
 refine wpAny_bind (wpAny_seqItems O2 rfl ?_); refine wpAny_bind (wpAny_updateSeq_pair O2 fun g3 O3 b3=>?_)
 replace O3:IsPair g3 O x b:=O3
 refine wpAny_bind (wpAny_letGo (wpAny_pure ?_)); refine wpAny_bind (wpAny_bind (wpAny_onRaise ?_)); show wpAny _ _ (Builtin.SmallTypes.nextOf (.ref i2) >>= _) _ _ _
 refine wpAny_bind (adf (((m2.extBut b1.extBut D.i2z).extBut b2.extBut D.i12.symm).extBut b3.extBut D.TOi2.symm) (((t2.extBut b1.extBut D.l2z).extBut b2.extBut D.l2i1).extBut b3.extBut D.l2TO) hy fun g4 m24 b4=>wpAny_pure ?_)
 have O4:IsPair g4 O x b:=b4.extBut _ _ D.TOi2 O3
 refine wpAny_bind (wpAny_seqItems O4 rfl ?_); refine wpAny_bind (wpAny_updateSeq_pair O4 fun g5 O5 b5=>?_)
 replace O5:IsPair g5 O x y:=O5
 refine wpAny_bind (wpAny_letGo (wpAny_pure (wpAny_pure ?_))); refine wpAny_bind (wpAny_seqItems O5 rfl ?_); refine wpAny_bind (wpAny_newTuple ?_)
 have sz:g5.objs.size=s.heap.objs.size:=by rw [b5.1,b4.1,b3.1,b2.1,b1.1]
 have z5:IsZip g5 z I O .ellipsis:=b5.extBut _ _ D.TOz.symm (b4.extBut _ _ D.i2z.symm (b3.extBut _ _ D.TOz.symm (b2.extBut _ _ D.i1z.symm z1)))
 have k5:∀ c o,c≠z→c≠O→c≠i1→c≠i2→s.heap.get? c=some o→g5.get? c=some o:=fun c o c1 c2 c3 c4 e=>b5.extBut _ _ c2 (b4.extBut _ _ c4 (b3.extBut _ _ c2 (b2.extBut _ _ c3 (b1.extBut _ _ c1 e))))
 have m15:g5.IsTupleIter i1 l1 (k1+1):=((m12.extBut b3.extBut D.TOi1.symm).extBut b4.extBut D.i12).extBut b5.extBut D.TOi1.symm
 have m25:g5.IsTupleIter i2 l2 (k2+1):=m24.extBut b5.extBut D.TOi2.symm
 have zlt:z<g5.objs.size:=Heap.lt_size z5
 show wpAny _ _ (Builtin.SmallTypes.ownedTupleHandOut (.ref z) (.ref g5.objs.size) >>= _) _ _ _
 refine wpAny_bind ?_; unfold Builtin.SmallTypes.ownedTupleHandOut
 have z6:IsZip (g5.push { cls:=.type "tuple",data:=.seq #[x,y] }) z I O .ellipsis:=Heap.get?_push_of_some _ z5
 refine wpAny_bind (wpAny_setField_rec z6 (by simp) fun g7 z7 b7=>?_)
 replace z7:IsZip g7 z I O (rawInt g5.objs.size):=z7
 refine wpAny_setField_rec z7 (by simp) fun g8 z8 b8=>?_
 replace z8:IsZip g8 z I O (rawInt g5.objs.size):=z8
 have up:∀ c o,c≠z→g5.get? c=some o→g8.get? c=some o:=fun c o c1 e=>b8.extBut _ _ c1 (b7.extBut _ _ c1 (Heap.get?_push_of_some _ e))
 have T8:IsPair g8 g5.objs.size x y:=b8.extBut _ _ (Nat.ne_of_gt zlt) (b7.extBut _ _ (Nat.ne_of_gt zlt) (Heap.get?_push_size _ rfl))
 have s8:g8.objs.size=g5.objs.size+1:=by rw [b8.1,b7.1,Heap.size_push]
 rw [sz] at z8 T8 s8; refine wpAny_pure ⟨_,rfl,?_⟩; show Q (.ref g5.objs.size) _
 rw [sz]; exact q g8 z8 (up _ _ D.TOz O5) (by obtain⟨o,e,r⟩:=m15; exact⟨o,up _ o D.i1z e,r⟩) (by obtain⟨o,e,r⟩:=m25; exact⟨o,up _ o D.i2z e,r⟩) T8 s8 fun c o c1 c2 c3 c4 e=>up c o c1 (k5 c o c1 c2 c3 c4 e)
theorem ahk {z I O i1 i2 l1 l2:Addr}{k1:Nat}{xs:Array Value}{Q:Fin→Shared→Prop} (hh:A.handled=none) (D:ZipApart z I O i1 i2 l1 l2)
  (hz:IsZip s.heap z I O .none) (hI:IsPair s.heap I (.ref i1) (.ref i2)) (m1:s.heap.IsTupleIter i1 l1 k1) (t1:s.heap.IsTuple l1 xs) (hx:xs[k1]?=none)
  (q:∀ g e,(∀ c o,c≠z→c≠O→c≠i1→c≠i2→s.heap.get? c=some o→g.get? c=some o)→(∃ o,g.get? e=some o∧o.cls=.type "StopIteration")→E (.ref e) { s with heap:=g }) :
  wpAny (model prog w) A (Builtin.«zip.__next__» ⟨[.ref z],[]⟩) Q E s:=by
 show wpAny _ _ (field (.ref z) 2 >>= _) _ _ _; refine wpAny_bind (wpAny_field hz rfl (x:=.bool false) rfl ?_)
 show wpAny _ _ (field (.ref z) 3 >>= _) _ _ _; refine wpAny_bind (wpAny_field hz rfl (x:=.ref I) rfl ?_)
 refine wpAny_bind (wpAny_seqItems hI rfl ?_); show wpAny _ _ (Builtin.SmallTypes.ownedTupleIsFree (.ref z) >>= _) _ _ _
 refine wpAny_bind ?_; unfold Builtin.SmallTypes.ownedTupleIsFree; refine wpAny_bind (wpAny_field hz rfl (x:=.none) rfl (wpAny_pure ?_))
 simp only [if_true]; refine wpAny_bind (wpAny_rule ?_); refine wpAny_bind (wpAny_field hz rfl (x:=.ref O) rfl ?_)
 refine wpAny_bind (wpAny_setField_rec hz (by simp) fun g1 z1 b1=>?_)
 replace z1:IsZip g1 z I O .ellipsis:=z1
 refine wpAny_bind ?_; simp only [List.zipIdx_cons,List.zipIdx_nil,List.forIn_cons,List.forIn_nil]
 refine wpAny_bind (wpAny_bind (wpAny_onRaise ?_)); show wpAny _ _ (Builtin.SmallTypes.nextOf (.ref i1) >>= _) _ _ _
 refine wpAny_bind (aa7 hh (m1.extBut b1.extBut D.i1z) (t1.extBut b1.extBut D.l1z) hx fun g2 e b2 he=>?_)
 obtain⟨oe,h1,h2⟩:=he
 have z2:IsZip g2 z I O .ellipsis:=b2 _ _ D.i1z.symm z1
 have ez:e≠z:=fun x=>by subst x; rw [z2] at h1; cases h1; simp at h2
 refine wpAny_setField_rec z2 (by simp) fun g3 _ b3=>q g3 e (fun c o c1 _ c3 _ x=>b3.extBut _ _ c1 (b2 _ _ c3 (b1.extBut _ _ c1 x))) ⟨oe,b3.extBut _ _ ez h1,h2⟩
abbrev zt1 (h:Heap) (l1:Addr):Heap:=h.push { cls:=.type "tuple_iterator",data:=.fields #[.ref l1,.int 0 0] }
abbrev zt2 (h:Heap) (l1 l2:Addr):Heap:=(zt1 h l1).push { cls:=.type "tuple_iterator",data:=.fields #[.ref l2,.int 0 0] }
abbrev zt3 (h:Heap) (l1 l2:Addr):Heap:=(zt2 h l1 l2).push { cls:=.type "tuple",data:=.seq #[.ref h.objs.size,.ref (zt1 h l1).objs.size] }
abbrev zt4 (h:Heap) (l1 l2:Addr):Heap:=(zt3 h l1 l2).push { cls:=.type "tuple",data:=.seq #[.none,.none] }
abbrev zt5 (h:Heap) (l1 l2:Addr):Heap:=(zt4 h l1 l2).push { cls:=.type "zip",data:=.fields #[.none,.bool false,.bool false,.ref (zt2 h l1 l2).objs.size,.ref (zt3 h l1 l2).objs.size] }
theorem ahj (l1 l2:Addr) (xs ys:Array Value) :
  Meets (Builtin.«zip.__new__» ⟨[.type "zip",.ref l1,.ref l2],[]⟩) (fun _ R u=>u.heap.IsTuple l1 xs∧u.heap.IsTuple l2 ys∧R (.ok (.ret (.ref (zt4 u.heap l1 l2).objs.size))) { u with heap:=zt5 u.heap l1 l2 }) :=
 .of_wp fun prog w A R u h=>by
  obtain⟨hp,g,d,tk,os⟩:=u; obtain⟨h1,h2,h⟩:=h
  have hsub:=sub_zip
  have T1:Heap.IsTuple (Shared.heap ⟨hp,g,d,tk,os⟩) l1 xs:=h1
  have T2:Heap.IsTuple (Shared.heap ⟨hp.push { cls:=.type "tuple_iterator",data:=.fields #[.ref l1,.int 0 0] },g,d,tk,os⟩) l2 ys:=Heap.IsTuple.push h2 _
  wp_walk using wpAny_pyIter_tuple T1,wpAny_pyIter_tuple T2
  exact⟨_,rfl,h⟩
theorem ag6 {l1 l2:Addr}{xs ys:Array Value}{Q:Value→Shared→Prop} (h1:s.heap.IsTuple l1 xs) (h2:s.heap.IsTuple l2 ys)
  (q:∀ g,IsZip g (s.heap.objs.size+4) (s.heap.objs.size+2) (s.heap.objs.size+3) .none→IsPair g (s.heap.objs.size+2) (.ref s.heap.objs.size) (.ref (s.heap.objs.size+1)) →
   IsPair g (s.heap.objs.size+3) .none .none→g.IsTupleIter s.heap.objs.size l1 0→g.IsTupleIter (s.heap.objs.size+1) l2 0→g.objs.size=s.heap.objs.size+5 →
   (∀ c o,s.heap.get? c=some o→g.get? c=some o)→Q (.ref (s.heap.objs.size+4)) { s with heap:=g }):wpAny (model prog w) A (call (.type "zip") [.ref l1,.ref l2]) Q E s:=by
 refine callType_new F.called_zip (by decide) (F.typeCall_zip_2 _ _) (F.newCall_zip_2 _ _) (fun obj=>F.args_object_init_3 obj _ _) F.entry_zip_new (ahj l1 l2 xs ys) ⟨h1,h2,?_⟩
 have z1:(zt1 s.heap l1).objs.size=s.heap.objs.size+1:=Heap.size_push ..
 have z2:(zt2 s.heap l1 l2).objs.size=s.heap.objs.size+2:=by rw [Heap.size_push,z1]
 have z3:(zt3 s.heap l1 l2).objs.size=s.heap.objs.size+3:=by rw [Heap.size_push,z2]
 have z4:(zt4 s.heap l1 l2).objs.size=s.heap.objs.size+4:=by rw [Heap.size_push,z3]
 have z5:(zt5 s.heap l1 l2).objs.size=s.heap.objs.size+5:=by rw [Heap.size_push,z4]
 have w5:(zt5 s.heap l1 l2).get? (zt4 s.heap l1 l2).objs.size=some _:=Heap.get?_push_size _ rfl
 have w4:(zt5 s.heap l1 l2).get? (zt3 s.heap l1 l2).objs.size=some _:=Heap.get?_push_of_some _ (Heap.get?_push_size _ rfl)
 have w3:(zt5 s.heap l1 l2).get? (zt2 s.heap l1 l2).objs.size=some _:=Heap.get?_push_of_some _ (Heap.get?_push_of_some _ (Heap.get?_push_size _ rfl))
 have w2:(zt5 s.heap l1 l2).get? (zt1 s.heap l1).objs.size=some _:=Heap.get?_push_of_some _ (Heap.get?_push_of_some _ (Heap.get?_push_of_some _ (Heap.get?_push_size _ rfl)))
 have w1:(zt5 s.heap l1 l2).get? s.heap.objs.size=some _:=Heap.get?_push_of_some _ (Heap.get?_push_of_some _ (Heap.get?_push_of_some _ (Heap.get?_push_of_some _ (Heap.get?_push_size _ rfl))))
 show _∧_
 rw [z2,z3,z4] at w5; rw [z1,z2] at w3; rw [z3] at w4; rw [z1] at w2; rw [z4]
 exact⟨⟨_,w5,rfl⟩,q _ w5 w3 w4 ⟨_,w1,rfl,rfl⟩ ⟨_,w2,rfl,rfl⟩ z5 fun c o x=>Heap.get?_push_of_some _ (Heap.get?_push_of_some _ (Heap.get?_push_of_some _ (Heap.get?_push_of_some _ (Heap.get?_push_of_some _ x))))⟩
end
end PySem
namespace Sw
open PySem PySem.Spec PyProof.Rows L2
def Itz (K:PySem.W.Frag) (a b:Addr):It :=
 ⟨fun i H=>∃ xs ys x y,SqT K H a xs∧SqT K H b ys∧xs[i]?=some x∧ys[i]?=some y, fun i H v H'=>∃ p x y,v=.ref p∧H p=none∧H'=upd H p (.tup [x,y])∧(∀ xs,SqT K H a xs→xs[i]?=some x)∧∀ ys,SqT K H b ys→ys[i]?=some y, fun i H=>∃ xs,SqT K H a xs∧xs.length≤i⟩
theorem afm {X:Cx}{pins:List (Addr×Obj)}{σ:Sg}{H:Hp}{s:Shared}{h2:Heap}{tk:Nat}{fp:List Addr}{xs:List V} (I:Inv X pins σ H s) (hf:∀ b∈fp,FpOk X pins H b)
  (k:∀ b o,b ∉ fp→s.heap.get? b=some o→h2.get? b=some o) (new:ObjOk X.prog X.w (upd H s.heap.objs.size (.tup xs)) h2 s.heap.objs.size (.tup xs)) :
  Inv X pins σ (upd H s.heap.objs.size (.tup xs)) { s with heap:=h2,toks:=tk }:=by
 have hn:H s.heap.objs.size=none:=I.hok.fresh (Nat.le_refl _)
 have nt:∀ b u,H b=some u→b≠s.heap.objs.size:=fun b u q=>ne_of_none q hn
 have ne:∀ b u,H b=some u→b ∉ fp:=fun b u q z=>by rw [(hf b z).1] at q; cases q
 have up:∀ b u,H b=some u→upd H s.heap.objs.size (.tup xs) b=some u:=fun b u q=>by rw [upd_ne (nt b u q)]; exact q
 refine I.step (g':=s.gens) (d':=s.drawn) (t':=tk) (ch:=fp) (fun b hb=>⟨(hf b hb).2.2.2.1,(hf b hb).2.1,(hf b hb).2.2.2.2.1,(hf b hb).2.2.2.2.2⟩) (fun b o _ _ hb q _=>k b o hb q)
  (fun b o _ _ hb q _=>⟨o.slots,k b o hb q⟩) (fun b o _ q n=>by rw [upd_ne (Nat.ne_of_lt (Heap.lt_size q))]; exact n)
  (fun b o hb q=>⟨o,k b o hb q⟩) (fun b ys q=>up _ _ q) (fun b o u q=>up _ _ q) (fun b ps q=>⟨#[],by rw [up _ _ q]; simp⟩) (fun m hm=>?_) (fun b u q=>?_) I.bare
 ·obtain⟨o,es,ep,ho,r⟩:=hm
  exact⟨o,es,ep,k _ o (fun z=>(hf _ z).2.1 rfl) ho,r⟩
 ·by_cases hb:b=s.heap.objs.size
  ·subst hb
   rw [upd_same] at q
   cases q
   exact new
  ·rw [upd_ne hb] at q
   refine (I.hok b u q).stay (fun c v hc q'=>k c v ?_ q') (fun c q'=>up _ _ q') fun c ys q'=>up _ _ q'
   rcases hc with z | z
   ·rw [z]; exact ne b u q
   ·exact ne c _ z
theorem Zd {X:Cx}{pins:List (Addr×Obj)}{σ:Sg}{H:Hp}{s:Shared}{h2:Heap}{tk:Nat}{fp:List Addr} (I:Inv X pins σ H s) (hf:∀ b∈fp,FpOk X pins H b)
  (k:∀ b o,b ∉ fp→s.heap.get? b=some o→h2.get? b=some o):Inv X pins σ H { s with heap:=h2,toks:=tk }:=by
 have ne:∀ b u,H b=some u→b ∉ fp:=fun b u q z=>by rw [(hf b z).1] at q; cases q
 refine I.step (g':=s.gens) (d':=s.drawn) (t':=tk) (ch:=fp) (fun b hb=>⟨(hf b hb).2.2.2.1,(hf b hb).2.1,(hf b hb).2.2.2.2.1,(hf b hb).2.2.2.2.2⟩) (fun b o _ _ hb q _=>k b o hb q)
  (fun b o _ _ hb q _=>⟨o.slots,k b o hb q⟩) (fun _ _ _ _ n=>n) (fun b o hb q=>⟨o,k b o hb q⟩) (fun _ _ q=>q) (fun _ _ _ q=>q) (fun b ps q=>⟨#[],by rw [q]; simp⟩) (fun m hm=>?_) (fun b u q=>?_) I.bare
 ·obtain⟨o,es,ep,ho,r⟩:=hm
  exact⟨o,es,ep,k _ o (fun z=>(hf _ z).2.1 rfl) ho,r⟩
 ·refine (I.hok b u q).stay (fun c v hc q'=>k c v ?_ q') (fun _ q'=>q') fun _ _ q'=>q'
  rcases hc with z | z
  ·rw [z]; exact ne b u q
  ·exact ne c _ z
theorem aeo {P:Program}{w:World}{K:PySem.W.Frag}{elts:List Expr}{x1:Nat}{tp:Pos} (z I O i1 i2 a b:Addr) (D:ZipApart z I O i1 i2 a b) :
  Turn P w K (.Tuple elts x1 tp) (Itz K a b) [z,I,O,i1,i2] z (fun i h=>IsZip h z I O .none∧IsPair h I (.ref i1) (.ref i2)∧(∃ u v,IsPair h O u v)∧h.IsTupleIter i1 a i∧h.IsTupleIter i2 b i) where
 mem:=by simp
 obj:=fun i h st c hc=>by
  obtain⟨h1,h2,⟨u,v,h3⟩,⟨o4,h4,_,d4⟩,⟨o5,h5,_,d5⟩⟩:=st
  simp only [List.mem_cons,List.not_mem_nil,or_false] at hc
  rcases hc with e | e | e | e | e
  ·rw [e]; exact⟨_,h1,fun v z=>by cases z⟩
  ·rw [e]; exact⟨_,h2,fun v z=>by cases z⟩
  ·rw [e]; exact⟨_,h3,fun v z=>by cases z⟩
  ·rw [e]; exact⟨_,h4,fun v z=>by rw [d4] at z; cases z⟩
  ·rw [e]; exact⟨_,h5,fun v z=>by rw [d5] at z; cases z⟩
 keep:=fun i h h' st k=>by
  obtain⟨h1,h2,⟨u,v,h3⟩,⟨o4,h4,r4⟩,⟨o5,h5,r5⟩⟩:=st
  exact⟨k z (by simp) _ h1,k I (by simp) _ h2,⟨u,v,k O (by simp) _ h3⟩,⟨o4,k i1 (by simp) _ h4,r4⟩,⟨o5,k i2 (by simp) _ h5,r5⟩⟩
 item:=by
  intro X hP hw hK hc i pins s σ H E Iv hf st hg
  subst hP hw hK
  obtain⟨h1,h2,⟨u,v,h3⟩,h4,h5⟩:=st
  obtain⟨xs,ys,x,y,qa,qb,ex,ey⟩:=hg
  obtain⟨its,ra,pa,_⟩:=Iv.tuple qa
  obtain⟨jts,rb,pb,_⟩:=Iv.tuple qb
  obtain⟨vx,hvx,rx⟩:=ra.get ex
  obtain⟨vy,hvy,ry⟩:=rb.get ey
  have hT:s.TypeIs (.ref z) "zip":=⟨_,h1,rfl⟩
  unfold pyNext
  refine wpAny_bind (wpAny_attempt (wpAny_callSpecial?_slot (name:=Str.ofString "__next__") hT F.slot_zip_next (wpAny_call_entry F.slot_zip_next hT F.entry_zip_next
   (af5 D h1 h2 h3 h4 h5 (show s.heap.IsTuple a its.toArray from pa) (show s.heap.IsTuple b jts.toArray from pb) (x:=vx) (y:=vy) (by simpa using hvx) (by simpa using hvy) fun g a1 a2 a3 a4 a5 a6 a7=>wpAny_pure ⟨_,rfl,?_⟩) (F.args_zip_next_1 _))))
  refine wpAny_letOwnedTupleGo_zip a1 fun g2 z2 b2=>?_
  have zlt:z<s.heap.objs.size:=Heap.lt_size h1
  have hn:H s.heap.objs.size=none:=Iv.hok.fresh (Nat.le_refl _)
  have T2:g2.get? s.heap.objs.size=some { cls:=.type "tuple",data:=.seq #[vx,vy] }:=(b2.2 _ (Nat.ne_of_gt zlt)).trans a5
  have lt:∀ c∈[z,I,O,i1,i2],c<s.heap.objs.size:=fun c hc=>by
   simp only [List.mem_cons,List.not_mem_nil,or_false] at hc
   rcases hc with e | e | e | e | e
   ·rw [e]; exact zlt
   ·rw [e]; exact Heap.lt_size h2
   ·rw [e]; exact Heap.lt_size h3
   ·rw [e]; obtain⟨_,q,_⟩:=h4; exact Heap.lt_size q
   ·rw [e]; obtain⟨_,q,_⟩:=h5; exact Heap.lt_size q
  refine⟨.ref s.heap.objs.size,upd H s.heap.objs.size (.tup [x,y]),afm (s:=s) (xs:=[x,y]) (h2:=g2) (tk:=s.toks) Iv hf (fun c o hc q=>?_) ?_,rfl,⟨_,x,y,rfl,hn,rfl,fun zs hz=>by rw [Iv.sy hz qa]; exact ex,fun zs hz=>by rw [Iv.sy hz qb]; exact ey⟩,⟨z2,?_,⟨_,_,(b2.2 O D.TOz).trans a2⟩,?_,?_⟩,fun c hc=>?_⟩
  ·simp only [List.mem_cons,List.not_mem_nil,or_false,not_or] at hc
   exact (b2.2 c hc.1).trans (a7 c o hc.1 hc.2.2.1 hc.2.2.2.1 hc.2.2.2.2 q)
  ·exact⟨(by show 2≤sizeLine; decide),[vx,vy],.cons rx (.cons ry .nil),⟨_,T2,rfl,_,rfl⟩⟩
  ·exact (b2.2 I D.TIz).trans (a7 I _ D.TIz D.TITO D.TIi1 D.TIi2 h2)
  ·obtain⟨o,q,r⟩:=a3; exact⟨o,(b2.2 i1 D.i1z).trans q,r⟩
  ·obtain⟨o,q,r⟩:=a4; exact⟨o,(b2.2 i2 D.i2z).trans q,r⟩
  ·rw [upd_ne (Nat.ne_of_lt (lt c hc))]; exact (hf c hc).1
 done:=by
  intro X hP hw hK hc i pins s σ H E Iv hf st hg
  subst hP hw hK
  obtain⟨h1,h2,⟨u,v,h3⟩,h4,h5⟩:=st
  obtain⟨xs,qa,hl⟩:=hg
  obtain⟨its,ra,pa,_⟩:=Iv.tuple qa
  have hlen:=ra.length
  have hT:s.TypeIs (.ref z) "zip":=⟨_,h1,rfl⟩
  unfold pyNext
  refine wpAny_bind (wpAny_attempt (wpAny_callSpecial?_slot (name:=Str.ofString "__next__") hT F.slot_zip_next (wpAny_call_entry F.slot_zip_next hT F.entry_zip_next
   (ahk (Iv.ok.hd hc) D h1 h2 h4 (show s.heap.IsTuple a its.toArray from pa) (by simp; lia) fun g e hk he=>?_) (F.args_zip_next_1 _))))
  obtain⟨oe,he1,he2⟩:=he
  refine wpAny_bind (wpAny_isInstance (T:="StopIteration") (b:=true) ⟨oe,he1,he2⟩ isSubtype_stop (wpAny_pure ⟨rfl,?_⟩))
  refine Zd (tk:=s.toks) Iv hf fun c o hc q=>?_
  simp only [List.mem_cons,List.not_mem_nil,or_false,not_or] at hc
  exact hk c o hc.1 hc.2.2.1 hc.2.2.2.1 hc.2.2.2.2 q
 self:=fun _ _ _ _ _ st h=>wpAny_pyIter_zip st.1 h
theorem ajx:bootBuiltins "zip"=some (.type "zip"):=by decide +kernel
def aiA (K:PySem.W.Frag) (ta:TA):TI:=fun σ H R=>ta σ H fun vs H1=>∃ a b xs ys,vs=[.ref a,.ref b]∧SqT K H1 a xs∧SqT K H1 b ys∧R (Itz K a b) H1
theorem ahS {X:Cx}{elts:List Expr}{x1:Nat}{tp p pos:Pos}{a b:Expr}{ta:TA} (hg:Gl X "zip") (hm:X.mg "zip"=none) (ha:PA X [a,b] ta)
  (hs:starEach [a,b] X.env=[(false,eval a X.env),(false,eval b X.env)]:=by rfl) (hs2:starEach [b] X.env=[(false,eval b X.env)]:=by rfl) :
  PI X (.Tuple elts x1 tp) (.Call (.Name "zip" p) [a,b] [] pos) (aiA X.K ta):=by
 intro pins s σ H R I h
 refine Call_ (ld_blt I hg hm ajx (PyProof.Rows.callWith_type1 (thn (ha pos pins s σ H _ I h) fun us s1 ⟨vs,H1,I1,r1,q1⟩=>?_) (by rw [hs,hs2]) (by rw [hs2]; rfl)))
 obtain⟨l1,l2,xs,ys,rfl,qa,qb,q⟩:=q1
 cases r1 with
 | cons r rr =>
  cases rr with
  | cons r' rr =>
   cases rr
   cases r
   cases r'
   obtain⟨its,ra,pa,_⟩:=I1.tuple qa
   obtain⟨jts,rb,pb,_⟩:=I1.tuple qb
   have lt1:l1<s1.heap.objs.size:=by obtain⟨_,e,_⟩:=id pa; exact Heap.lt_size e
   have lt2:l2<s1.heap.objs.size:=by obtain⟨_,e,_⟩:=id pb; exact Heap.lt_size e
   refine ag6 (show s1.heap.IsTuple l1 its.toArray from pa) (show s1.heap.IsTuple l2 jts.toArray from pb) fun g z1 z2 z3 z4 z5 z6 z7=>wpAny_pyIter_zip z1 ?_
   have I2:Inv X pins σ H1 { s1 with heap:=g }:=I1.kept (t':=s1.toks) z7
   refine⟨_,_,_,Itz X.K l1 l2,H1,rfl,I2,aeo (s1.heap.objs.size+4) (s1.heap.objs.size+2) (s1.heap.objs.size+3) s1.heap.objs.size (s1.heap.objs.size+1) l1 l2 (zipApart_new lt1 lt2),⟨z1,z2,⟨_,_,z3⟩,z4,z5⟩,fun c hc=>?_,q⟩
   have hb':s1.heap.objs.size≤c:=by
    simp only [List.mem_cons,List.not_mem_nil,or_false] at hc
    rcases hc with e | e | e | e | e <;> rw [e] <;> lia
   exact I1.fpOk hb' (I1.hok.fresh hb')
section
variable {X:Cx}{pins:List (Addr×Obj)}{σ:Sg}{H:Hp}{s:Shared}{scope:Scope}{cl:List (Str×Addr)}{x y:Str}{fr:List Str}{js:List Nat}{fp:List Addr}
theorem afy {h1:Heap}{m1:Str→Option Value}{tk:Nat} (I:Inv X pins σ H s) (L:zB X scope x fr js cl) (hc:X.calm=true) (hfp:∀ b∈fp,FpOk X pins H b) (hsz:∀ b∈fp,b<s.heap.objs.size)
  (hy:scope.names.lookup y=some .local) (hn:h1.Ns s.heap.objs.size m1) (hk:∀ b o,s.heap.get? b=some o→h1.get? b=some o) :
  Inv (blk X scope cl s.heap.objs.size (x::y::fr) s H fp pins) [] (none::none::frv σ js) H { s with heap:=h1,toks:=tk }:=by
 refine⟨adN I L hc hfp hsz,rfl,I.bare,Un.kept hk,⟨m1,hn,fun i yy v e1 e2 _=>?_⟩,fun y c e=>?_,I.hok.fresh (Nat.le_refl _),fun y c e=>I.freeC y c (L.sub y c e),fun p hp=>?_,I.hok.kept hk,?_⟩
 ·cases i with
  | zero=>exact absurd e2 (by simp)
  | succ i =>
  cases i with
  | zero=>exact absurd e2 (by simp)
  | succ i =>
   have e1':fr[i]?=some yy:=by simpa [blk] using e1
   obtain⟨j,hj,hN,hcell,hrel⟩:=L.frk.get e1'
   have e2':σ[j]?=some (some v):=by
    have q:(frv σ js)[i]?=some (some v):=by simpa using e2
    unfold frv at q
    rw [List.getElem?_map,hj] at q
    have q':(σ[j]?).getD none=some v:=by simpa using q
    cases hs:σ[j]? with
    | none=>rw [hs] at q'; cases q'
    | some o=>rw [hs] at q'; exact congrArg some q'
   obtain⟨m,_,hl⟩:=I.loc
   obtain⟨u,r,lk⟩:=hl j yy v hN e2' (.inr (.inl hcell))
   refine⟨u,r,.inr ⟨.inl hrel,?_⟩⟩
   rcases lk with⟨hloc,_⟩ | ⟨_,c,hc1,hc2⟩
   ·have:X.env.scope.names.lookup yy=some .local:=hloc
    rw [hcell] at this; cases this
   ·obtain⟨c',hc'⟩:=L.has yy (.inl hrel)
    have e3:=L.sub yy c' hc'
    rw [hc1] at e3; cases e3
    exact⟨c,hc',hc2.keeps hk⟩
 ·obtain⟨v,hv⟩:=I.cell y c (L.sub y c e)
  exact⟨v,hv.keeps hk⟩
 ·have hp':p∈X.pn++pins:=by simpa [blk] using hp
  obtain⟨a1,a2,a3,a4,a5⟩:=I.pin p hp'
  refine⟨hk _ _ a1,a2,Nat.ne_of_lt (Heap.lt_size a1),fun z=>?_,a5⟩
  rcases List.mem_cons.mp (I.stkSub _ z) with e | e
  ·exact a3 e
  ·exact a4 e
 ·show (none::none::frv σ js).length=(x::y::fr).length
  simp [frv,L.frk.len]
end
def ad0 (K:PySem.W.Frag) (J:It) (js:List Nat) (te:TE) (σ:Sg) (Q:VK) (H1:Hp):Prop:=∀ D,H1 D=none →
 ∃ W:Nat→Nat→List V→Hp→Prop,(∃ m,W 0 m [] (upd H1 D (.lst [])))∧∀ i m ys H',W i m ys H'→H' D=some (.lst ys) ∧
  ((J.stop i H'∧Q (.ref D) H')∨(J.go i H'∧∀ v H2,J.yld i H' v H2→∃ a x y,v=.ref a∧SqT K H2 a [x,y]∧te (some x::some y::frv σ js) H2 fun z H3=>H3 D=some (.lst ys)∧ys.length<sizeLine ∧
   ∃ m',m'<m∧W (i+1) m' (ys++[z]) (upd H3 D (.lst (ys++[z])))))
def ahr (K:PySem.W.Frag) (wi:TI) (js:List Nat) (te:TE):TE:=fun σ H Q=>wi σ H fun J H1=>ad0 K J js te σ Q H1
section
variable {X:Cx}{scope:Scope}{cl:List (Str×Addr)}{x y:Str}{fr:List Str}{js:List Nat}{elt iter:Expr}{px py pt pos:Pos}{kt:Nat}{wi:TI}{te:TE}
theorem ahZ (hc:X.calm=true) (L:zB X scope x fr js cl) (hy:scope.names.lookup y=some .local) (nd2:(x::y::fr).Nodup) (hi:PI X (.Tuple [.Name x px,.Name y py] kt pt) iter wi)
  (he:∀ C s H fp pins,PE (blk X scope cl C (x::y::fr) s H fp pins) elt te)
  (hs:∀ v,foldedSetIterable iter X.env v=pure v:=by intro _; rfl) :
  PE X (.ListComp elt [⟨.Tuple [.Name x px,.Name y py] kt pt,iter,[],0⟩] scope pos) (ahr X.K wi js te):=by
 intro pins s σ H Q I h
 rw [eval_ListComp]
 refine wpAny_comprehension_free (use:=none) rfl hs L.clos L.kind L.loc (thn (hi pins s σ H _ I h) fun v s1 h1=>thn h1 fun itv s2 h2=>?_)
 obtain⟨it,fp,tn,J,H2,e,I2,T,st2,f2,rd⟩:=h2
 subst e
 obtain⟨W,⟨m0,w0⟩,turn⟩:=rd _ I2.fresh
 have I3:=I2.lnew (ys:=[]) (its:=[]) (t':=s2.toks) .nil (Nat.zero_le _)
 refine wpAny_newObj_type ?_
 have Hv:∀ b∈fp,b<s2.heap.objs.size:=fun b hb=>by
  obtain⟨o,ho,_⟩:=T.obj 0 _ st2 b hb
  exact Heap.lt_size ho
 generalize hs3:({ s2 with heap:=s2.heap.push { cls:=.type "list",dict:=none,data:=.seq ([]:List Value).toArray } }:Shared)=s3
 have I3':Inv X pins σ (upd H2 s2.heap.objs.size (.lst [])) s3:=by rw [← hs3]; exact I3
 have sz3:s3.heap.objs.size=s2.heap.objs.size+1:=by rw [← hs3]; exact Heap.size_push ..
 have k23:∀ b o,s2.heap.get? b=some o→s3.heap.get? b=some o:=fun b o e=>by rw [← hs3]; exact Heap.get?_push_of_some _ e
 have fsz:∀ b∈fp,b<s3.heap.objs.size:=fun b hb=>by rw [sz3]; exact Nat.lt_succ_of_lt (Hv b hb)
 have f3:∀ b∈fp,FpOk X pins (upd H2 s2.heap.objs.size (.lst [])) b:=fun b hb=>⟨by rw [upd_ne (Nat.ne_of_lt (Hv b hb))]; exact (f2 b hb).1,(f2 b hb).2⟩
 refine wpAny_newFunctionEnv L.cell (by intro y' hy'; simp at hy') (fun h4 hn4 Xh=>?_) L.kind
 have k34:∀ b o,s3.heap.get? b=some o→h4.get? b=some o:=fun b o e=>(Xh.2 b (Nat.ne_of_lt (Heap.lt_size e))).trans (Heap.get?_push_of_some _ e)
 generalize hX':blk X scope cl s3.heap.objs.size (x::y::fr) s3 (upd H2 s2.heap.objs.size (.lst [])) fp pins=X'
 have I4:Inv X' [] (none::none::frv σ js) (upd H2 s2.heap.objs.size (.lst [])) { s3 with heap:=h4,toks:=s3.toks+([]:List (Str×Value)).length }:=by
  rw [← hX']; exact afy I3' L hc f3 fsz hy hn4 k34
 have st4:tn 0 h4:=T.keep _ _ _ st2 fun b _ o e=>k34 b o (k23 b o e)
 have he':PE X' elt te:=by rw [← hX']; exact he _ _ _ _ _
 have xp:X'.prog=X.prog:=by rw [← hX']; rfl
 have xw:X'.w=X.w:=by rw [← hX']; rfl
 have xK:X'.K=X.K:=by rw [← hX']; rfl
 have xA:X'.A=X.A:=by rw [← hX']; rfl
 have xc:X'.calm=true:=by rw [← hX']; rfl
 have xe:X'.xe=fun _ _=>False:=by rw [← hX']; rfl
 have xn:X'.N=x::y::fr:=by rw [← hX']; rfl
 have xv:X'.env=compEnvC scope cl s3.heap.objs.size X.env:=by rw [← hX']; rfl
 have xpn:X'.pn=X.pn++pins:=by rw [← hX']; rfl
 have xex:X'.ex=fp:=by rw [← hX']; rfl
 have xfs:X'.fs=frs X.stack:=by rw [← hX']; rfl
 have back:∀ {H':Hp}{s':Shared}{h':Heap}{σ':Sg},Inv X' [] σ' H' s'→Heap.SameBut s3.heap.objs.size s'.heap h'→Inv X pins σ H' { s' with heap:=h' }:=fun {H' s' h' σ'} J' hsb=>by
  rw [← hX'] at J'; exact Nt I3' J' f3 hsb
 have frame:∀ b∈fp,b ∉ frs X.stack:=fun b hb z=>by
  rcases List.mem_cons.mp (I3'.stkSub b z) with e | e
  ·exact (f3 b hb).2.1 e
  ·exact (f3 b hb).2.2.1 e
 have stat:∀ {H':Hp},(∀ b∈fp,H' b=none)→∀ b∈fp,FpOk X' [] H' b:=fun {H'} hn b hb=>by
  refine⟨hn b hb,?_,?_,.inl (by rw [xex]; exact hb),?_,?_⟩
  ·rw [xv]; exact Nat.ne_of_lt (fsz b hb)
  ·rw [xfs]; exact frame b hb
  ·rw [xv]; exact fun y' c e=>(f3 b hb).2.2.2.2.1 y' c (L.sub y' c e)
  ·rw [xpn,List.append_nil]; exact (f3 b hb).2.2.2.2.2
 have loop:codeAny (model X.prog X.w) X.A (.compLoop (.ListComp elt [⟨.Tuple [.Name x px,.Name y py] kt pt,iter,[],0⟩] scope pos) 0 (.ref it) (.ref s2.heap.objs.size) (compEnvC scope cl s3.heap.objs.size X.env))
   (compPost (model X.prog X.w) X.A X.xe none (EP X pins σ Q) (.ref s2.heap.objs.size) s3.heap.objs.size) { s3 with heap:=h4,toks:=s3.toks+([]:List (Str×Value)).length }:=by
  refine RD (fun n s'=>∃ i ys o o' H',Inv X' [] (o::o'::frv σ js) H' s'∧tn i s'.heap∧(∀ b∈fp,H' b=none)∧W i n ys H') ?_ m0 ⟨0,[],none,none,_,I4,st4,fun b hb=>(f3 b hb).1,w0⟩
  rintro n s5 ⟨i,ys,o,o',H5,I5,st5,fr5,w5⟩
  obtain⟨hD,hstep⟩:=turn i n ys H5 w5
  rcases hstep with⟨stop,qn⟩ | ⟨go,step⟩
  ·have q:=T.done X' xp xw xK xc i [] s5 _ H5 (fun _ _=>False) I5 (stat fr5) st5 stop
   rw [xA] at q
   refine thn q fun r s6 ⟨hr,I6⟩=>?_
   subst hr
   obtain⟨m6,hn6,_⟩:=I6.loc
   rw [xv] at hn6
   exact⟨m6,hn6,fun h' hsb=>⟨.ref s2.heap.objs.size,H5,back I6 hsb,rfl,qn⟩⟩
  ·have q:=T.item X' xp xw xK xc i [] s5 _ H5 (fun _ _=>False) I5 (stat fr5) st5 go
   rw [xA] at q
   refine thn q fun r s6 ⟨u,hr,h6⟩=>?_
   subst hr
   refine thn h6 fun _ s7 ⟨xx,H7,I7,r7,y7,st7,fr7⟩=>?_
   have I7':=I7.pinned (stat fr7) (T.obj _ _ st7)
   obtain⟨ta,x0,y0,rfl,qt,step⟩:=step xx _ y7
   have g0:PG X' (.Name x px) (gName 0):=by
    refine pg_name (i:=0) (x:=x) (by rw [xn]; exact nd2) (by rw [xn]; rfl) ?_ ?_
    ·rw [xv]; exact .inl (lookup_relabel_local L.var)
    ·rw [xv]; exact .inr (lookup_relabel_local L.var)
   have g1:PG X' (.Name y py) (gName 1):=by
    refine pg_name (i:=1) (x:=y) (by rw [xn]; exact nd2) (by rw [xn]; rfl) ?_ ?_
    ·rw [xv]; exact .inl (lookup_relabel_local hy)
    ·rw [xv]; exact .inr (lookup_relabel_local hy)
   have hg:PG X' (.Tuple [.Name x px,.Name y py] kt pt) (afk X'.K 2 (U8 (gName 0) (U8 (gName 1) afl))):=acW xc (Lf g0 (Lf g1 Z7))
   have q7:=hg _ s7 _ H7 _ u (fun σ8 H8=>σ8=some x0::some y0::frv σ js∧H8=H7) I7' r7 ⟨ta,[x0,y0],rfl,by rw [xK]; exact qt,rfl,_,_,rfl,_,_,rfl,rfl,rfl,rfl⟩
   rw [xp,xw,xA,xe,xv] at q7
   refine thn q7 fun _ s8 ⟨σ8,H8,I8,e8,e8'⟩=>?_
   subst e8 e8'
   have q8:=he' _ s8 _ _ _ I8 step
   rw [xp,xw,xA,xe,xv] at q8
   refine thn q8 fun yv s9 ⟨yr,H9,I9,r9,d9,z9,m9,hm9,w9⟩=>?_
   have q9:=cU (X:=X') _ s9 _ H9 (.ref s2.heap.objs.size) [yr] (.ref s2.heap.objs.size) [yv] (fun z H'=>H'=upd H9 s2.heap.objs.size (.lst (ys++[yr]))) I9 rfl (.cons r9 .nil) ⟨_,ys,yr,rfl,rfl,d9,z9,rfl⟩
   rw [xp,xw,xA,xe] at q9
   refine thn q9 fun _ s10 ⟨_,H10,I10,_,e10⟩=>?_
   subst e10
   refine⟨m9,hm9,i+1,ys++[yr],some x0,some y0,_,I10.unpinned,T.keep _ _ _ st7 fun b hb ob e=>(I10.pin (b,ob) (List.mem_append_right _ (List.mem_append_right _ (mem_pinsAt hb e)))).1,fun b hb=>?_,w9⟩
   obtain⟨ob,e,_⟩:=T.obj _ _ st7 b hb
   exact (I10.pin (b,ob) (List.mem_append_right _ (List.mem_append_right _ (mem_pinsAt hb e)))).2.1
 exact codeAny_compStart_list loop (T.self _ 0 _ _ _ st4 loop)
end
theorem acR {X:Cx}{elts:List Expr}{x1:Nat}{tp p pos:Pos}{a b:Expr}{ta:TA} (hg:Gl X "zip") (hm:X.mg "zip"=none) (ha:QA X [a,b] ta)
  (hs:starEach [a,b] X.env=[(false,eval a X.env),(false,eval b X.env)]:=by rfl) (hs2:starEach [b] X.env=[(false,eval b X.env)]:=by rfl) :
  QI X (.Tuple elts x1 tp) (.Call (.Name "zip" p) [a,b] [] pos) (aiA X.K ta):=⟨ahS hg hm ha.run hs hs2⟩
theorem ahJ {X:Cx}{scope:Scope}{cl:List (Str×Addr)}{x y:Str}{fr:List Str}{js:List Nat}{elt iter:Expr}{px py pt pos:Pos}{kt:Nat}{wi:TI}{te:TE} (hc:X.calm=true) (L:zB X scope x fr js cl) (hy:scope.names.lookup y=some .local) (nd2:(x::y::fr).Nodup) (hi:QI X (.Tuple [.Name x px,.Name y py] kt pt) iter wi)
  (he:∀ C s H fp pins,QE (blk X scope cl C (x::y::fr) s H fp pins) elt te)
  (hs:∀ v,foldedSetIterable iter X.env v=pure v:=by intro _; rfl) :
  QE X (.ListComp elt [⟨.Tuple [.Name x px,.Name y py] kt pt,iter,[],0⟩] scope pos) (ahr X.K wi js te):=⟨ahZ hc L hy nd2 hi.run (fun C s H fp pins=>(he C s H fp pins).run) hs⟩
theorem aiv {K:PySem.W.Frag}{a b:Addr}{H1:Hp}{ns ms:List Nat}{σ:Sg}{js:List Nat}{te:TE}{Q:VK} (hn:ns.length≤1000) (he:ns.length=ms.length) (ha:SqT K H1 a (ns.map nv)) (hb:SqT K H1 b (ms.map nv))
  (hte:∀ (i j:Nat) (H':Hp) (R:VK),R (nv (i+j)) H'→te (some (nv i)::some (nv j)::frv σ js) H' R)
  (q:∀ D H',Same H1 H'→H' D=some (.lst ((ns.zipWith (· + ·) ms).map nv))→Q (.ref D) H'):ad0 K (Itz K a b) js te σ Q H1:=by
 intro D hD
 refine⟨fun i m ys H'=>i≤ns.length∧m=ns.length - i∧Same H1 H'∧H' D=some (.lst ys)∧ys=((ns.zipWith (· + ·) ms).take i).map nv,⟨_,Nat.zero_le _,rfl,same_new hD _,upd_same,rfl⟩,?_⟩
 rintro i m ys H' ⟨hi,rfl,S,hl,rfl⟩
 refine⟨hl,?_⟩
 have ha':=cj (.of S) ha
 have hb':=cj (.of S) hb
 have hz:(ns.zipWith (· + ·) ms).length=ns.length:=by rw [List.length_zipWith,he,Nat.min_self]
 by_cases h:i<ns.length
 ·have hm:i<ms.length:=by lia
  have ex:(ns.map nv)[i]?=some (nv ns[i]):=by rw [List.getElem?_map,List.getElem?_eq_getElem h]; rfl
  have ey:(ms.map nv)[i]?=some (nv ms[i]):=by rw [List.getElem?_map,List.getElem?_eq_getElem hm]; rfl
  refine .inr ⟨⟨_,_,_,_,ha',hb',ex,ey⟩,?_⟩
  rintro v H2 ⟨p,x,y,rfl,hp,rfl,hx,hy⟩
  have e1:=(hx _ ha').symm.trans ex
  have e2:=(hy _ hb').symm.trans ey
  cases e1
  cases e2
  refine⟨p,_,_,rfl,SqT.of upd_same,hte _ _ _ _ ?_⟩
  have hne:D≠p:=fun z=>by rw [z,hp] at hl; cases hl
  refine⟨by rw [upd_ne hne]; exact hl,by rw [List.length_map,List.length_take]; exact Nat.lt_of_le_of_lt (Nat.min_le_left _ _) (Nat.lt_of_lt_of_le (Nat.lt_of_lt_of_le h hn) (by decide)),ns.length - (i+1),by lia,by lia,rfl,dZ (S.trans (same_new hp _)) hD,upd_same,?_⟩
  have et:(ns.zipWith (· + ·) ms).take (i+1)=(ns.zipWith (· + ·) ms).take i++[ns[i]+ms[i]]:=by
   rw [List.take_succ,List.getElem?_zipWith,List.getElem?_eq_getElem h,List.getElem?_eq_getElem hm]
   rfl
  rw [et,List.map_append]
  rfl
 ·have e:i=ns.length:=by lia
  subst e
  refine .inl ⟨⟨_,ha',by rw [List.length_map]; exact Nat.le_refl _⟩,q D H' S ?_⟩
  rw [hl,List.take_of_length_le (by lia)]
end Sw
namespace Sw
open PySem PySem.Spec PyProof.Rows L2
section
variable {X:Cx}{pins:List (Addr×Obj)}{σ:Sg}{H:Hp}{s:Shared}
end
section
variable {X:Cx}
end
def ZR (K:PySem.W.Frag):Sp:=fun vs H Q _=>∃ a b ns ms,vs=[.ref a,.ref b]∧SqT K H a (List.map nv ns)∧SqT K H b (List.map nv ms)∧ns.length=15∧ms.length=15∧∀ p H',Same H H'→SqT K H' p ((ns.zipWith (· + ·) ms).map nv)→Q (.ref p) H'
end Sw
namespace Sw
open PySem PySem.Spec PyProof.Rows L2
inductive Dt where
 | i (n:Int) | s (x:Str) | t (ds:List Dt)
namespace Dt
mutual
def deep:Dt→Nat
 | .i _=>0
 | .s _=>0
 | .t ds=>bR ds
def bR:List Dt→Nat
 | []=>0
 | d::ds=>max (deep d+1) (bR ds)
end
mutual
def beq:Dt→Dt→Bool
 | .i n,.i m=>n == m
 | .s x,.s y=>x == y
 | .t ds,.t es=>jo ds es
 | .i _,.s _=>false
 | .i _,.t _=>false
 | .s _,.i _=>false
 | .s _,.t _=>false
 | .t _,.i _=>false
 | .t _,.s _=>false
def jo:List Dt→List Dt→Bool
 | [],[]=>true
 | d::ds,e::es=>beq d e && jo ds es
 | [],_::_=>false
 | _::_,[]=>false
end
mutual
theorem beq_iff:∀ d e:Dt,beq d e=true↔d=e
 | .i n,.i m=>by rw [beq,beq_iff_eq]; simp
 | .s x,.s y=>by rw [beq,beq_iff_eq]; simp
 | .t ds,.t es=>by rw [beq,yZ ds es]; simp
 | .i _,.s _=>by rw [beq]; simp
 | .i _,.t _=>by rw [beq]; simp
 | .s _,.i _=>by rw [beq]; simp
 | .s _,.t _=>by rw [beq]; simp
 | .t _,.i _=>by rw [beq]; simp
 | .t _,.s _=>by rw [beq]; simp
theorem yZ:∀ ds es:List Dt,jo ds es=true↔ds=es
 | [],[]=>by rw [jo]; simp
 | d::ds,e::es=>by rw [jo,Bool.and_eq_true,beq_iff d e,yZ ds es]; simp
 | [],_::_=>by rw [jo]; simp
 | _::_,[]=>by rw [jo]; simp
end
theorem yX (d:Dt):beq d d=true:=(beq_iff d d).mpr rfl
theorem lH {d:Dt}:∀ {ds:List Dt},d∈ds→d.deep+1≤bR ds
 | e::es,h=>by
  rw [bR]
  rcases List.mem_cons.mp h with rfl | h
  ·lia
  ·have:=lH h
   lia
end Dt
mutual
def DR (K:PySem.W.Frag) (H:Hp):Dt→V→Prop
 | .i n,x=>x=.int n
 | .s z,x=>x=.str z
 | .t ds,x=>∃ a xs,x=.ref a∧SqT K H a xs∧DRs K H ds xs
def DRs (K:PySem.W.Frag) (H:Hp):List Dt→List V→Prop
 | [],xs=>xs=[]
 | d::ds,xs=>∃ x r,xs=x::r∧DR K H d x∧DRs K H ds r
end
section
variable {K:PySem.W.Frag}{H H':Hp}
theorem Fe {n:Int}{x:V}:DR K H (.i n) x↔x=.int n:=by rw [DR]
theorem zL {z:Str}{x:V}:DR K H (.s z) x↔x=.str z:=by rw [DR]
theorem uy {ds:List Dt}{x:V}:DR K H (.t ds) x↔∃ a xs,x=.ref a∧SqT K H a xs∧DRs K H ds xs:=by rw [DR]
theorem xO {xs:List V}:DRs K H [] xs↔xs=[]:=by rw [DRs]
theorem lQ {d:Dt}{ds:List Dt}{xs:List V}:DRs K H (d::ds) xs↔∃ x r,xs=x::r∧DR K H d x∧DRs K H ds r:=by rw [DRs]
theorem DRs.length:∀ {ds:List Dt}{xs:List V},DRs K H ds xs→xs.length=ds.length
 | [],xs,h=>by rw [xO] at h; rw [h]; rfl
 | d::ds,xs,h=>by
  obtain⟨x,r,rfl,_,h2⟩:=lQ.mp h
  rw [List.length_cons,List.length_cons,DRs.length h2]
theorem DRs.get:∀ {ds:List Dt}{xs:List V}{j:Nat}{x:V},DRs K H ds xs→xs[j]?=some x→∃ d,ds[j]?=some d∧DR K H d x
 | [],xs,j,x,h,e=>by rw [xO] at h; rw [h] at e; simp at e
 | d::ds,xs,0,x,h,e=>by
  obtain⟨y,r,rfl,h1,_⟩:=lQ.mp h
  cases e
  exact⟨d,rfl,h1⟩
 | d::ds,xs,j+1,x,h,e=>by
  obtain⟨y,r,rfl,_,h2⟩:=lQ.mp h
  obtain⟨d',hd',h'⟩:=DRs.get (j:=j) h2 (by simpa using e)
  exact⟨d',by simpa using hd',h'⟩
mutual
def ofT:T→Dt
 | .node ts=>.t (G_ ts)
def G_:List T→List Dt
 | []=>[]
 | t::ts=>ofT t::G_ ts
end
mutual
theorem TR.dr:∀ {t:T}{x:V},TR K H t x→DR K H (ofT t) x
 | .node ts,x,h=>by
  obtain⟨a,xs,e,h1,h2⟩:=cN.mp h
  rw [ofT]
  exact uy.mpr ⟨a,xs,e,h1,TRs.dr h2⟩
theorem TRs.dr:∀ {ts:List T}{xs:List V},TRs K H ts xs→DRs K H (G_ ts) xs
 | [],xs,h=>by rw [G_]; exact xO.mpr (bO.mp h)
 | t::ts,xs,h=>by
  obtain⟨x,r,e,h1,h2⟩:=cI.mp h
  rw [G_]
  exact lQ.mpr ⟨x,r,e,TR.dr h1,TRs.dr h2⟩
end
mutual
theorem Ws:∀ t:T,(ofT t).deep=t.deep
 | .node ts=>by rw [ofT,Dt.deep,T.aP,TV ts]
theorem TV:∀ ts:List T,Dt.bR (G_ ts)=T.bR ts
 | []=>by rw [G_,Dt.bR,T.bQ]
 | t::ts=>by rw [G_,Dt.bR,T.aN,Ws t,TV ts]
end
theorem DR2 {a:Addr}{d e:Dt}{x y:V} (h:SqT K H a [x,y]) (h1:DR K H d x) (h2:DR K H e y):DR K H (.t [d,e]) (.ref a) :=
 uy.mpr ⟨a,_,rfl,h,lQ.mpr ⟨_,_,rfl,h1,lQ.mpr ⟨_,_,rfl,h2,xO.mpr rfl⟩⟩⟩
end
section
variable {X:Cx}{pins:List (Addr×Obj)}{σ:Sg}{H:Hp}{s:Shared}
mutual
theorem adz (I:Inv X pins σ H s):∀ (d e:Dt) (x:V),DR X.K H d x→DR X.K H e x→d=e
 | .i n,.i m,x,h,g=>by rw [Fe] at h g; rw [h] at g; cases g; rfl
 | .i n,.s m,x,h,g=>by rw [Fe] at h; rw [zL] at g; rw [h] at g; cases g
 | .i n,.t m,x,h,g=>by rw [Fe] at h; obtain⟨a,xs,e,_⟩:=uy.mp g; rw [h] at e; cases e
 | .s n,.i m,x,h,g=>by rw [zL] at h; rw [Fe] at g; rw [h] at g; cases g
 | .s n,.s m,x,h,g=>by rw [zL] at h g; rw [h] at g; cases g; rfl
 | .s n,.t m,x,h,g=>by rw [zL] at h; obtain⟨a,xs,e,_⟩:=uy.mp g; rw [h] at e; cases e
 | .t n,.i m,x,h,g=>by rw [Fe] at g; obtain⟨a,xs,e,_⟩:=uy.mp h; rw [g] at e; cases e
 | .t n,.s m,x,h,g=>by rw [zL] at g; obtain⟨a,xs,e,_⟩:=uy.mp h; rw [g] at e; cases e
 | .t ds,.t es,x,h,g=>by
  obtain⟨a,xs,rfl,h1,h2⟩:=uy.mp h
  obtain⟨b,ys,e,g1,g2⟩:=uy.mp g
  cases e
  have:=I.sy h1 g1
  subst this
  rw [aam I ds es xs h2 g2]
theorem aam (I:Inv X pins σ H s):∀ (ds es:List Dt) (xs:List V),DRs X.K H ds xs→DRs X.K H es xs→ds=es
 | [],[],_,_,_=>rfl
 | [],e::es,xs,h,g=>by
  rw [xO] at h
  obtain⟨x,r,z,_⟩:=lQ.mp g
  rw [h] at z; cases z
 | d::ds,[],xs,h,g=>by
  rw [xO] at g
  obtain⟨x,r,z,_⟩:=lQ.mp h
  rw [g] at z; cases z
 | d::ds,e::es,xs,h,g=>by
  obtain⟨x,r,rfl,h1,h2⟩:=lQ.mp h
  obtain⟨y,q,z,g1,g2⟩:=lQ.mp g
  cases z
  rw [adz I d e x h1 g1,aam I ds es r h2 g2]
end
def o8 (ds es:List Dt) (j:Nat):Bool:=match ds[j]?,es[j]? with
 | some d,some e=>Dt.beq d e
 | _,_=>true
theorem T5:∀ ds es:List Dt,((List.range (min ds.length es.length)).all (o8 ds es) && ds.length == es.length)=Dt.jo ds es:=by
 intro ds
 induction ds with
 | nil =>
  intro es
  cases es with
  | nil=>rfl
  | cons e es=>rw [Dt.jo]; simp
 | cons d ds ih =>
  intro es
  cases es with
  | nil=>rw [Dt.jo]; simp
  | cons e es =>
   have e1:min (d::ds).length (e::es).length=min ds.length es.length+1:=by simp only [List.length_cons]; lia
   rw [e1,List.range_succ_eq_map,List.all_cons,List.all_map]
   have e2:(o8 (d::ds) (e::es)∘Nat.succ)=o8 ds es:=by
    funext j
    simp [o8]
   have e3:o8 (d::ds) (e::es) 0=Dt.beq d e:=rfl
   have e4:((d::ds).length == (e::es).length)=(ds.length == es.length):=by simp
   rw [e2,e3,e4,Bool.and_assoc,ih,Dt.jo]
theorem aj5 (I:Inv X pins σ H s):∀ (n:Nat) (d e:Dt) (A:Around) (x y:V) (u v:Value),d.deep<n→DR X.K H d x→DR X.K H e y→RelV x u→RelV y v→A.units+n<cLine→SeqAt.EqAt A s u v (Dt.beq d e):=by
 intro n
 induction n with
 | zero=>intro d e A x y u v hd; lia
 | succ n ih =>
  intro d e A x y u v hd q r ru rv hu
  have hu0:A.units<cLine:=by lia
  cases d with
  | i n1 =>
   rw [Fe] at q; subst q; obtain⟨t1,rfl⟩:=ru
   cases e with
   | i m1=>rw [Fe] at r; subst r; obtain⟨t2,rfl⟩:=rv; rw [Dt.beq]; exact SeqAt.EqAt.int_int _ _ _ _
   | s m1=>rw [zL] at r; subst r; obtain⟨t2,rfl⟩:=rv; rw [Dt.beq]; exact SeqAt.EqAt.int_str _ _ _ _
   | t es =>
    obtain⟨b,ys,rfl,r1,r2⟩:=uy.mp r
    cases rv
    obtain⟨jts,_,ht2,_⟩:=I.tuple r1
    rw [Dt.beq]; exact SeqAt.EqAt.int_tuple _ _ ht2 hu0
  | s x1 =>
   rw [zL] at q; subst q; obtain⟨t1,rfl⟩:=ru
   cases e with
   | i m1=>rw [Fe] at r; subst r; obtain⟨t2,rfl⟩:=rv; rw [Dt.beq]; exact SeqAt.EqAt.str_int _ _ _ _
   | s m1=>rw [zL] at r; subst r; obtain⟨t2,rfl⟩:=rv; rw [Dt.beq]; exact SeqAt.EqAt.str_str _ _ _ _
   | t es =>
    obtain⟨b,ys,rfl,r1,r2⟩:=uy.mp r
    cases rv
    obtain⟨jts,_,ht2,_⟩:=I.tuple r1
    rw [Dt.beq]; exact SeqAt.EqAt.str_tuple _ _ ht2 hu0
  | t ds =>
   obtain⟨a,xs,rfl,q1,q2⟩:=uy.mp q
   cases ru
   obtain⟨its,rvs,ht,_⟩:=I.tuple q1
   cases e with
   | i m1=>rw [Fe] at r; subst r; obtain⟨t2,rfl⟩:=rv; rw [Dt.beq]; exact SeqAt.EqAt.tuple_int _ _ ht hu0
   | s m1=>rw [zL] at r; subst r; obtain⟨t2,rfl⟩:=rv; rw [Dt.beq]; exact SeqAt.EqAt.tuple_str _ _ ht hu0
   | t es =>
    obtain⟨b,ys,rfl,r1,r2⟩:=uy.mp r
    cases rv
    obtain⟨jts,ahz,ht2,_⟩:=I.tuple r1
    by_cases hne:a=b
    ·subst hne
     have et:Dt.t ds=Dt.t es:=adz I _ _ _ q r
     rw [et,Dt.yX]
     exact SeqAt.EqAt.same _
    ·refine SeqAt.EqAt.of_refs hne ?_
     rw [Dt.deep] at hd
     have l1:=rvs.length
     have l2:=ahz.length
     have l3:=q2.length
     have l4:=r2.length
     have key:=SeqAt.RcAt.tuples (A:=A) (e:=o8 ds es) ht ht2 (by lia) (fun j j1 j2=>?_)
     ·have ev:((List.range (min its.toArray.size jts.toArray.size)).all (o8 ds es) && its.toArray.size == jts.toArray.size)=Dt.beq (.t ds) (.t es):=by
       rw [List.size_toArray,List.size_toArray,← l1,← l2,l3,l4,Dt.beq,← T5]
      rw [ev] at key
      exact key
     ·have j1':j<xs.length:=by rw [l1]; simpa using j1
      have j2':j<ys.length:=by rw [l2]; simpa using j2
      obtain⟨u1,hu1,ru1⟩:=rvs.get (List.getElem?_eq_getElem j1')
      obtain⟨u2,hu2,ru2⟩:=ahz.get (List.getElem?_eq_getElem j2')
      obtain⟨d1,hd1,dr1⟩:=q2.get (List.getElem?_eq_getElem j1')
      obtain⟨d2,hd2,dr2⟩:=r2.get (List.getElem?_eq_getElem j2')
      have ee:o8 ds es j=Dt.beq d1 d2:=by unfold o8; rw [hd1,hd2]
      have g1:its.toArray[j]=u1:=by
       obtain⟨_,e⟩:=List.getElem?_eq_some_iff.mp hu1
       simpa using e
      have g2:jts.toArray[j]=u2:=by
       obtain⟨_,e⟩:=List.getElem?_eq_some_iff.mp hu2
       simpa using e
      rw [ee,g1,g2]
      have hm:=Dt.lH (List.mem_of_getElem? hd1)
      exact ih d1 d2 A.in1 _ _ u1 u2 (by lia) dr1 dr2 ru1 ru2 (by rw [Around.in1_units]; lia)
end
section
variable {X:Cx}{pins:List (Addr×Obj)}{σ:Sg}{H:Hp}{s:Shared}
theorem afg (I:Inv X pins σ H s) {n:Nat}{A:Around}{ds es:List Dt}{xs ys:List V}{its jts:List Value} (q2:DRs X.K H ds xs) (r2:DRs X.K H es ys) (rv:Vals xs its) (rv2:Vals ys jts) (hd:Dt.bR ds≤n) (hu:A.units+n<cLine)
  (j:Nat) (j1:j<its.toArray.size) (j2:j<jts.toArray.size):SeqAt.EqAt A s its.toArray[j] jts.toArray[j] (o8 ds es j):=by
 have l1:=rv.length
 have l2:=rv2.length
 have j1':j<xs.length:=by rw [l1]; simpa using j1
 have j2':j<ys.length:=by rw [l2]; simpa using j2
 obtain⟨u1,hu1,ru1⟩:=rv.get (List.getElem?_eq_getElem j1')
 obtain⟨u2,hu2,ru2⟩:=rv2.get (List.getElem?_eq_getElem j2')
 obtain⟨d1,hd1,dr1⟩:=q2.get (List.getElem?_eq_getElem j1')
 obtain⟨d2,hd2,dr2⟩:=r2.get (List.getElem?_eq_getElem j2')
 have ee:o8 ds es j=Dt.beq d1 d2:=by unfold o8; rw [hd1,hd2]
 have g1:its.toArray[j]=u1:=by
  obtain⟨_,e⟩:=List.getElem?_eq_some_iff.mp hu1
  simpa using e
 have g2:jts.toArray[j]=u2:=by
  obtain⟨_,e⟩:=List.getElem?_eq_some_iff.mp hu2
  simpa using e
 rw [ee,g1,g2]
 have hm:=Dt.lH (List.mem_of_getElem? hd1)
 exact aj5 I n d1 d2 A _ _ u1 u2 (by lia) dr1 dr2 ru1 ru2 hu
end
section
variable {X:Cx}
def alq (K:PySem.W.Frag) (n:Nat):R2:=fun x y H Q=>∃ ds es,DR K H (.t ds) x∧DR K H (.t es) y∧(Dt.t ds).deep<n∧Q (.bl (Dt.beq (.t ds) (.t es))) H
theorem ah5 {n:Nat} (hu:X.A.units+n<cLine):OpR X (compareOp .Eq) (alq X.K n):=by
 intro pins s σ H x y v u Q I rx ry h
 obtain⟨ds,es,h1,h2,hd,q⟩:=h
 obtain⟨a,xs,rfl,q1,q2⟩:=uy.mp h1
 obtain⟨b,ys,rfl,r1,r2⟩:=uy.mp h2
 cases rx
 cases ry
 obtain⟨its,rv,ht,_⟩:=I.tuple q1
 obtain⟨jts,rv2,ht2,_⟩:=I.tuple r1
 rw [Dt.deep] at hd
 have key:=SeqAt.RcAt.tuples (A:=X.A) (e:=o8 ds es) ht ht2 (by lia) (afg I q2 r2 rv rv2 (n:=n - 1) (by lia) (by rw [Around.in1_units]; lia))
 have ev:((List.range (min its.toArray.size jts.toArray.size)).all (o8 ds es) && its.toArray.size == jts.toArray.size)=Dt.beq (.t ds) (.t es):=by
  rw [List.size_toArray,List.size_toArray,← rv.length,← rv2.length,q2.length,r2.length,Dt.beq,← T5]
 rw [ev] at key
 exact key _ _ _ _ ⟨.bl _,H,I,rfl,q⟩
end
end Sw
namespace Sw
open PySem PySem.Spec PyProof.Rows L2
def gU:List Nat:=List.replicate 15 0
def eX (a b:List Nat):List Nat:=a.zipWith (· + ·) b
theorem Yd {a b:List Nat} (h:a.length=15) (g:b.length=15):(eX a b).length=15:=by unfold eX; rw [List.length_zipWith,h,g]; rfl
theorem adZ {b:List Nat} (g:b.length=15):eX gU b=b:=by
 unfold eX gU
 refine List.ext_getElem? fun i=>?_
 rw [List.getElem?_zipWith,List.getElem?_replicate]
 by_cases h:i<15
 ·rw [if_pos h,List.getElem?_eq_getElem (by lia)]
  show some (0+_)=some _
  rw [Nat.zero_add]
 ·rw [if_neg h,List.getElem?_eq_none (by lia)]
theorem ab0 {b:List Nat} (g:b.length=15):eX b gU=b:=by
 unfold eX gU
 refine List.ext_getElem? fun i=>?_
 rw [List.getElem?_zipWith,List.getElem?_replicate]
 by_cases h:i<15
 ·rw [if_pos h,List.getElem?_eq_getElem (by lia)]
  show some (_+0)=some _
  rw [Nat.add_zero]
 ·rw [if_neg h,List.getElem?_eq_none (by lia)]
theorem ab1 (a b c:List Nat):eX (eX a b) c=eX a (eX b c):=by
 unfold eX
 refine List.ext_getElem? fun i=>?_
 simp only [List.getElem?_zipWith]
 cases a[i]? <;> cases b[i]? <;> cases c[i]? <;> simp [Nat.add_assoc]
def goT (b:Nat) (tx s:List T):List T×List T×List Nat :=
 if h:tx=[]∨b<bM tx s then (tx,s,gU)
 else ((goT (b - bM tx s) (onward tx s).1 (onward tx s).2.1).1,(goT (b - bM tx s) (onward tx s).1 (onward tx s).2.1).2.1,eX (mH tx s) (goT (b - bM tx s) (onward tx s).1 (onward tx s).2.1).2.2)
termination_by b
decreasing_by
 all_goals
  have:=qg tx s
  have:¬ b<bM tx s:=fun z=>h (.inr z)
  lia
def spT (b:Nat) (tx s:List T):Nat :=
 if h:tx=[]∨b<bM tx s then 0
 else bM tx s+spT (b - bM tx s) (onward tx s).1 (onward tx s).2.1
termination_by b
decreasing_by
 have:=qg tx s
 have:¬ b<bM tx s:=fun z=>h (.inr z)
 lia
section
variable {b:Nat}{tx s:List T}
theorem mC (h:tx=[]∨b<bM tx s):goT b tx s=(tx,s,gU):=by rw [goT,dif_pos h]
theorem Jp (h:tx=[]∨b<bM tx s):spT b tx s=0:=by rw [spT,dif_pos h]
theorem oW (h1:tx≠[]) (h2:bM tx s≤b):goT b tx s=((goT (b - bM tx s) (onward tx s).1 (onward tx s).2.1).1,(goT (b - bM tx s) (onward tx s).1 (onward tx s).2.1).2.1,eX (mH tx s) (goT (b - bM tx s) (onward tx s).1 (onward tx s).2.1).2.2):=by
 rw [goT,dif_neg (fun z=>z.elim h1 (by lia))]
theorem Jq (h1:tx≠[]) (h2:bM tx s≤b):spT b tx s=bM tx s+spT (b - bM tx s) (onward tx s).1 (onward tx s).2.1:=by
 rw [spT,dif_neg (fun z=>z.elim h1 (by lia))]
end
theorem xg {P:Nat→List T→List T→Prop} (h0:∀ b tx s,(tx=[]∨b<bM tx s)→P b tx s) (h1:∀ b tx s,tx≠[]→bM tx s≤b→P (b - bM tx s) (onward tx s).1 (onward tx s).2.1→P b tx s):∀ b tx s,P b tx s:=by
 intro b
 induction b using Nat.strongRecOn with
 | ind b ih =>
  intro tx s
  by_cases h:tx=[]∨b<bM tx s
  ·exact h0 b tx s h
  ·have hc:=qg tx s
   have h2:bM tx s≤b:=by
    have:¬ b<bM tx s:=fun z=>h (.inr z)
    lia
   exact h1 b tx s (fun z=>h (.inl z)) h2 (ih _ (by lia) _ _)
theorem yG:∀ b tx s,(goT b tx s).2.2.length=15:=by
 refine xg (fun b tx s h=>?_) (fun b tx s h1 h2 ih=>?_)
 ·rw [mC h]; rfl
 ·rw [oW h1 h2]; exact Yd (Hx _ _) ih
theorem abI:nO gU=0:=by decide
theorem abJ {ns ms:List Nat} (h1:ns.length=15) (h2:ms.length=15):nO (eX ns ms)=nO ns+nO ms:=by
 unfold eX
 match ns,h1,ms,h2 with
 | [a0,a1,a2,a3,a4,a5,a6,a7,a8,a9,a10,a11,a12,a13,a14],_,[c0,c1,c2,c3,c4,c5,c6,c7,c8,c9,c10,c11,c12,c13,c14],_ =>
  simp only [nO,List.zipWith_cons_cons,List.zipWith_nil_left,List.take_succ_cons,List.take_zero,List.map_cons,List.map_nil,List.sum_cons,List.sum_nil,List.getD_cons_succ,List.getD_cons_zero,Int.natCast_add]
  lia
theorem agY:∀ b tx s,nO (goT b tx s).2.2=(spT b tx s:Nat):=by
 refine xg (fun b tx s h=>?_) (fun b tx s h1 h2 ih=>?_)
 ·rw [mC h,Jp h]; exact abI
 ·rw [oW h1 h2,Jq h1 h2]
  show nO (eX _ _)=_
  rw [abJ (Hx _ _) (yG _ _ _),ag1,ih]
  lia
inductive Sane:Nat→List T→List T→Prop
 | mk {b:Nat}{tx s:List T} (h1:BX tx) (h2:B 390 8000000 (.node s)) (h3:tx≠[]→bM tx s≤b→Sane (b - bM tx s) (onward tx s).1 (onward tx s).2.1):Sane b tx s
theorem Sane.bx {b:Nat}{tx s:List T} (h:Sane b tx s):BX tx:=by cases h; assumption
theorem Sane.bs {b:Nat}{tx s:List T} (h:Sane b tx s):B 390 8000000 (.node s):=by cases h; assumption
theorem Sane.next {b:Nat}{tx s:List T} (h:Sane b tx s) (h1:tx≠[]) (h2:bM tx s≤b):Sane (b - bM tx s) (onward tx s).1 (onward tx s).2.1:=by
 cases h with
 | mk _ _ h3=>exact h3 h1 h2
theorem Sane.last:∀ b tx s,Sane b tx s→BX (goT b tx s).1∧B 390 8000000 (.node (goT b tx s).2.1):=by
 refine xg (fun b tx s h g=>?_) (fun b tx s h1 h2 ih g=>?_)
 ·rw [mC h]; exact⟨g.bx,g.bs⟩
 ·rw [oW h1 h2]; exact ih (g.next h1 h2)
def wO:Str:=PySem.Str.ofString "told"
def Wd:Str:=PySem.Str.ofString "out"
def sO (b:Nat) (tx s:List T):Str:=if (goT b tx s).1=[] then wO else Wd
def zN (b:Nat) (tx s:List T):T:=if (goT b tx s).1=[] then ats (goT b tx s).2.1 0 else leaf
def aaX (tx s:List T):T:=.node [.node tx,.node s]
def Qz (K:PySem.W.Frag):Sp:=fun vs H Q _=>∃ x t y u,vs=[x,y]∧TR K H t x∧TR K H u y∧∀ z H',Same H H'→TR K H' (aaX [t] [u]) z→Q z H'
def afQ (K:PySem.W.Frag):Sp:=fun vs H Q _=>∃ (x y:V) (t u:T) (b:Nat),vs=[x,y,.int (b:Int)]∧TR K H t x∧TR K H u y∧Sane b [t] [u] ∧
 ∀ p v H',Same H H'→SqT K H' p [.str (sO b [t] [u]),v,nv (spT b [t] [u])]→TR K H' (zN b [t] [u]) v→Q (.ref p) H'
def Tw (K:PySem.W.Frag):Sp:=fun vs H Q _=>∃ (x y:V) (t u:T) (b:Nat),vs=[x,y,.int (b:Int)]∧TR K H t x∧TR K H u y∧Sane b [t] [u] ∧
 ∀ c H',Same H H'→SqT K H' c ((goT b [t] [u]).2.2.map nv)→Q (.ref c) H'
end Sw
namespace Sw
open PySem PySem.Spec PyProof.Rows L2
section
variable (p:List T) (d x:T) (Y:List T)
end
end Sw
namespace PySem
open Builtin Builtin.Str
section
variable {prog:Program}{w:World}{A:Around}{E:Value→Shared→Prop}{s:Shared}{x:Str}{t:Tok}{Q:Value→Shared→Prop}
end
end PySem
namespace Sw
open PySem PySem.Spec PyProof.Rows L2
section
variable {X:Cx}
end
open SeqAt in
theorem Yz (l:Addr) (items:Array Value) (n:Nat) (dd:Option Addr) (sl:Array (Option Value)) (x:Value) (e:Value→Bool) (j:Nat) (hj:j<items.size) (hit:e items[j]=true) (hno:∀ m (hm:m<items.size),m<j→e items[m]=false) :
  Meets (Builtin.«tuple.index» ⟨[.ref l,x],[]⟩) (fun A R u=>u.heap.get? l=some { cls:=.type "tuple",dict:=dd,data:=.seq items n,slots:=sl }∧(∀ y,y∈items→EqAt A.in1 u y x (e y))∧R (.ok (.ret (.int j u.toks))) { u with toks:=u.toks+1 }) :=
 .of_wp fun prog w A R u h=>by
  obtain⟨hp,g,d,tk,os⟩:=u; obtain⟨hl,he,h⟩:=h
  unfold Builtin.«tuple.index»
  simp only [Std.Legacy.Range.forIn_eq_forIn_range']
  wp_walk using wpAny_loadPart' hl,wpAny_forIn_list _ (fun rest b s'=>b.1=none∧s'=⟨hp,g,d,tk,os⟩∧∃ i,i≤j∧rest=(List.range' 0 items.size).drop i) _
  case turn =>
   rintro i rest b s' ⟨hb,rfl,m,hm,hr⟩
   have hlt:m<items.size:=by
    have:=congrArg List.length hr
    simp at this
    lia
   have hr2:(List.range' 0 items.size).drop m=m::(List.range' 0 items.size).drop (m+1):=by
    rw [List.drop_eq_getElem_cons (by simpa using hlt)]
    simp
   rw [hr2] at hr
   obtain⟨rfl,rfl⟩:=List.cons.inj hr
   have e1:items[i]?=some items[i]:=Array.getElem?_eq_getElem hlt
   rw [e1]
   refine wpAny_bind (he _ (Array.getElem_mem hlt) prog w _ _ ?_)
   by_cases hmj:i=j
   ·subst hmj
    rw [hit]
    wp_walk
    exact⟨_,rfl,h⟩
   ·rw [hno i hlt (by lia)]
    wp_walk
    exact⟨rfl,rfl,i+1,by lia,rfl⟩
  case fin =>
   rintro ⟨b1,b2⟩ s' ⟨hb,rfl,m,hm,hr⟩
   have:=congrArg List.length hr
   simp at this
   lia
  case h =>
   refine⟨rfl,rfl,0,Nat.zero_le _,?_⟩
   simp
end Sw
namespace Sw
abbrev Std:=List T×List T
def nx (st:Std):Std:=((onward st.1 st.2).1,(onward st.1 st.2).2.1)
def tZ (st:Std):Nat:=match (ats st.1 0).kids with
 | []=>1
 | w::_=>if aH w=2 then (ats st.2 0).parts else 1
abbrev W (n:Nat):T:=bC n []
abbrev nF (yes no:List T):T:=bC 7 (.node yes::no)
def Hh (st:Std):Prop:=aH (ats (ats st.1 0).kids 0)≠8
inductive Wlk:Std→Nat→Nat→Std→Prop where
 | nil {st:Std}:Wlk st 0 0 st
 | cons {st e:Std}{n c:Nat}:st.1≠[]→Hh st→Wlk (nx st) n c e→Wlk st (n+1) (c+tZ st) e
theorem Wlk.to {st e:Std}{n c n' c':Nat} (h:Wlk st n c e) (e1:n=n') (e2:c=c'):Wlk st n' c' e:=by subst e1; subst e2; exact h
theorem Wlk.one {st e u:Std}{n c k:Nat} (h1:st.1≠[]) (h2:Hh st) (h3:nx st=u) (h4:tZ st=k) (g:Wlk u n c e):Wlk st (n+1) (c+k) e:=by
 subst h3; subst h4; exact .cons h1 h2 g
section
variable {t cs s:List T}{e:Std}{n c:Nat}
theorem qy {w:T}{k:Nat} (h:aH w=k) (hk:k≠8):Hh (.node (w::t)::cs,s):=by
 show aH w≠8
 rw [h]; exact hk
theorem g_ {w:T} (h:aH w≤6):nx (.node (w::t)::cs,s)=(.node t::cs,behind w s):=by
 unfold nx onward
 show (_,_)=_
 simp only [ats,T.kids,List.getElem?_cons_zero,Option.getD_some,List.drop_succ_cons,List.drop_zero]
 rw [if_neg (by lia),if_neg (by lia),if_neg (by lia)]
theorem lA {w:T} (h:aH w≠2):tZ (.node (w::t)::cs,s)=1:=by
 show (if aH w=2 then _ else 1)=1
 rw [if_neg h]
theorem C_ {us:List T} (g:Wlk (.node t::cs,.node us::s) n c e):Wlk (.node (bC 0 us::t)::cs,s) (n+1) (c+1) e :=
 .one (by simp) (qy (k:=0) rfl (by decide)) (by rw [g_ (by show 0≤6; decide),Nu rfl]; rfl) (lA (by show 0≠2; decide)) g
theorem ou {a:T} (g:Wlk (.node t::cs,s) n c e):Wlk (.node (W 1::t)::cs,a::s) (n+1) (c+1) e :=
 .one (by simp) (qy (k:=1) rfl (by decide)) (by rw [g_ (by decide),abT rfl,dD (by simp)]; rfl) (lA (by decide)) g
theorem FW {a:T} (g:Wlk (.node t::cs,a::a::s) n c e):Wlk (.node (W 2::t)::cs,a::s) (n+1) (c+a.parts) e :=
 .one (by simp) (qy (k:=2) rfl (by decide)) (by rw [g_ (by decide),abS rfl,dD (by simp)]; rfl) rfl g
theorem cM {a b:T} (g:Wlk (.node t::cs,b::a::s) n c e):Wlk (.node (W 3::t)::cs,a::b::s) (n+1) (c+1) e :=
 .one (by simp) (qy (k:=3) rfl (by decide)) (by rw [g_ (by decide),abR rfl,dD (by simp)]; rfl) (lA (by decide)) g
theorem b_ {a:T}{b:List T} (g:Wlk (.node t::cs,.node (a::b)::s) n c e):Wlk (.node (W 4::t)::cs,a::.node b::s) (n+1) (c+1) e :=
 .one (by simp) (qy (k:=4) rfl (by decide)) (by rw [g_ (by decide),abQ rfl,dD (by simp)]; rfl) (lA (by decide)) g
theorem oh {a:List T} (g:Wlk (.node t::cs,ats a 0::.node (a.drop 1)::s) n c e):Wlk (.node (W 5::t)::cs,.node a::s) (n+1) (c+1) e :=
 .one (by simp) (qy (k:=5) rfl (by decide)) (by rw [g_ (by decide),abP rfl,dD (by simp)]; rfl) (lA (by decide)) g
theorem i_ {a:T}{b:List T} (g:Wlk (.node t::cs,a::.node b::s) n c e):Wlk (.node (W 5::t)::cs,.node (a::b)::s) (n+1) (c+1) e:=oh g
theorem eG {a b d:T} (g:Wlk (.node t::cs,d::a::b::s) n c e):Wlk (.node (W 6::t)::cs,a::b::d::s) (n+1) (c+1) e :=
 .one (by simp) (qy (k:=6) rfl (by decide)) (by rw [g_ (by decide),abO rfl,dD (by simp)]; rfl) (lA (by decide)) g
theorem dO (g:Wlk (cs,s) n c e):Wlk (.node []::cs,s) (n+1) (c+1) e :=
 .one (by simp) (by show 0≠8; decide) rfl rfl g
theorem Jj {yes no:List T}{a:T} (ha:a.kids≠[]) (g:Wlk (.node yes::.node t::cs,a::s) n c e):Wlk (.node (nF yes no::t)::cs,a::s) (n+1) (c+1) e :=
 .one (by simp) (qy (k:=7) rfl (by decide)) (by
  unfold nx onward
  simp only [ats,T.kids,List.getElem?_cons_zero,Option.getD_some,List.drop_succ_cons,List.drop_zero]
  rw [if_pos (by rfl),if_pos (by exact ha),oZ (by show 6<7; decide),dD (by show 1≤_; simp)]; rfl) (lA (by show 7≠2; decide)) g
theorem CZ {yes no:List T}{a:T} (ha:a.kids=[]) (g:Wlk (.node no::.node t::cs,a::s) n c e):Wlk (.node (nF yes no::t)::cs,a::s) (n+1) (c+1) e :=
 .one (by simp) (qy (k:=7) rfl (by decide)) (by
  unfold nx onward
  simp only [ats,T.kids,List.getElem?_cons_zero,Option.getD_some,List.drop_succ_cons,List.drop_zero]
  rw [if_pos (by rfl),if_neg (by exact fun z=>z ha),oZ (by show 6<7; decide),dD (by show 1≤_; simp)]; rfl) (lA (by show 7≠2; decide)) g
end
def aaH (t:List T):List T:=W 6::W 6::W 4::W 6::W 6::W 4::W 3::t
def Qu (t:List T):List T:=W 1::W 4::W 3::W 5::t
def Qs:Nat→List T
 | 1=>[W 1]
 | 2=>[W 2,W 6,W 3,W 4,W 3,W 4]
 | 3=>[W 3,W 5,W 3,W 6,W 4,W 3,W 4]
 | 4=>[W 3,W 5,W 6,W 4,W 4]
 | 5=>[W 5,W 6,W 6,W 4,W 3,W 4]
 | 6=>[W 3,W 5,W 3,W 5,W 3,W 6,W 4,W 6,W 4,W 3,W 4]
 | _=>[]
def Qt (t:List T):List T:=W 6::W 6::W 4::W 6::W 5::t
def akz:List T:=[W 4,W 3,W 6,W 5,W 3,W 1,W 4]
def tNo:List T:=[W 4,W 3,W 6,W 5,W 1,W 4]
def aaI:List T:=[W 4,W 3,W 6,W 5,W 3,W 2,W 6,W 4,W 6,W 5,W 6,W 4,W 4,W 3,W 4]
def aaG:List T:=[W 4,W 6,W 1,W 3]
def Gj:Nat→List T→List T
 | 0,t=>t
 | n+1,t=>W 1::Gj n t
def o7 (k:Nat):List T:=Gj (k+1) (if k=0 then aaH [] else if k=7 then Qt [nF akz tNo] else Qu (Qs k++[W 3]))
def Jm:Nat→List T→List T
 | 0,t=>t
 | n+1,t=>W 3::W 4::Jm n t
def vJ:List T:=Jm 8 (W 4::Qt [nF aaI aaG])
def Gi:List T:=Gj 10 [W 4]
def cH:Nat→List T
 | 0=>[nF Gi vJ]
 | d+1=>[nF (W 5::W 3::cH d) (o7 (7 - d))]
def eF:List T:=[W 5,nF (W 5::W 5::cH 8) [W 1]]
def bN:List T:=[bC 8 eF,W 1,W 5,W 3,W 1]
def dX:List T:=W 5::bC 0 []::W 6::W 4::bC 0 []::W 6::W 4::bN
section
variable {t cs s us:List T}{e:Std}{n c:Nat}
theorem Jk {as:List T} (g:Wlk (.node t::cs,s) n c e):∀ {k:Nat},as.length=k→Wlk (.node (Gj k t)::cs,as++s) (n+k) (c+k) e:=by
 intro k hk
 induction as generalizing k with
 | nil=>cases hk; exact g
 | cons a as ih=>cases hk; exact ou (ih rfl)
theorem ahn {l:T}{w:T}{ts st:List T} (g:Wlk (.node t::cs,.node (w::ts)::.node (l::st)::us) n c e):Wlk (.node (aaH t)::cs,l::w::.node ts::.node st::us) (n+7) (c+7) e :=
 eG (eG (b_ (eG (eG (b_ (cM g))))))
theorem aem {l w:T}{ts st:List T} (g:Wlk (.node t::cs,ats st 0::.node (st.drop 1)::.node (w::ts)::us) n c e):Wlk (.node (Qu t)::cs,l::w::.node ts::.node st::us) (n+4) (c+4) e :=
 ou (b_ (cM (oh g)))
theorem w_top {l w:T}{ts st:List T} (g:Wlk (.node t::cs,ats st 0::.node (st.drop 1)::.node (w::ts)::l::us) n c e):Wlk (.node (Qt t)::cs,l::w::.node ts::.node st::us) (n+5) (c+5) e :=
 eG (eG (b_ (eG (oh g))))
def mK:Nat→List T→List T
 | 1,s=>s.drop 1
 | 2,s=>ats s 0::ats s 0::s.drop 1
 | 3,s=>ats (s.drop 1) 0::ats s 0::s.drop 2
 | 4,s=>.node (ats s 0::(ats (s.drop 1) 0).kids)::s.drop 2
 | 5,s=>ats (ats s 0).kids 0::.node ((ats s 0).kids.drop 1)::s.drop 1
 | 6,s=>ats (s.drop 2) 0::ats s 0::ats (s.drop 1) 0::s.drop 3
 | _,s=>s
theorem aek {x:T}{st:List T}:∀ {k:Nat},1≤k→k≤6→Wlk (.node t::cs,.node (mK k st)::x::us) n c e →
  ∃ m d,m≤11∧d≤11+(if k=2 then (ats st 0).parts else 0)∧Wlk (.node (Qs k++t)::cs,ats st 0::.node (st.drop 1)::x::us) (n+m) (c+d) e:=by
 intro k h1 h6 g
 rcases (by lia:k=1∨k=2∨k=3∨k=4∨k=5∨k=6) with rfl | rfl | rfl | rfl | rfl | rfl
 ·exact⟨1,1,by decide,by rw [if_neg (by decide)]; decide,ou g⟩
 ·exact⟨6,5+(ats st 0).parts,by decide,by rw [if_pos rfl]; lia,(FW (eG (cM (b_ (cM (b_ g)))))).to rfl (by lia)⟩
 ·exact⟨7,7,by decide,by rw [if_neg (by decide)]; decide,cM (oh (cM (eG (b_ (cM (b_ (by rw [List.drop_drop]; exact g)))))))⟩
 ·refine⟨5,5,by decide,by rw [if_neg (by decide)]; decide,cM (oh (eG ?_))⟩
  rw [show ats (st.drop 1) 0=.node (ats (st.drop 1) 0).kids from (gH _).symm]
  exact b_ (b_ (by rw [List.drop_drop]; exact g))
 ·refine⟨6,6,by decide,by rw [if_neg (by decide)]; decide,?_⟩
  rw [show ats st 0=.node (ats st 0).kids from (gH _).symm]
  exact oh (eG (eG (b_ (cM (b_ g)))))
 ·exact⟨11,11,by decide,by rw [if_neg (by decide)]; decide,cM (oh (cM (oh (cM (eG (b_ (eG (b_ (cM (b_ (by rw [List.drop_drop,List.drop_drop]; exact g)))))))))))⟩
theorem wY (k:Nat) (g:Wlk (cs,s) n c e):Wlk (List.replicate k (.node [])++cs,s) (n+k) (c+k) e:=by
 induction k with
 | zero=>exact g
 | succ k ih=>exact dO ih
theorem Z0 {α:Type} (x:α) (k:Nat) (l:List α):List.replicate k x++x::l=List.replicate (k+1) x++l:=by
 induction k with
 | zero=>rfl
 | succ k ih=>rw [List.replicate_succ,List.cons_append,ih]; rfl
theorem BK {fs:List T}{d:Nat}:∀ {as cs s:List T},Wlk (.node (cH d)::(List.replicate as.length (.node [])++cs),.node fs::(as.reverse++s)) n c e →
  Wlk (.node (cH (as.length+d))::cs,.node (as++fs)::s) (n+3 * as.length) (c+3 * as.length) e:=by
 intro as
 induction as with
 | nil=>intro cs s g; rw [List.length_nil,Nat.zero_add]; exact g
 | cons a as ih =>
  intro cs s g
  have g':Wlk (.node (cH d)::(List.replicate as.length (.node [])++.node []::cs),.node fs::(as.reverse++a::s)) n c e:=by
   rw [Z0]
   rw [List.reverse_cons,List.append_assoc] at g
   exact g
  rw [List.length_cons,show as.length+1+d=as.length+d+1 by lia]
  exact (Jj (yes:=W 5::W 3::cH (as.length+d)) (a:=.node (a::(as++fs))) (by simp [T.kids]) (i_ (cM (ih g')))).to (by lia) (by lia)
theorem acn:∀ {as fs s:List T},Wlk (.node t::cs,.node (as.reverse++fs)::s) n c e→Wlk (.node (Jm as.length t)::cs,.node fs::(as++s)) (n+2 * as.length) (c+2 * as.length) e:=by
 intro as
 induction as with
 | nil=>intro fs s g; exact g
 | cons a as ih =>
  intro fs s g
  rw [List.reverse_cons,List.append_assoc] at g
  exact (cM (b_ (ih g))).to (by rw [List.length_cons]; lia) (by rw [List.length_cons]; lia)
def resT (as l xs ts st:List T):List T×List T :=
 if as.length=0 then (.node xs::ts,.node l::st)
 else if as.length≤6 then (.node xs::ts,mK as.length st)
 else if as.length=7 then if (ats st 0).kids≠[] then (ats l 0::.node xs::ts,ats st 0::st.drop 1) else (.node (l.drop 1)::.node xs::ts,ats st 0::st.drop 1)
 else if as.length=8 then if (ats st 0).kids≠[] then (.node l::.node (.node (.node as::l)::xs)::ts,ats st 0::st.drop 1) else (.node xs::ts,ats st 0::st.drop 1)
 else (.node xs::ts,st)
theorem acj {as l xs ts st:List T} (g:Wlk (cs,.node (resT as l xs ts st).1::.node (resT as l xs ts st).2::us) n c e) :
  ∃ m d,m≤100∧(1≤as.length→as.length≤8→5 * as.length+9≤m)∧d≤100+(if as.length=2 then (ats st 0).parts else 0)+(if as.length=8∧(ats st 0).kids≠[] then (T.node l).parts else 0) ∧
   Wlk (.node (cH 8)::cs,.node as::.node l::.node xs::.node ts::.node st::us) (n+m) (c+d) e:=by
 by_cases h0:as.length=0
 ·have:as=[]:=List.length_eq_zero_iff.mp h0
  subst this
  refine⟨11,11,by decide,fun z=>absurd z (by decide),by rw [if_neg (by decide),if_neg (by simp)]; decide,?_⟩
  have g:Wlk (cs,.node (.node xs::ts)::.node (.node l::st)::us) n c e:=g
  exact CZ rfl (ou (ahn (dO (dO g))))
 rw [resT,if_neg h0] at g
 by_cases h6:as.length≤6
 ·rw [if_pos h6] at g
  have g1:=dO (dO (wY as.length g))
  obtain⟨m,d,hm,hd,g2⟩:=aek (k:=as.length) (by lia) h6 (cM g1)
  have g3:=Jk (as:=.node []::as.reverse) (aem (l:=.node l) g2) (k:=as.length+1) (by rw [List.length_cons,List.length_reverse])
  refine⟨3 * as.length+1+(as.length+1)+4+m+1+1+1+as.length,3 * as.length+1+(as.length+1)+4+d+1+1+1+as.length,by lia,fun _ _=>by lia,by lia,?_⟩
  have e8:cH 8=cH (as.length+(8 - as.length)):=by rw [show as.length+(8 - as.length)=8 by lia]
  rw [e8,show T.node as=T.node (as++[]) by rw [List.append_nil]]
  refine (BK (n:=(n+as.length+1+1+1+m+4+(as.length+1))+1) (c:=(c+as.length+1+1+1+d+4+(as.length+1))+1) ?_).to (by lia) (by lia)
  have e9:cH (8 - as.length)=[nF (W 5::W 3::cH (7 - as.length)) (o7 as.length)]:=by
   rw [show 8 - as.length=(7 - as.length)+1 by lia,cH,show 7 - (7 - as.length)=as.length by lia]
  rw [e9]
  refine CZ rfl ?_
  rw [o7,if_neg h0,if_neg (by lia)]
  exact g3
 rw [if_neg h6] at g
 by_cases h7:as.length=7
 ·rw [if_pos h7] at g
  have e8:cH 8=cH (as.length+1):=by rw [h7]
  have e9:cH 1=[nF (W 5::W 3::cH 0) (o7 7)]:=rfl
  by_cases ht:(ats st 0).kids≠[]
  ·rw [if_pos ht] at g
   have g1:=dO (dO (dO (wY as.length g)))
   refine⟨3 * as.length+1+(as.length+1)+5+1+7+3+as.length,3 * as.length+1+(as.length+1)+5+1+7+3+as.length,by lia,fun _ _=>by lia,by rw [if_neg (by lia),if_neg (by lia)]; lia,?_⟩
   rw [e8,show T.node as=T.node (as++[]) by rw [List.append_nil]]
   refine (BK (n:=(n+as.length+3+7+1+5+(as.length+1))+1) (c:=(c+as.length+3+7+1+5+(as.length+1))+1) ?_).to (by lia) (by lia)
   rw [e9]
   refine CZ rfl ?_
   rw [o7,if_neg (by decide),if_pos rfl]
   exact (Jk (as:=.node []::as.reverse) (w_top (Jj ht (b_ (cM (eG (oh (cM (ou (b_ g1))))))))) (k:=7+1) (by rw [List.length_cons,List.length_reverse,h7])).to (by lia) (by lia)
  ·rw [if_neg ht] at g
   have g1:=dO (dO (dO (wY as.length g)))
   refine⟨3 * as.length+1+(as.length+1)+5+1+6+3+as.length,3 * as.length+1+(as.length+1)+5+1+6+3+as.length,by lia,fun _ _=>by lia,by rw [if_neg (by lia),if_neg (by lia)]; lia,?_⟩
   rw [e8,show T.node as=T.node (as++[]) by rw [List.append_nil]]
   refine (BK (n:=(n+as.length+3+6+1+5+(as.length+1))+1) (c:=(c+as.length+3+6+1+5+(as.length+1))+1) ?_).to (by lia) (by lia)
   rw [e9]
   refine CZ rfl ?_
   rw [o7,if_neg (by decide),if_pos rfl]
   exact (Jk (as:=.node []::as.reverse) (w_top (CZ (Classical.not_not.mp ht) (b_ (cM (eG (oh (ou (b_ g1)))))))) (k:=7+1) (by rw [List.length_cons,List.length_reverse,h7])).to (by lia) (by lia)
 rw [if_neg h7] at g
 by_cases h8:as.length=8
 ·rw [if_pos h8] at g
  have e8:cH 8=cH (as.length+0):=by rw [h8]
  have eb:vJ=Jm as.reverse.length (W 4::Qt [nF aaI aaG]):=by rw [List.length_reverse,h8]; rfl
  by_cases ht:(ats st 0).kids≠[]
  ·rw [if_pos ht] at g
   have g1:=dO (dO (dO (wY as.length g)))
   refine⟨3 * as.length+1+2 * as.length+1+5+1+15+3+as.length,3 * as.length+1+2 * as.length+1+5+1+14+3+as.length+(T.node l).parts,by lia,fun _ _=>by lia,by rw [if_neg (by lia),if_pos ⟨h8,ht⟩]; lia,?_⟩
   rw [e8,show T.node as=T.node (as++[]) by rw [List.append_nil]]
   refine (BK (n:=(n+as.length+3+15+1+5+1+2 * as.length)+1) (c:=(c+as.length+3+14+(T.node l).parts+1+5+1+2 * as.length)+1) ?_).to (by lia) (by lia)
   refine CZ rfl ?_
   rw [eb]
   refine (acn (n:=n+as.length+3+15+1+5+1) (c:=c+as.length+3+14+(T.node l).parts+1+5+1) ?_).to (by rw [List.length_reverse]) (by rw [List.length_reverse])
   rw [List.reverse_reverse,List.append_nil]
   exact (b_ (w_top (Jj ht (b_ (cM (eG (i_ (cM (FW (eG (b_ (eG (i_ (eG (b_ (b_ (cM (b_ g1)))))))))))))))))).to (by lia) (by lia)
  ·rw [if_neg ht] at g
   have g1:=dO (dO (dO (wY as.length g)))
   refine⟨3 * as.length+1+2 * as.length+1+5+1+4+3+as.length,3 * as.length+1+2 * as.length+1+5+1+4+3+as.length,by lia,fun _ _=>by lia,by rw [if_neg (by lia),if_neg (fun z=>ht z.2)]; lia,?_⟩
   rw [e8,show T.node as=T.node (as++[]) by rw [List.append_nil]]
   refine (BK (n:=(n+as.length+3+4+1+5+1+2 * as.length)+1) (c:=(c+as.length+3+4+1+5+1+2 * as.length)+1) ?_).to (by lia) (by lia)
   refine CZ rfl ?_
   rw [eb]
   refine (acn (n:=n+as.length+3+4+1+5+1) (c:=c+as.length+3+4+1+5+1) ?_).to (by rw [List.length_reverse]) (by rw [List.length_reverse])
   rw [List.reverse_reverse,List.append_nil]
   exact b_ (w_top (CZ (Classical.not_not.mp ht) (b_ (eG (ou (cM g1))))))
 ·rw [if_neg h8] at g
  have hl:(as.take 8).length=8:=by rw [List.length_take]; lia
  have g1:=dO (dO (wY 8 g))
  refine⟨3 * 8+1+10+1+2+8,3 * 8+1+10+1+2+8,by lia,fun _ _=>by lia,by lia,?_⟩
  have e8:cH 8=cH ((as.take 8).length+0):=by rw [hl]
  rw [e8,show T.node as=T.node (as.take 8++as.drop 8) by rw [List.take_append_drop]]
  refine (BK (n:=(n+8+2+1+10)+1) (c:=(c+8+2+1+10)+1) ?_).to (by lia) (by lia)
  rw [hl]
  refine Jj ?_ ?_
  ·show as.drop 8≠[]
   intro z
   have:=congrArg List.length z
   rw [List.length_drop,List.length_nil] at this
   lia
  ·have:=Jk (as:=.node (as.drop 8)::((as.take 8).reverse++[.node l])) (b_ g1) (k:=10) (by rw [List.length_cons,List.length_append,List.length_reverse,hl]; rfl)
   rw [List.cons_append,List.append_assoc] at this
   exact this
def iH (tx s:List T):Nat:=match (ats tx 0).kids with
 | []=>0
 | w::_=>if aH w=2 then (ats s 0).parts else if aH w=8∧(ats s 0).kids≠[] then (bL w).parts else 0
theorem Wc (s:List T):pad s 1=ats s 0::s.drop 1:=by
 cases s with
 | nil=>rfl
 | cons a s=>rw [dD (by simp)]; rfl
theorem adD {w:T}{k:Nat} (h1:1≤k) (h6:k≤6) (h:aH w=k):behind w s=mK k s:=by
 rcases (by lia:k=1∨k=2∨k=3∨k=4∨k=5∨k=6) with rfl | rfl | rfl | rfl | rfl | rfl
 ·rw [abT h,Wc]; rfl
 ·rw [abS h,Wc]; rfl
 ·rw [abR h]
  match s with
  | []=>rfl
  | [a]=>rfl
  | a::b::s=>rw [dD (by simp)]; rfl
 ·rw [abQ h]
  match s with
  | []=>rfl
  | [a]=>rfl
  | a::b::s=>rw [dD (by simp)]; rfl
 ·rw [abP h,Wc]; rfl
 ·rw [abO h]
  match s with
  | []=>rfl
  | [a]=>rfl
  | [a,b]=>rfl
  | a::b::d::s=>rw [dD (by simp)]; rfl
theorem eY {w:T}{ws ts:List T}:onward (.node (w::ws)::ts) s =
  if aH w=7 then
   if (ats s 0).kids≠[] then (ats (w.kids.drop 1) 0::.node ws::ts,behind w s,7) else (.node (w.kids.drop 2)::.node ws::ts,behind w s,8)
  else if aH w=8 then
   if (ats s 0).kids≠[] then (bL w::.node (w::ws)::ts,behind w s,9) else (.node ws::ts,behind w s,10)
  else if aH w=9 then (.node ws::ts,behind w s,11)
  else (.node ws::ts,behind w s,aH w):=rfl
theorem V1 {as l xs ts:List T}:((onward (.node (.node (.node as::l)::xs)::ts) s).1,(onward (.node (.node (.node as::l)::xs)::ts) s).2.1)=resT as l xs ts s:=by
 have hs:aH (.node (.node as::l))=min 9 as.length:=rfl
 rw [eY]
 unfold resT
 rw [hs]
 by_cases h0:as.length=0
 ·rw [if_neg (by lia),if_neg (by lia),if_neg (by lia),if_pos h0,Nu (by rw [hs]; lia)]; rfl
 rw [if_neg h0]
 by_cases h6:as.length≤6
 ·rw [if_neg (by lia),if_neg (by lia),if_neg (by lia),if_pos h6,adD (k:=as.length) (by lia) h6 (by rw [hs]; lia)]
 rw [if_neg h6]
 by_cases h7:as.length=7
 ·rw [if_pos (by lia),if_pos h7,oZ (by rw [hs]; lia),hs,show min 9 as.length=7 by lia,show many 7=1 from rfl,Wc]
  split <;> rfl
 rw [if_neg h7]
 by_cases h8:as.length=8
 ·rw [if_neg (by lia),if_pos (by lia),if_pos h8,oZ (by rw [hs]; lia),hs,show min 9 as.length=8 by lia,show many 8=1 from rfl,Wc]
  split <;> rfl
 ·rw [if_neg (by lia),if_neg (by lia),if_pos (by lia),if_neg h8,oZ (by rw [hs]; lia),hs,show min 9 as.length=9 by lia,show many 9=0 from rfl,dD (Nat.zero_le _)]
theorem res_none {xs ts:List T}:((onward (.node (.node []::xs)::ts) s).1,(onward (.node (.node []::xs)::ts) s).2.1)=resT [] [] xs ts s:=by
 unfold onward
 simp only [ats,T.kids,List.getElem?_cons_zero,Option.getD_some,List.drop_succ_cons,List.drop_zero]
 rw [Nu rfl]
 rfl
theorem abr {tx:List T} (h:tx≠[]):nx (.node bN::cs,.node tx::s)=(.node eF::.node bN::cs,.node tx::s):=by
 unfold nx
 rw [show bN=bC 8 eF::[W 1,W 5,W 3,W 1] from rfl,eY,if_neg (by show 8≠7; decide),if_pos (by rfl),if_pos (by exact h),oZ (by show 6<8; decide),dD (by show 1≤_; simp)]
 rfl
theorem agX:nx (.node bN::cs,.node []::s)=(.node [W 1,W 5,W 3,W 1]::cs,.node []::s):=by
 unfold nx
 rw [show bN=bC 8 eF::[W 1,W 5,W 3,W 1] from rfl,eY,if_neg (by show 8≠7; decide),if_pos (by rfl),if_neg (by exact fun z=>z rfl),oZ (by show 6<8; decide),dD (by show 1≤_; simp)]
end
end Sw
namespace Sw
def wt (st:Std):Nat:=T.aq st.1+T.aq st.2
theorem Ce (k:Nat) (s:List T):T.aq (s.drop k)≤T.aq s:=by
 have e:=T.cL (s.take k) (s.drop k)
 rw [List.take_append_drop] at e
 lia
theorem Dz (s:List T) (k:Nat):(ats s k).parts≤T.aq s+1:=by
 induction s generalizing k with
 | nil=>unfold ats leaf; rw [List.getElem?_nil,Option.getD_none,T.aK,T.aR]; lia
 | cons a s ih =>
  rw [T.aA]
  cases k with
  | zero=>show a.parts≤_; lia
  | succ k=>have:=ih k; have:=T.jw a; show (ats s k).parts≤_; lia
theorem Cd (w:T):(bL w).parts≤w.parts:=by
 have:=Ce 1 w.kids
 unfold bL
 rw [T.aK,T.dI w]
 lia
theorem akh {k:Nat} (h1:1≤k) (h6:k≤6) (s:List T):T.aq (mK k s)≤T.aq s+(if k=2 then (ats s 0).parts+1 else 3):=by
 have hl:leaf.parts=1:=by unfold leaf; rw [T.aK,T.aR]
 have hk:leaf.kids=[]:=rfl
 have hn:(T.node []).parts=1:=by rw [T.aK,T.aR]
 have e0:∀ s:List T,ats s 0=match s with | []=>leaf | a::_=>a:=fun s=>by cases s <;> rfl
 rcases (by lia:k=1∨k=2∨k=3∨k=4∨k=5∨k=6) with rfl | rfl | rfl | rfl | rfl | rfl
 ·have:=Ce 1 s; rw [if_neg (by decide)]; show T.aq (s.drop 1)≤_; lia
 ·rw [if_pos rfl]
  match s with
  | []=>simp only [mK,e0,List.drop_nil,T.aA,T.aR,hl]; lia
  | a::s=>simp only [mK,e0,List.drop_succ_cons,List.drop_zero,T.aA]; lia
 ·rw [if_neg (by decide)]
  match s with
  | []=>simp only [mK,e0,List.drop_nil,T.aA,T.aR,hl]; lia
  | [a]=>simp only [mK,e0,List.drop_succ_cons,List.drop_zero,List.drop_nil,T.aA,T.aR,hl]; lia
  | a::b::s=>simp only [mK,e0,List.drop_succ_cons,List.drop_zero,T.aA]; lia
 ·rw [if_neg (by decide)]
  match s with
  | []=>simp only [mK,e0,List.drop_nil,T.aA,T.aR,hl,hk,T.aK]; lia
  | [a]=>simp only [mK,e0,List.drop_succ_cons,List.drop_zero,List.drop_nil,T.aA,T.aR,hk,T.aK]; lia
  | a::b::s=>simp only [mK,e0,List.drop_succ_cons,List.drop_zero,T.aA,T.aK]; have:=T.dI b; lia
 ·rw [if_neg (by decide)]
  match s with
  | []=>simp only [mK,e0,List.drop_nil,T.aA,T.aR,hl,hk,T.aK]; lia
  | .node []::s=>simp only [mK,e0,T.kids,List.drop_succ_cons,List.drop_zero,List.drop_nil,T.aA,T.aR,hl,T.aK]; lia
  | .node (a::b)::s=>simp only [mK,e0,T.kids,List.drop_succ_cons,List.drop_zero,T.aA,T.aK]; lia
 ·rw [if_neg (by decide)]
  match s with
  | []=>simp only [mK,e0,List.drop_nil,T.aA,T.aR,hl]; lia
  | [a]=>simp only [mK,e0,List.drop_succ_cons,List.drop_zero,List.drop_nil,T.aA,T.aR,hl]; lia
  | [a,b]=>simp only [mK,e0,List.drop_succ_cons,List.drop_zero,List.drop_nil,T.aA,T.aR,hl]; lia
  | a::b::d::s=>simp only [mK,e0,List.drop_succ_cons,List.drop_zero,T.aA]; lia
theorem akg (s:List T) (n:Nat):T.aq (pad s n)≤T.aq s+n:=by
 have:∀ k,T.aq (List.replicate k leaf)=k:=fun k=>by
  induction k with
  | zero=>rw [List.replicate_zero,T.aR]
  | succ k ih=>rw [List.replicate_succ,T.aA,ih,leaf,T.aK,T.aR]; lia
 unfold pad
 rw [T.cL,this]
 lia
theorem Lk (w:T) (s:List T):T.aq (behind w s)≤T.aq s+(if aH w=2 then (ats s 0).parts+1 else 3)+(if aH w=0 then (bL w).parts else 0):=by
 by_cases h0:aH w=0
 ·rw [Nu h0,T.aA,if_pos h0,if_neg (by lia)]; lia
 by_cases h6:aH w≤6
 ·rw [adD (k:=aH w) (by lia) h6 rfl]
  have:=akh (k:=aH w) (by lia) h6 s
  lia
 ·have h9:=BR w
  have h3:∀ k,k≤9→many k≤3:=by decide
  have:=h3 _ h9
  rw [oZ (by lia),if_neg (by lia)]
  have:=akg s (many (aH w))
  lia
theorem GZ (w:T) (ws ts s:List T) :
  T.aq (onward (.node (w::ws)::ts) s).1≤T.aq (.node (w::ws)::ts)+(if aH w=8 then (bL w).parts else 0) ∧
  (aH w=0→T.aq (onward (.node (w::ws)::ts) s).1+w.parts≤T.aq (.node (w::ws)::ts))∧(onward (.node (w::ws)::ts) s).2.1=behind w s:=by
 have hw:=T.jw w
 have hl:=Cd w
 rw [eY]
 by_cases h7:aH w=7
 ·rw [if_pos h7,if_neg (show ¬ aH w=8 by lia)]
  refine⟨?_,fun z=>absurd z (by lia),by split <;> rfl⟩
  split
  ·have:=Dz (w.kids.drop 1) 0
   have:=Ce 1 w.kids
   have:=T.dI w
   show T.aq (_::_::_)≤_
   simp only [T.aA,T.aK]
   lia
  ·have:=Ce 2 w.kids
   have:=T.dI w
   show T.aq (_::_::_)≤_
   simp only [T.aA,T.aK]
   lia
 rw [if_neg h7]
 by_cases h8:aH w=8
 ·rw [if_pos h8,if_pos h8]
  refine⟨?_,fun z=>absurd z (by lia),by split <;> rfl⟩
  split
  ·show T.aq (_::_::_)≤_
   simp only [T.aA,T.aK]
   lia
  ·show T.aq (_::_)≤_
   simp only [T.aA,T.aK]
   lia
 rw [if_neg h8,if_neg h8]
 have e:T.aq (.node ws::ts)+w.parts=T.aq (.node (w::ws)::ts):=by simp only [T.aA,T.aK]; lia
 split
 ·exact⟨by show T.aq (.node ws::ts)≤_; lia,fun _=>by show T.aq (.node ws::ts)+_≤_; lia,rfl⟩
 ·exact⟨by show T.aq (.node ws::ts)≤_; lia,fun _=>by show T.aq (.node ws::ts)+_≤_; lia,rfl⟩
theorem ajO {st:Std} (h:Hh st):wt (nx st)≤wt st+3 * tZ st:=by
 obtain⟨tx,s⟩:=st
 match tx with
 | [] =>
  show T.aq []+T.aq s≤T.aq []+T.aq s+_
  lia
 | .node []::ts =>
  show T.aq ts+T.aq s≤T.aq (.node []::ts)+T.aq s+_
  rw [T.aA]
  lia
 | .node (w::ws)::ts =>
  have h8:aH w≠8:=h
  obtain⟨b1,b2,b3⟩:=GZ w ws ts s
  have b4:=Lk w s
  have hl:=Cd w
  rw [if_neg h8] at b1
  have hc:tZ (.node (w::ws)::ts,s)=if aH w=2 then (ats s 0).parts else 1:=rfl
  have hp:=T.jw (ats s 0)
  show T.aq (onward (.node (w::ws)::ts) s).1+T.aq (onward (.node (w::ws)::ts) s).2.1≤T.aq (.node (w::ws)::ts)+T.aq s+3 * tZ (.node (w::ws)::ts,s)
  rw [hc,b3]
  by_cases h2:aH w=2
  ·rw [if_pos h2,if_neg (by lia)] at b4
   rw [if_pos h2]
   lia
  ·rw [if_neg h2] at b4
   rw [if_neg h2]
   by_cases h0:aH w=0
   ·have:=b2 h0
    rw [if_pos h0] at b4
    lia
   ·rw [if_neg h0] at b4
    lia
def Wds (M:Nat) (tx:List T):Prop:=∀ t∈tx,∀ w∈t.kids,w.parts≤M
theorem Wds.next {M:Nat}{tx s:List T} (h:Wds M tx):Wds M (onward tx s).1∧T.aq (onward tx s).1≤T.aq tx+M∧T.aq (onward tx s).2.1≤2 * T.aq s+M+4:=by
 match tx with
 | []=>exact⟨h,by show T.aq []≤_; lia,by show T.aq s≤_; lia⟩
 | .node []::ts=>exact⟨fun t ht=>h t (List.mem_cons_of_mem _ ht),by show T.aq ts≤_; rw [T.aA]; lia,by show T.aq s≤_; lia⟩
 | .node (w::ws)::ts =>
  have hw:w.parts≤M:=h _ List.mem_cons_self w List.mem_cons_self
  obtain⟨b1,b2,b3⟩:=GZ w ws ts s
  have b4:=Lk w s
  have hl:=Cd w
  have pa:=Dz s 0
  refine⟨?_,by split at b1 <;> lia,by rw [b3]; split at b4 <;> split at b4 <;> lia⟩
  have hin:∀ {us:List T}{k:Nat}{v:T},v∈w.kids.drop k→v.parts≤M:=fun {us k v} hv=>by
   have:=T.kZ (List.mem_of_mem_drop hv)
   rw [T.dI w] at hw
   lia
  have hws:∀ v∈ws,v.parts≤M:=fun v hv=>h _ List.mem_cons_self v (List.mem_cons_of_mem _ hv)
  have hts:Wds M ts:=fun t ht=>h t (List.mem_cons_of_mem _ ht)
  have U7:∀ {a:T}{us:List T},(∀ v∈a.kids,v.parts≤M)→Wds M us→Wds M (a::us):=fun {a us} ha hus t ht=>by
   rcases List.mem_cons.mp ht with rfl | z
   ·exact ha
   ·exact hus t z
  have hr:Wds M (.node ws::ts):=U7 hws hts
  rw [eY]
  split
  ·split
   ·refine U7 (fun v hv=>?_) hr
    have h1:=Dz (w.kids.drop 1) 0
    have h2:=Ce 1 w.kids
    have h3:=T.kZ hv
    rw [T.dI w] at hw
    rw [T.dI (ats (w.kids.drop 1) 0)] at h1
    lia
   ·exact U7 (fun v hv=>hin (us:=[]) hv) hr
  split
  ·split
   ·exact U7 (fun v hv=>hin (us:=[]) hv) h
   ·exact hr
  split
  ·exact hr
  ·exact hr
end Sw
namespace Sw
def stN:Nat→Std→Std
 | 0,s=>s
 | n+1,s=>nx (stN n s)
theorem lE (n:Nat) (s:Std):stN (n+1) s=stN n (nx s):=by
 induction n with
 | zero=>rfl
 | succ n ih=>show nx (stN (n+1) s)=nx (stN n (nx s)); rw [ih]
theorem Jo (m n:Nat) (s:Std):stN (m+n) s=stN n (stN m s):=by
 induction n with
 | zero=>rfl
 | succ n ih=>show nx (stN (m+n) s)=nx (stN n (stN m s)); rw [ih]
def mJ (a:Nat) (st:Std):Prop:=(T.node st.1).deep≤a∧(T.node st.2).deep≤a
theorem mJ.le {a b:Nat}{st:Std} (h:mJ a st) (hab:a≤b):mJ b st:=⟨Nat.le_trans h.1 hab,Nat.le_trans h.2 hab⟩
theorem afZ {a:Nat}{st:Std} (ha:1≤a) (h:mJ a st):mJ (a+2) (nx st):=by
 obtain⟨h1,h2⟩:=h
 have hb1:(T.node st.1).parts≤(T.node st.1).parts+(T.node st.2).parts:=by lia
 have hb2:(T.node st.2).parts≤(T.node st.1).parts+(T.node st.2).parts:=by lia
 have:=afG (tx:=st.1) (s:=st.2) ha ⟨h1,hb1⟩ ⟨h2,hb2⟩
 exact⟨this.1.1,this.2.1⟩
theorem af0 {a:Nat}{st:Std} (ha:1≤a) (h:mJ a st):∀ n,mJ (a+2 * n) (stN n st)
 | 0=>h
 | n+1=>afZ (a:=a+2 * n) (by lia) (af0 ha h n)
theorem afp (tx s:List T):iH tx s≤wt (tx,s)+1:=by
 have h1:=Dz s 0
 unfold iH
 show _≤T.aq tx+T.aq s+1
 split
 ·lia
 ·rename_i w ws e
  split
  ·lia
  split
  ·have h2:=Cd w
   have h3:w.parts≤T.aq tx+1:=by
    have h4:=Dz tx 0
    rw [T.dI,e,T.aA] at h4
    lia
   lia
  ·lia
theorem afh:(T.node eF).parts+(T.node bN).parts≤4000:=by decide +kernel
theorem RP:(T.node eF).deep≤90∧(T.node bN).deep≤90:=by decide +kernel
end Sw
namespace Sw
def ah9 (st:Std):Prop:=(T.node st.1).deep≤390∧(T.node st.2).deep≤390∧wt st≤7900000
end Sw
namespace Sw
theorem q_ (k:Nat) (ts:List T):T.bR (ts.drop k)≤T.bR ts:=by
 have e:=T.h_ (ts.take k) (ts.drop k)
 rw [List.take_append_drop] at e
 lia
theorem qG (ts:List T) (k:Nat) {a:Nat} (h:T.bR ts≤a):(ats ts k).deep≤a - 1:=by
 by_cases hk:k<ts.length
 ·have:=T.lH (adW hk)
  lia
 ·unfold ats leaf
  rw [List.getElem?_eq_none (by lia),Option.getD_none,T.aP,T.bQ]
  lia
theorem U9 (s:List T) (n:Nat) {a:Nat} (ha:1≤a) (h:T.bR s≤a):T.bR (pad s n)≤a:=by
 unfold pad
 rw [T.h_]
 have:∀ k,T.bR (List.replicate k leaf)≤1:=fun k=>by
  induction k with
  | zero=>rw [List.replicate_zero,T.bQ]; lia
  | succ k ih=>have hl:leaf.deep=0:=by { unfold leaf; rw [T.aP,T.bQ] };rw [List.replicate_succ,T.aN]; lia
 have:=this (n - s.length)
 lia
theorem aft {a:Nat}{w:T}{s:List T} (ha:2≤a) (hw:w.deep+1≤a) (hs:T.bR s≤a):T.bR (behind w s)≤a+1:=by
 have hk:∀ t:T,T.bR t.kids=t.deep:=fun t=>(T.HD t).symm
 have hl:(bL w).deep≤w.deep:=by unfold bL; rw [T.aP,T.HD w]; exact q_ 1 _
 unfold behind
 have p1:=U9 s 1 (by lia) hs
 have p2:=U9 s 2 (by lia) hs
 have p3:=U9 s 3 (by lia) hs
 split
 ·rw [T.aN]; lia
 split
 ·have:=U9 s (many (aH w)) (by lia) hs; lia
 split
 ·have:=q_ 1 (pad s 1); lia
 split
 ·have:=q_ 1 (pad s 1); have:=qG _ 0 p1; rw [T.aN,T.aN]; lia
 split
 ·have:=q_ 2 (pad s 2); have:=qG _ 0 p2; have:=qG _ 1 p2; rw [T.aN,T.aN]; lia
 split
 ·have:=q_ 2 (pad s 2)
  have:=qG _ 0 p2
  have:=qG _ 1 p2
  have:=hk (ats (pad s 2) 1)
  rw [T.aN,T.aP,T.aN]
  lia
 split
 ·have:=q_ 1 (pad s 1)
  have h0:=qG _ 0 p1
  have:=hk (ats (pad s 1) 0)
  have h1:=qG (ats (pad s 1) 0).kids 0 (a:=a - 1) (by lia)
  have:=q_ 1 (ats (pad s 1) 0).kids
  rw [T.aN,T.aN,T.aP]
  lia
 ·have:=q_ 3 (pad s 3)
  have:=qG _ 0 p3
  have:=qG _ 1 p3
  have:=qG _ 2 p3
  rw [T.aN,T.aN,T.aN]
  lia
theorem adA {a:Nat}{st:Std} (ha:4≤a) (h:mJ a st):mJ (a+1) (nx st):=by
 obtain⟨tx,s⟩:=st
 obtain⟨h1,h2⟩:=h
 have h1:(T.node tx).deep≤a:=h1
 have h2:(T.node s).deep≤a:=h2
 rw [T.aP] at h1 h2
 have goal:T.bR (onward tx s).1≤a+1∧T.bR (onward tx s).2.1≤a+1:=by
  match tx with
  | []=>exact⟨by show T.bR []≤_; rw [T.bQ]; lia,by show T.bR s≤_; lia⟩
  | .node []::ts=>exact⟨by show T.bR ts≤_; rw [T.aN] at h1; lia,by show T.bR s≤_; lia⟩
  | .node (w::ws)::ts =>
   rw [T.aN,T.aP,T.aN] at h1
   have hb:T.bR (behind w s)≤a+1:=aft (by lia) (by lia) h2
   have hk:=T.HD w
   have k1:=q_ 1 w.kids
   have k2:=q_ 2 w.kids
   have k3:=qG (w.kids.drop 1) 0 (a:=a) (by lia)
   have hr:T.bR (.node ws::ts)≤a:=by rw [T.aN,T.aP]; lia
   rw [eY]
   split
   ·split
    ·exact⟨by show T.bR (_::.node ws::ts)≤_; rw [T.aN]; lia,hb⟩
    ·exact⟨by show T.bR (_::.node ws::ts)≤_; rw [T.aN,T.aP]; lia,hb⟩
   split
   ·split
    ·refine⟨?_,hb⟩
     show T.bR (bL w::.node (w::ws)::ts)≤_
     unfold bL
     rw [T.aN,T.aP,T.aN,T.aP,T.aN]; lia
    ·exact⟨Nat.le_succ_of_le hr,hb⟩
   split
   ·exact⟨Nat.le_succ_of_le hr,hb⟩
   ·exact⟨Nat.le_succ_of_le hr,hb⟩
 exact⟨by show (T.node (onward tx s).1).deep≤_; rw [T.aP]; exact goal.1,by show (T.node (onward tx s).2.1).deep≤_; rw [T.aP]; exact goal.2⟩
def Way (D W:Nat) (st:Std) (n:Nat) (e:Std):Prop:=∃ c,Wlk st n c e∧n≤110∧mJ (D+(110 - n)) st∧wt st+3 * c≤W
theorem Way.ok {D W n:Nat}{st e:Std} (h:Way D W st n e) (hD:D≤280) (hW:W≤7900000):ah9 st:=by
 obtain⟨c,_,_,hd,hw⟩:=h
 exact⟨by have:=hd.1; lia,by have:=hd.2; lia,by lia⟩
theorem Way.step {D W n:Nat}{st e:Std} (h:Way D W st (n+1) e) (hD:4≤D):st.1≠[]∧Hh st∧Way D W (nx st) n e:=by
 obtain⟨c,g,hn,hd,hw⟩:=h
 cases g with
 | @cons _ _ n2 c2 h1 h2 g =>
  have w2:=ajO h2
  have d:=adA (by lia) hd
  exact⟨h1,h2,c2,g,by lia,d.le (by lia),by lia⟩
theorem Way.at {D W:Nat}{st e:Std} (h:Way D W st 0 e):st=e:=by
 obtain⟨c,g,_⟩:=h
 cases g
 rfl
end Sw
namespace PySem
open Builtin Builtin.Str
section
variable {prog:Program}{w:World}{A:Around}{E:Value→Shared→Prop}{s:Shared}{x:Str}{t:Tok}{Q:Value→Shared→Prop}
theorem aeA (q:∀ (l:List (Str×Tok)) (k:Nat),l.map (·.1)=Txt.words x→Q (.ref s.heap.objs.size) { s with toks:=k,heap:=s.heap.push { cls:=.type "list",data:=.seq (strValues l).toArray } })
  (z1:x.length≤sizeLine) (z2:(spaceWords x (x.length+1)).length≤sizeLine):wpAny (model prog w) A (call (.builtin "str.split") [.str x t]) Q E s:=by
 refine call_meets F.slot_str_split (typeIs_str _ _ _) F.entry_str_split (F.args_str_split_1 _) (meets_str_split_space x t z1 z2) ?_
 cases hw:spaceWords x (x.length+1) == [(0,x.length)]
 ·simp only [Bool.false_eq_true,if_false]; rw [strsFrom_eq]
  exact q (numbered s.toks (wordsOf x)) _ ((numbered_texts _ _).trans (if_neg (ne_true_of_eq_false hw)).symm)
 ·simp only [if_true]; exact q [(x,t)] s.toks (if_pos hw).symm
end
section
variable {prog:Program}{w:World}{A:Around}{E:Value→Shared→Prop}{s:Shared}
theorem aaK:isSubtype (.type "range_iterator") (.type "reversed")=pure false:=by rw [isSubtype_type]; kernel_rfl
def uO:Obj:={ cls:=.type "range_iterator",data:=.fields #[rawInt 7,rawInt 8,rawInt (-1)] }
theorem abD (r:Addr) (t u v:Tok):Meets (Builtin.«range.__reversed__» ⟨[.ref r],[]⟩) (fun _ R s=>IsRange s.heap r 0 8 1 t u v∧R (.ok (.ret (.ref s.heap.objs.size))) { s with heap:=s.heap.push uO }) :=
 .of_wp fun prog w A R s h=>by obtain⟨hp,g,d,tk,os⟩:=s; obtain⟨hl,h⟩:=h; wp_walk; exact⟨_,rfl,h⟩
theorem Ss {r:Addr}{t u v:Tok}{Q₁:Value→Shared→Prop} (hr:IsRange s.heap r 0 8 1 t u v) (h:Q₁ (.ref s.heap.objs.size) { s with heap:=s.heap.push uO }) :
  codeAny (model prog w) A (.call (.builtin "reversed.__new__") ⟨[.type "reversed",.ref r],[]⟩) (wants Q₁ E) s:=by
 have hT:s.TypeIs (.ref r) "range":=⟨_,hr,rfl⟩
 refine codeAny_of_tree (show wpAny _ A.in1 (do checkBuiltinCall "reversed.__new__" ⟨[.type "reversed",.ref r],[]⟩; again (.builtin "reversed.__new__" ⟨[.type "reversed",.ref r],[]⟩)) _ _ s from ?_)
 refine wpAny_bind (wpAny_of_eq (F.newCall_reversed_1 _) (wpAny_pure ⟨plainId_quiet F.plain_reversed_new _,codeAny_builtin F.entry_reversed_new ?_⟩)); rw [Around.under_plainId F.plain_reversed_new _]; unfold Builtin.«reversed.__new__»
 refine wpAny_bind (wpAny_of_eq (newClass_reversed _) ?_); try dsimp only
 refine wpAny_bind (wpAny_of_eq (a:=()) (by first | rfl | kernel_rfl) ?_); refine wpAny_bind (wpAny_of_eq (a:=()) (by first | rfl | kernel_rfl) ?_); try dsimp only
 refine wpAny_bind (wpAny_specialOf hT F.slot_range_reversed.lookup ?_); try dsimp only
 refine wpAny_bind (wpAny_of_eq (F.slot_range_reversed.bind _) ?_); try dsimp only
 first
 | rw [if_neg (show ¬ ((Value.builtin "range.__reversed__" == Value.none)=true) from Bool.false_ne_true)]
 | (show wpAny _ _ (if (Value.builtin "range.__reversed__" == Value.none)=true then _ else _) _ _ _; rw [if_neg (show ¬ ((Value.builtin "range.__reversed__" == Value.none)=true) from Bool.false_ne_true)])
 refine wpAny_bind (wpAny_rule ?_); refine wpAny_bind (m:=runValue (.call (.builtin "range.__reversed__") ⟨[.ref r],[]⟩)) (show wpAny _ _ (call (.builtin "range.__reversed__") [.ref r]) _ _ _ from call_meets F.slot_range_reversed hT F.entry_range_reversed (F.args_range_reversed_1 _) (abD r t u v) ⟨hr,?_⟩)
 first
 | exact wpAny_pure h
 | exact wpAny_bind (wpAny_pure (wpAny_pure h))
theorem Sv {r:Addr}{t u v:Tok}{Q:Value→Shared→Prop} (hr:IsRange s.heap r 0 8 1 t u v) (h:Q (.ref s.heap.objs.size) { s with heap:=s.heap.push uO }) :
  wpAny (model prog w) A (call (.type "reversed") [.ref r]) Q E s:=by
 refine callType_other (U:="range_iterator") (Q₁:=fun obj s₁=>obj=.ref s.heap.objs.size∧s₁={ s with heap:=s.heap.push uO }) (by decide +kernel) F.create_reversed ⟨_,_,F.mro_reversed⟩ F.made_reversed aaK (F.typeCall_reversed_1 _) (Ss hr ⟨rfl,rfl⟩) ?_
 rintro obj s₁ ⟨rfl,rfl⟩
 exact⟨⟨_,Heap.get?_push_size _ rfl,rfl⟩,h⟩
end
end PySem
namespace Sw
open PySem PySem.Spec PyProof.Rows L2 SwR
section
variable {X:Cx}
theorem ZC:∀ {l:List (Str×Tok)}{zs:List Str},l.map (·.1)=zs→Vals (zs.map V.str) (strValues l)
 | [],_,h=>by cases h; exact .nil
 | (z,t)::l,_,h=>by cases h; exact .cons ⟨t,rfl⟩ (ZC rfl)
def agk:V→List V→Hp→VK→Prop:=fun x vs H Q=>∃ z:Str,x=.str z∧vs=[]∧z.length≤1000∧(Builtin.Str.spaceWords z (z.length+1)).length≤1000∧(Txt.words z).length≤1000 ∧
 ∀ D,H D=none→Q (.ref D) (upd H D (.lst ((Txt.words z).map V.str)))
theorem adg:MtM X "str.split" agk:=by
 intro pins s σ H x vs v us Q I rx rv h
 obtain⟨z,rfl,rfl,hl,hw,hw2,q⟩:=h
 obtain⟨t,rfl⟩:=rx
 cases rv
 refine aeA (fun ll k e=>?_) (Nat.le_trans hl (by decide)) (Nat.le_trans hw (by decide))
 have hn:H s.heap.objs.size=none:=I.hok.fresh (Nat.le_refl _)
 have I2:=I.lnew (ys:=(Txt.words z).map V.str) (its:=strValues ll) (t':=k) (ZC e) (by rw [List.length_map]; exact Nat.le_trans hw2 (by decide))
 exact⟨.ref s.heap.objs.size,_,I2,rfl,q _ hn⟩
def Itd:It:=⟨fun i _=>i<8,fun i H x H'=>H'=H∧x=.int (7 - i),fun i _=>8≤i⟩
theorem acr {P:Program}{w:World}{K:PySem.W.Frag}{tg:Expr} (it:Addr):Turn P w K tg Itd [it] it (fun i h=>IsRangeIter h it (7+(i:Nat) * (-1)) ((8:Nat) - (i:Nat)) (-1)) where
 mem:=by simp
 obj:=fun i h st b hb=>by
  have e:b=it:=by simpa using hb
  subst e
  exact⟨_,st,fun v z=>by have z':Data.fields _=Data.cell v:=z; cases z'⟩
 keep:=fun i h h' st k=>k it (by simp) _ st
 item:=by
  intro X hP hw hK hc i pins s σ H E I hf st hg
  subst hP hw hK
  obtain⟨f0,f1,f2,f3,f4,f5⟩:=hf it (by simp)
  have W:=Walks.range (prog:=X.prog) (w:=X.w) (I.ok.hd hc) it 7 (-1) 8
  refine W.item i s _ _ hg st fun v h' tk hv st' kk=>?_
  obtain⟨t,rfl⟩:=hv
  have I1:Inv X pins σ H { s with heap:=h',toks:=tk }:=I.turned (fun b o hb e=>kk b o (by simpa using hb) e) f0 f1 f3 f4 f5
  refine⟨_,rfl,go_of (s:={ s with heap:=h',toks:=tk }) (n:="range_iterator") st' rfl rfl (by decide) ⟨.int (7 - i),H,I1,⟨t,by rw [show (7:Int)+(i:Int) * -1=7 - i by lia]⟩,⟨rfl,rfl⟩,st',fun b hb=>(hf b hb).1⟩⟩
 done:=by
  intro X hP hw hK hc i pins s σ H E I hf st hg
  subst hP hw hK
  obtain⟨f0,f1,f2,f3,f4,f5⟩:=hf it (by simp)
  exact wpAny_pyNext_range_end (I.ok.hd hc) st (by have:8≤i:=hg; lia) fun h' eb=>⟨rfl,I.turned (t':=s.toks) (fun b o hb e=>eb b o hb e) f0 f1 f3 f4 f5⟩
 self:=fun _ _ _ _ _ st h=>wpAny_pyIter_rangeiter st h
def afX (ta:TA):TI:=fun σ H R=>ta σ H fun vs H1=>vs=[.int 8]∧R Itd H1
theorem agy {tg a:Expr}{ta:TA}{p p2 pos pos2:Pos} (hg:Gl X "range") (hm:X.mg "range"=none) (hg2:Gl X "reversed") (hm2:X.mg "reversed"=none) (ha:PA X [a] ta) (hs:starEach [a] X.env=[(false,eval a X.env)]:=by rfl)
  (hs2:starEach [.Call (.Name "range" p) [a] [] pos] X.env=[(false,eval (.Call (.Name "range" p) [a] [] pos) X.env)]:=by rfl) :
  PI X tg (.Call (.Name "reversed" p2) [.Call (.Name "range" p) [a] [] pos] [] pos2) (afX ta):=by
 intro pins s σ H R I h
 refine wpAny_Call_Name_kw (ld_blt I hg2 hm2 Bl ?_)
 refine PyProof.Rows.callWith_type1 ?_ (by rw [hs2]; rfl) (by rfl)
 rw [hs2]
 refine Calls.spliced_cons ?_
 refine Call_ (ld_blt I hg hm boot_range (PyProof.Rows.callWith_type1 (thn (ha pos pins s σ H _ I h) fun us s1 ⟨vs,H1,I1,r1,q1⟩=>?_) hs rfl))
 obtain⟨rfl,q⟩:=q1
 cases r1 with
 | cons r rr =>
  cases rr
  obtain⟨t,rfl⟩:=r
  refine call_range_1 (Calls.spliced_nil ?_)
  generalize Mz:({ s1 with heap:=s1.heap.push { cls:=.type "range",data:=.fields #[.int 0 s1.toks,.int 8 t,.int 1 (s1.toks+1)] },toks:=s1.toks+1+1 }:Shared)=s2
  have I2:Inv X pins σ H1 s2:=by rw [← Mz]; exact I1.kept fun b o e=>Heap.get?_push_of_some _ e
  have hr:IsRange s2.heap s1.heap.objs.size 0 8 1 s1.toks t (s1.toks+1):=by rw [← Mz]; exact Heap.get?_push_size _ rfl
  refine Sv hr ?_
  have hit:IsRangeIter (s2.heap.push uO) s2.heap.objs.size 7 8 (-1):=Heap.get?_push_size _ rfl
  have I3:Inv X pins σ H1 { s2 with heap:=s2.heap.push uO }:=I2.kept (t':=s2.toks) fun b o e=>Heap.get?_push_of_some _ e
  refine wpAny_pyIter_rangeiter (s:={ s2 with heap:=s2.heap.push uO }) hit ?_
  refine⟨s2.heap.objs.size,[s2.heap.objs.size],_,Itd,H1,rfl,I3,acr _,hit,fun b hb=>?_,q⟩
  have e:b=s2.heap.objs.size:=by simpa using hb
  subst e
  exact I2.fpOk (Nat.le_refl _) (I2.hok.fresh (Nat.le_refl _))
theorem ago {tg a:Expr}{ta:TA}{p p2 pos pos2:Pos} (hg:Gl X "range") (hm:X.mg "range"=none) (hg2:Gl X "reversed") (hm2:X.mg "reversed"=none) (ha:QA X [a] ta) (hs:starEach [a] X.env=[(false,eval a X.env)]:=by rfl)
  (hs2:starEach [.Call (.Name "range" p) [a] [] pos] X.env=[(false,eval (.Call (.Name "range" p) [a] [] pos) X.env)]:=by rfl) :
  QI X tg (.Call (.Name "reversed" p2) [.Call (.Name "range" p) [a] [] pos] [] pos2) (afX ta):=⟨agy hg hm hg2 hm2 ha.run hs hs2⟩
theorem afn {g:TG}{tb:TS}{D:Ends}{σ:Sg}{H:Hp} (Pv:Nat→Sg→Hp→Prop) (h0:Pv 0 σ H)
  (hs:∀ i σ H,i<8→Pv i σ H→g (.int (7 - i)) σ H fun σ2 H2=>tb { D with nx:=Pv (i+1),ct:=Pv (i+1),bk:=D.nx } σ2 H2) (hd:∀ σ H,Pv 8 σ H→D.nx σ H) :
  ∃ W:Nat→Nat→Sg→Hp→Prop,(∃ m,W 0 m σ H)∧∀ i m σ H,W i m σ H →
   (Itd.stop i H∧D.nx σ H)∨(Itd.go i H∧∃ N:Sg→Hp→Prop,(∀ σ' H',N σ' H'→∃ m',m'<m∧W (i+1) m' σ' H')∧∀ x H',Itd.yld i H x H'→g x σ H' fun σ2 H2=>tb { D with nx:=N,ct:=N,bk:=D.nx } σ2 H2):=by
 refine⟨fun i m σ H=>m=8 - i∧i≤8∧Pv i σ H,⟨8,rfl,Nat.zero_le _,h0⟩,?_⟩
 rintro i m σ H ⟨rfl,hi,p⟩
 by_cases hlt:i<8
 ·refine .inr ⟨hlt,Pv (i+1),fun σ' H' p'=>⟨8 - (i+1),by lia,rfl,hlt,p'⟩,fun x H' y=>?_⟩
  obtain⟨rfl,rfl⟩:=y
  exact hs i σ _ hlt p
 ·have e:i=8:=by lia
  subst e
  exact .inl ⟨Nat.le_refl _,hd σ H p⟩
def Z1 (K:PySem.W.Frag):V→List V→Hp→VK→Prop:=fun x vs H Q=>∃ (a:Addr) (cs:List Str) (p:Str) (j:Nat),x=.ref a∧vs=[.str p]∧SqT K H a (cs.map V.str)∧cs[j]?=some p∧(∀ m,m<j→cs[m]?≠some p)∧Q (.int (j:Nat)) H
theorem adh:MtM X "tuple.index" (Z1 X.K):=by
 intro pins s σ H x vs v us Q I rx rv h
 obtain⟨a,cs,p,j,rfl,rfl,hq,hj,hn,q⟩:=h
 cases rx
 obtain⟨u,rfl,ru⟩:=rv.one
 obtain⟨its,r,ht,hz⟩:=I.tuple hq
 obtain⟨⟨cls,dd,data,sl⟩,ho,hc,n,hd⟩:=id ht
 simp only at hc hd
 subst hc hd
 have flat:∀ l:List Str,(l.map V.str).all JK=true:=fun l=>by
  rw [List.all_eq_true]; intro y hy
  obtain⟨c,_,rfl⟩:=List.mem_map.mp hy
  rfl
 have hlen:=r.length
 rw [List.length_map] at hlen
 have hjl:j<cs.length:=(List.getElem?_eq_some_iff.mp hj).1
 have at_:∀ m (hm:m<its.toArray.size),eqU (.str p) its.toArray[m]=decide (cs[m]?=some p):=fun m hm=>by
  have hm':m<cs.length:=by rw [List.size_toArray] at hm; lia
  obtain⟨u',e1,ru'⟩:=r.get (i:=m) (x:=.str cs[m]) (by rw [List.getElem?_map,List.getElem?_eq_getElem hm']; rfl)
  have e2:its.toArray[m]=u':=by
   have:=List.getElem?_eq_some_iff.mp e1
   simpa using this.2
  rw [e2,ady ru' rfl,List.getElem?_eq_getElem hm']
  show (cs[m] == p)=_
  by_cases z:cs[m]=p
  ·rw [decide_eq_true (congrArg some z),z]; exact beq_self_eq_true _
  ·rw [decide_eq_false (fun y=>z (Option.some.inj y))]; exact beq_eq_false_iff_ne.mpr z
 have hjs:j<its.toArray.size:=by rw [List.size_toArray]; lia
 refine call_meets F.slot_tuple_index ⟨_,ho,rfl⟩ F.entry_tuple_index (F.args_tuple_index_2 _ _)
  (Yz a its.toArray n dd sl u (eqU (.str p)) j hjs (by rw [at_ j hjs,hj]; exact decide_eq_true rfl) (fun m hm hlt=>by rw [at_ m hm]; exact decide_eq_false (hn m hlt))) ⟨ho,fun y hy=>?_,?_⟩
 ·exact WL ru rfl r (flat cs) y (by simpa using hy)
 ·exact⟨.int (j:Nat),H,I.tok _,⟨_,rfl⟩,q⟩
theorem ahK {K:PySem.W.Frag}{e:Expr}{T:String}{r:V→List V→Hp→VK→Prop}{to:TE}{t:TA} (hK:X.K=K) (h:QE X e (tBM X.K T r to t)):QE X e (tBM K T r to t):=by subst hK; exact h
theorem aa_ {K:PySem.W.Frag} (hK:X.K=K):MtM X "tuple.index" (Z1 K):=by subst hK; exact adh
end
end Sw
namespace Sw
theorem JM {tx s:List T}:tZ (tx,s)=bM tx s:=by
 unfold bM stepT
 match tx with
 | []=>rfl
 | .node []::ts=>rfl
 | .node (w::ws)::ts =>
  have hc:tZ (.node (w::ws)::ts,s)=if aH w=2 then (ats s 0).parts else 1:=rfl
  have hst:(onward (.node (w::ws)::ts) s).2.2=2↔aH w=2:=by
   rw [eY]
   by_cases h7:aH w=7
   ·rw [if_pos h7]; split <;> (constructor <;> intro z <;> (first | cases z | lia))
   rw [if_neg h7]
   by_cases h8:aH w=8
   ·rw [if_pos h8]; split <;> (constructor <;> intro z <;> (first | cases z | lia))
   rw [if_neg h8]
   by_cases h9:aH w=9
   ·rw [if_pos h9]; constructor <;> intro z <;> (first | cases z | lia)
   rw [if_neg h9]
  rw [hc]
  by_cases h2:aH w=2
  ·rw [if_pos h2,if_pos (hst.mpr h2)]
  ·rw [if_neg h2,if_neg (fun z=>h2 (hst.mp z))]
theorem ahm {st e:Std}{n c:Nat} (g:Wlk st n c e) (he:e.1=[]):∀ b,c≤b→(goT b st.1 st.2).1=[]∧(goT b st.1 st.2).2.1=e.2∧spT b st.1 st.2=c:=by
 induction g with
 | nil =>
  intro b _
  rw [mC (.inl he),Jp (.inl he)]
  exact⟨he,rfl,rfl⟩
 | @cons st e n c h1 h2 g ih =>
  intro b hb
  have hc:bM st.1 st.2=tZ st:=(JM (tx:=st.1) (s:=st.2)).symm
  rw [oW h1 (by lia),Jq h1 (by lia)]
  obtain⟨i1,i2,i3⟩:=ih he (b - bM st.1 st.2) (by lia)
  exact⟨i1,i2,by rw [show (onward st.1 st.2).1=(nx st).1 from rfl,show (onward st.1 st.2).2.1=(nx st).2 from rfl,i3]; lia⟩
end Sw
namespace Sw
theorem Z9 {st:Std}{a:Nat} (hd:mJ a st) (ha:a≤390) (hw:wt st≤7900000):BX st.1∧B 390 8000000 (.node st.2):=by
 obtain⟨h1,h2⟩:=hd
 have h3:T.aq st.1+T.aq st.2≤7900000:=hw
 exact⟨BX.of (a:=390) (b:=8000000) ⟨by lia,by rw [T.aK]; lia⟩ (by lia) (by lia),⟨by lia,by rw [T.aK]; lia⟩⟩
theorem Z_ {tx s:List T} (h:ah9 (tx,s)):BX tx∧B 390 8000000 (.node s):=by
 obtain⟨h1,h2,h3⟩:=h
 have h3:T.aq tx+T.aq s≤7900000:=h3
 exact⟨BX.of (a:=390) (b:=8000000) ⟨h1,by rw [T.aK]; lia⟩ (by lia) (by lia),⟨h2,by rw [T.aK]; lia⟩⟩
def pB (t:List T):List T:=bC 0 []::W 4::t
theorem FZ {t cs us x:List T}{n c:Nat}{e:Std} (g:Wlk (.node t::cs,bC 0 x::us) n c e):Wlk (.node (pB t)::cs,.node x::us) (n+2) (c+2) e:=C_ (b_ g)
end Sw
namespace Sw
def evW (ω:Nat→Nat) (st:Std):Nat:=ω (stepT st.1 st.2)+(if stepT st.1 st.2=2 then (ats st.2 0).parts * ω 13 else 0)+(if stepT st.1 st.2=9 then (bL (ats (ats st.1 0).kids 0)).parts * ω 14 else 0)
inductive Wo (ω:Nat→Nat):Std→Nat→Std→Prop where
 | nil {st:Std}:Wo ω st 0 st
 | cons {st e:Std}{τ:Nat}:st.1≠[]→Wo ω (nx st) τ e→Wo ω st (τ+evW ω st) e
theorem Wo.to {ω:Nat→Nat}{st e:Std}{τ τ':Nat} (h:Wo ω st τ e) (e1:τ=τ'):Wo ω st τ' e:=by subst e1; exact h
theorem Wo.trans {ω:Nat→Nat}{a b d:Std}{τ υ:Nat} (h:Wo ω a τ b) (g:Wo ω b υ d):Wo ω a (τ+υ) d:=by
 induction h with
 | nil=>exact g.to (by lia)
 | cons h1 _ ih=>exact (Wo.cons h1 (ih g)).to (by lia)
theorem Wo.one {ω:Nat→Nat}{st e u:Std}{τ k:Nat} (h1:st.1≠[]) (h3:nx st=u) (h4:evW ω st=k) (g:Wo ω u τ e):Wo ω st (τ+k) e:=by
 subst h3; subst h4; exact .cons h1 g
theorem cD {w:T}{ws ts s:List T}:stepT (.node (w::ws)::ts) s=if aH w=7 then (if (ats s 0).kids≠[] then 7 else 8) else if aH w=8 then (if (ats s 0).kids≠[] then 9 else 10) else if aH w=9 then 11 else aH w:=by
 unfold stepT
 rw [eY]
 by_cases h7:aH w=7
 ·rw [if_pos h7,if_pos h7]; split <;> rfl
 rw [if_neg h7,if_neg h7]
 by_cases h8:aH w=8
 ·rw [if_pos h8,if_pos h8]; split <;> rfl
 rw [if_neg h8,if_neg h8]
 split <;> rfl
theorem cQ {ω:Nat→Nat}{w:T}{ws ts s:List T}{k:Nat} (h:stepT (.node (w::ws)::ts) s=k):evW ω (.node (w::ws)::ts,s)=ω k+(if k=2 then (ats s 0).parts * ω 13 else 0)+(if k=9 then (bL w).parts * ω 14 else 0):=by
 subst h; rfl
section
variable {ω:Nat→Nat}{t cs s:List T}{e:Std}{τ:Nat}
theorem afS {us:List T} (g:Wo ω (.node t::cs,.node us::s) τ e):Wo ω (.node (bC 0 us::t)::cs,s) (τ+ω 0) e :=
 .one (by simp) (by rw [g_ (by show 0≤6; decide),Nu rfl]; rfl) ((cQ (k:=0) (by rw [cD]; rfl)).trans rfl) g
theorem lZ {a:T} (g:Wo ω (.node t::cs,s) τ e):Wo ω (.node (W 1::t)::cs,a::s) (τ+ω 1) e :=
 .one (by simp) (by rw [g_ (by decide),abT rfl,dD (by simp)]; rfl) ((cQ (k:=1) (by rw [cD]; rfl)).trans rfl) g
theorem ada {a:T} (g:Wo ω (.node t::cs,a::a::s) τ e):Wo ω (.node (W 2::t)::cs,a::s) (τ+(ω 2+a.parts * ω 13)) e :=
 .one (by simp) (by rw [g_ (by decide),abS rfl,dD (by simp)]; rfl) ((cQ (k:=2) (by rw [cD]; rfl)).trans rfl) g
theorem dR {a b:T} (g:Wo ω (.node t::cs,b::a::s) τ e):Wo ω (.node (W 3::t)::cs,a::b::s) (τ+ω 3) e :=
 .one (by simp) (by rw [g_ (by decide),abR rfl,dD (by simp)]; rfl) ((cQ (k:=3) (by rw [cD]; rfl)).trans rfl) g
theorem cG {a:T}{b:List T} (g:Wo ω (.node t::cs,.node (a::b)::s) τ e):Wo ω (.node (W 4::t)::cs,a::.node b::s) (τ+ω 4) e :=
 .one (by simp) (by rw [g_ (by decide),abQ rfl,dD (by simp)]; rfl) ((cQ (k:=4) (by rw [cD]; rfl)).trans rfl) g
theorem kY {a:List T} (g:Wo ω (.node t::cs,ats a 0::.node (a.drop 1)::s) τ e):Wo ω (.node (W 5::t)::cs,.node a::s) (τ+ω 5) e :=
 .one (by simp) (by rw [g_ (by decide),abP rfl,dD (by simp)]; rfl) ((cQ (k:=5) (by rw [cD]; rfl)).trans rfl) g
theorem iz {a:T}{b:List T} (g:Wo ω (.node t::cs,a::.node b::s) τ e):Wo ω (.node (W 5::t)::cs,.node (a::b)::s) (τ+ω 5) e:=kY g
theorem eO {a b d:T} (g:Wo ω (.node t::cs,d::a::b::s) τ e):Wo ω (.node (W 6::t)::cs,a::b::d::s) (τ+ω 6) e :=
 .one (by simp) (by rw [g_ (by decide),abO rfl,dD (by simp)]; rfl) ((cQ (k:=6) (by rw [cD]; rfl)).trans rfl) g
theorem dF (g:Wo ω (cs,s) τ e):Wo ω (.node []::cs,s) (τ+ω 12) e :=
 .one (by simp) rfl rfl g
theorem zQ {yes no:List T}{a:T} (ha:a.kids≠[]) (g:Wo ω (.node yes::.node t::cs,a::s) τ e):Wo ω (.node (nF yes no::t)::cs,a::s) (τ+ω 7) e :=
 .one (by simp) (by
  unfold nx onward
  simp only [ats,T.kids,List.getElem?_cons_zero,Option.getD_some,List.drop_succ_cons,List.drop_zero]
  rw [if_pos (by rfl),if_pos (by exact ha),oZ (by show 6<7; decide),dD (by show 1≤_; simp)]; rfl) ((cQ (k:=7) (by rw [cD,if_pos (by rfl),if_pos (by exact ha)])).trans rfl) g
theorem Ah {yes no:List T}{a:T} (ha:a.kids=[]) (g:Wo ω (.node no::.node t::cs,a::s) τ e):Wo ω (.node (nF yes no::t)::cs,a::s) (τ+ω 8) e :=
 .one (by simp) (by
  unfold nx onward
  simp only [ats,T.kids,List.getElem?_cons_zero,Option.getD_some,List.drop_succ_cons,List.drop_zero]
  rw [if_pos (by rfl),if_neg (by exact fun z=>z ha),oZ (by show 6<7; decide),dD (by show 1≤_; simp)]; rfl) ((cQ (k:=8) (by rw [cD,if_pos (by rfl),if_neg (by exact fun z=>z ha)])).trans rfl) g
theorem Jy {as:List T} (g:Wo ω (.node t::cs,s) τ e):∀ {k:Nat},as.length=k→Wo ω (.node (Gj k t)::cs,as++s) (τ+k * ω 1) e:=by
 intro k hk
 induction as generalizing k with
 | nil=>cases hk; exact g.to (by simp)
 | cons a as ih=>cases hk; exact (lZ (ih rfl)).to (by rw [List.length_cons,Nat.succ_mul]; lia)
theorem aia {us:List T}{l:T}{w:T}{ts st:List T} (g:Wo ω (.node t::cs,.node (w::ts)::.node (l::st)::us) τ e):Wo ω (.node (aaH t)::cs,l::w::.node ts::.node st::us) (τ+(4 * ω 6+2 * ω 4+ω 3)) e :=
 (eO (eO (cG (eO (eO (cG (dR g))))))).to (by lia)
theorem ae7 {us:List T}{l w:T}{ts st:List T} (g:Wo ω (.node t::cs,ats st 0::.node (st.drop 1)::.node (w::ts)::us) τ e):Wo ω (.node (Qu t)::cs,l::w::.node ts::.node st::us) (τ+(ω 1+ω 4+ω 3+ω 5)) e :=
 (lZ (cG (dR (kY g)))).to (by lia)
theorem U3 {us:List T}{l w:T}{ts st:List T} (g:Wo ω (.node t::cs,ats st 0::.node (st.drop 1)::.node (w::ts)::l::us) τ e):Wo ω (.node (Qt t)::cs,l::w::.node ts::.node st::us) (τ+(3 * ω 6+ω 4+ω 5)) e :=
 (eO (eO (cG (eO (kY g))))).to (by lia)
def wkW (ω:Nat→Nat) (p:Nat):Nat→Nat
 | 1=>ω 1
 | 2=>ω 2+p * ω 13+ω 6+2 * ω 3+2 * ω 4
 | 3=>3 * ω 3+ω 5+ω 6+2 * ω 4
 | 4=>ω 3+ω 5+ω 6+2 * ω 4
 | 5=>ω 5+2 * ω 6+2 * ω 4+ω 3
 | 6=>4 * ω 3+2 * ω 5+2 * ω 6+3 * ω 4
 | _=>0
theorem ae6 {us:List T}{x:T}{st:List T}:∀ {k:Nat},1≤k→k≤6→Wo ω (.node t::cs,.node (mK k st)::x::us) τ e →
  Wo ω (.node (Qs k++t)::cs,ats st 0::.node (st.drop 1)::x::us) (τ+wkW ω (ats st 0).parts k) e:=by
 intro k h1 h6 g
 rcases (by lia:k=1∨k=2∨k=3∨k=4∨k=5∨k=6) with rfl | rfl | rfl | rfl | rfl | rfl
 ·exact lZ g
 ·exact (ada (eO (dR (cG (dR (cG g)))))).to (by show _=τ+(ω 2+(ats st 0).parts * ω 13+ω 6+2 * ω 3+2 * ω 4); lia)
 ·exact (dR (kY (dR (eO (cG (dR (cG (by rw [List.drop_drop]; exact g)))))))).to (by show _=τ+(3 * ω 3+ω 5+ω 6+2 * ω 4); lia)
 ·refine (dR (kY (eO (τ:=τ+ω 4+ω 4) ?_))).to (by show _=τ+(ω 3+ω 5+ω 6+2 * ω 4); lia)
  rw [show ats (st.drop 1) 0=.node (ats (st.drop 1) 0).kids from (gH _).symm]
  exact cG (cG (by rw [List.drop_drop]; exact g))
 ·rw [show ats st 0=.node (ats st 0).kids from (gH _).symm]
  exact (kY (eO (eO (cG (dR (cG g)))))).to (by show _=τ+(ω 5+2 * ω 6+2 * ω 4+ω 3); lia)
 ·exact (dR (kY (dR (kY (dR (eO (cG (eO (cG (dR (cG (by rw [List.drop_drop,List.drop_drop]; exact g)))))))))))).to (by show _=τ+(4 * ω 3+2 * ω 5+2 * ω 6+3 * ω 4); lia)
theorem xG (k:Nat) (g:Wo ω (cs,s) τ e):Wo ω (List.replicate k (.node [])++cs,s) (τ+k * ω 12) e:=by
 induction k with
 | zero=>exact g.to (by simp)
 | succ k ih=>exact (dF ih).to (by rw [Nat.succ_mul]; lia)
theorem Cg {fs:List T}{d:Nat}:∀ {as cs s:List T},Wo ω (.node (cH d)::(List.replicate as.length (.node [])++cs),.node fs::(as.reverse++s)) τ e →
  Wo ω (.node (cH (as.length+d))::cs,.node (as++fs)::s) (τ+as.length * (ω 7+ω 5+ω 3)) e:=by
 intro as
 induction as with
 | nil=>intro cs s g; rw [List.length_nil,Nat.zero_add,Nat.zero_mul]; exact g
 | cons a as ih =>
  intro cs s g
  have g':Wo ω (.node (cH d)::(List.replicate as.length (.node [])++.node []::cs),.node fs::(as.reverse++a::s)) τ e:=by
   rw [Z0]
   rw [List.reverse_cons,List.append_assoc] at g
   exact g
  rw [List.length_cons,show as.length+1+d=as.length+d+1 by lia]
  exact (zQ (yes:=W 5::W 3::cH (as.length+d)) (a:=.node (a::(as++fs))) (by simp [T.kids]) (iz (dR (ih g')))).to (by rw [Nat.succ_mul]; lia)
theorem adb:∀ {as fs s:List T},Wo ω (.node t::cs,.node (as.reverse++fs)::s) τ e→Wo ω (.node (Jm as.length t)::cs,.node fs::(as++s)) (τ+as.length * (ω 3+ω 4)) e:=by
 intro as
 induction as with
 | nil=>intro fs s g; exact g.to (by simp)
 | cons a as ih =>
  intro fs s g
  rw [List.reverse_cons,List.append_assoc] at g
  exact (dR (cG (ih g))).to (by rw [List.length_cons,Nat.succ_mul]; lia)
def Jt (ω:Nat→Nat) (k p b:Nat) (full:Bool):Nat :=
 if k=0 then ω 8+ω 1+(4 * ω 6+2 * ω 4+ω 3)+2 * ω 12
 else if k≤6 then k * (ω 7+ω 5+ω 3)+ω 8+(k+1) * ω 1+(ω 1+ω 4+ω 3+ω 5)+wkW ω p k+ω 3+k * ω 12+2 * ω 12
 else if k=7 then 7 * (ω 7+ω 5+ω 3)+ω 8+8 * ω 1+(3 * ω 6+ω 4+ω 5)+(if full then ω 7+(2 * ω 4+2 * ω 3+ω 6+ω 5+ω 1) else ω 8+(2 * ω 4+ω 3+ω 6+ω 5+ω 1))+10 * ω 12
 else if k=8 then 8 * (ω 7+ω 5+ω 3)+ω 8+8 * (ω 3+ω 4)+ω 4+(3 * ω 6+ω 4+ω 5)+(if full then ω 7+(5 * ω 4+3 * ω 3+4 * ω 6+2 * ω 5+ω 2+b * ω 13) else ω 8+(ω 4+ω 6+ω 1+ω 3))+11 * ω 12
 else 8 * (ω 7+ω 5+ω 3)+ω 7+10 * ω 1+ω 4+10 * ω 12
theorem O_ {us as l xs ts st:List T} (g:Wo ω (cs,.node (resT as l xs ts st).1::.node (resT as l xs ts st).2::us) τ e) :
  Wo ω (.node (cH 8)::cs,.node as::.node l::.node xs::.node ts::.node st::us) (τ+Jt ω as.length (ats st 0).parts (T.node l).parts (decide ((ats st 0).kids≠[]))) e:=by
 unfold Jt
 by_cases h0:as.length=0
 ·have:as=[]:=List.length_eq_zero_iff.mp h0
  subst this
  rw [if_pos h0]
  have g:Wo ω (cs,.node (.node xs::ts)::.node (.node l::st)::us) τ e:=g
  exact (Ah rfl (lZ (aia (dF (dF g))))).to (by lia)
 rw [resT,if_neg h0] at g
 rw [if_neg h0]
 by_cases h6:as.length≤6
 ·rw [if_pos h6] at g ⊢
  have g1:=dF (dF (xG as.length g))
  have g2:=ae6 (k:=as.length) (by lia) h6 (dR g1)
  have g3:=Jy (as:=.node []::as.reverse) (ae7 (l:=.node l) g2) (k:=as.length+1) (by rw [List.length_cons,List.length_reverse])
  have e8:cH 8=cH (as.length+(8 - as.length)):=by rw [show as.length+(8 - as.length)=8 by lia]
  rw [e8,show T.node as=T.node (as++[]) by rw [List.append_nil]]
  refine (Cg (τ:=(τ+as.length * ω 12+ω 12+ω 12+ω 3+wkW ω (ats st 0).parts as.length+(ω 1+ω 4+ω 3+ω 5)+(as.length+1) * ω 1)+ω 8) ?_).to (by lia)
  have e9:cH (8 - as.length)=[nF (W 5::W 3::cH (7 - as.length)) (o7 as.length)]:=by
   rw [show 8 - as.length=(7 - as.length)+1 by lia,cH,show 7 - (7 - as.length)=as.length by lia]
  rw [e9]
  refine Ah rfl ?_
  rw [o7,if_neg h0,if_neg (by lia)]
  exact g3
 rw [if_neg h6] at g ⊢
 by_cases h7:as.length=7
 ·rw [if_pos h7] at g ⊢
  have e8:cH 8=cH (as.length+1):=by rw [h7]
  have e9:cH 1=[nF (W 5::W 3::cH 0) (o7 7)]:=rfl
  by_cases ht:(ats st 0).kids≠[]
  ·rw [if_pos ht] at g
   rw [if_pos (decide_eq_true ht)]
   have g1:=dF (dF (dF (xG as.length g)))
   rw [e8,show T.node as=T.node (as++[]) by rw [List.append_nil]]
   refine (Cg (τ:=(τ+as.length * ω 12+ω 12+ω 12+ω 12+(2 * ω 4+2 * ω 3+ω 6+ω 5+ω 1)+ω 7+(3 * ω 6+ω 4+ω 5)+(7+1) * ω 1)+ω 8) ?_).to (by rw [h7]; lia)
   rw [e9]
   refine Ah rfl ?_
   rw [o7,if_neg (by decide),if_pos rfl]
   exact (Jy (as:=.node []::as.reverse) (U3 (zQ ht (cG (dR (eO (kY (dR (lZ (cG g1))))))))) (k:=7+1) (by rw [List.length_cons,List.length_reverse,h7])).to (by lia)
  ·rw [if_neg ht] at g
   rw [if_neg (by rw [decide_eq_true_eq]; exact ht)]
   have g1:=dF (dF (dF (xG as.length g)))
   rw [e8,show T.node as=T.node (as++[]) by rw [List.append_nil]]
   refine (Cg (τ:=(τ+as.length * ω 12+ω 12+ω 12+ω 12+(2 * ω 4+ω 3+ω 6+ω 5+ω 1)+ω 8+(3 * ω 6+ω 4+ω 5)+(7+1) * ω 1)+ω 8) ?_).to (by rw [h7]; lia)
   rw [e9]
   refine Ah rfl ?_
   rw [o7,if_neg (by decide),if_pos rfl]
   exact (Jy (as:=.node []::as.reverse) (U3 (Ah (Classical.not_not.mp ht) (cG (dR (eO (kY (lZ (cG g1)))))))) (k:=7+1) (by rw [List.length_cons,List.length_reverse,h7])).to (by lia)
 rw [if_neg h7] at g ⊢
 by_cases h8:as.length=8
 ·rw [if_pos h8] at g ⊢
  have e8:cH 8=cH (as.length+0):=by rw [h8]
  have eb:vJ=Jm as.reverse.length (W 4::Qt [nF aaI aaG]):=by rw [List.length_reverse,h8]; rfl
  by_cases ht:(ats st 0).kids≠[]
  ·rw [if_pos ht] at g
   rw [if_pos (decide_eq_true ht)]
   have g1:=dF (dF (dF (xG as.length g)))
   rw [e8,show T.node as=T.node (as++[]) by rw [List.append_nil]]
   refine (Cg (τ:=(τ+as.length * ω 12+ω 12+ω 12+ω 12+(5 * ω 4+3 * ω 3+4 * ω 6+2 * ω 5+ω 2+(T.node l).parts * ω 13)+ω 7+(3 * ω 6+ω 4+ω 5)+ω 4+as.length * (ω 3+ω 4))+ω 8) ?_).to (by rw [h8]; lia)
   refine Ah rfl ?_
   rw [eb]
   refine (adb (τ:=τ+as.length * ω 12+ω 12+ω 12+ω 12+(5 * ω 4+3 * ω 3+4 * ω 6+2 * ω 5+ω 2+(T.node l).parts * ω 13)+ω 7+(3 * ω 6+ω 4+ω 5)+ω 4) ?_).to (by rw [List.length_reverse])
   rw [List.reverse_reverse,List.append_nil]
   exact (cG (U3 (zQ ht (cG (dR (eO (iz (dR (ada (eO (cG (eO (iz (eO (cG (cG (dR (cG g1)))))))))))))))))).to (by lia)
  ·rw [if_neg ht] at g
   rw [if_neg (by rw [decide_eq_true_eq]; exact ht)]
   have g1:=dF (dF (dF (xG as.length g)))
   rw [e8,show T.node as=T.node (as++[]) by rw [List.append_nil]]
   refine (Cg (τ:=(τ+as.length * ω 12+ω 12+ω 12+ω 12+(ω 4+ω 6+ω 1+ω 3)+ω 8+(3 * ω 6+ω 4+ω 5)+ω 4+as.length * (ω 3+ω 4))+ω 8) ?_).to (by rw [h8]; lia)
   refine Ah rfl ?_
   rw [eb]
   refine (adb (τ:=τ+as.length * ω 12+ω 12+ω 12+ω 12+(ω 4+ω 6+ω 1+ω 3)+ω 8+(3 * ω 6+ω 4+ω 5)+ω 4) ?_).to (by rw [List.length_reverse])
   rw [List.reverse_reverse,List.append_nil]
   exact (cG (U3 (Ah (Classical.not_not.mp ht) (cG (eO (lZ (dR g1))))))).to (by lia)
 ·rw [if_neg h8] at g ⊢
  have hl:(as.take 8).length=8:=by rw [List.length_take]; lia
  have g1:=dF (dF (xG 8 g))
  have e8:cH 8=cH ((as.take 8).length+0):=by rw [hl]
  rw [e8,show T.node as=T.node (as.take 8++as.drop 8) by rw [List.take_append_drop]]
  refine (Cg (τ:=(τ+8 * ω 12+ω 12+ω 12+ω 4+10 * ω 1)+ω 7) ?_).to (by rw [hl]; lia)
  rw [hl]
  refine zQ ?_ ?_
  ·show as.drop 8≠[]
   intro z
   have:=congrArg List.length z
   rw [List.length_drop,List.length_nil] at this
   lia
  ·have:=Jy (as:=.node (as.drop 8)::((as.take 8).reverse++[.node l])) (cG g1) (k:=10) (by rw [List.length_cons,List.length_append,List.length_reverse,hl]; rfl)
   rw [List.cons_append,List.append_assoc] at this
   exact this
def aV (ω:Nat→Nat):Nat→Nat
 | 0=>ω 1+ω 3+2 * ω 4+3 * ω 5+4 * ω 6+ω 7+ω 8+ω 9+3 * ω 12+1169 * ω 14
 | 1=>4 * ω 1+3 * ω 3+ω 4+5 * ω 5+2 * ω 7+ω 8+ω 9+4 * ω 12+1169 * ω 14
 | 2=>4 * ω 1+ω 2+6 * ω 3+3 * ω 4+6 * ω 5+ω 6+3 * ω 7+ω 8+ω 9+5 * ω 12+1169 * ω 14
 | 3=>5 * ω 1+8 * ω 3+3 * ω 4+8 * ω 5+ω 6+4 * ω 7+ω 8+ω 9+6 * ω 12+1169 * ω 14
 | 4=>6 * ω 1+7 * ω 3+3 * ω 4+9 * ω 5+ω 6+5 * ω 7+ω 8+ω 9+7 * ω 12+1169 * ω 14
 | 5=>7 * ω 1+8 * ω 3+3 * ω 4+10 * ω 5+2 * ω 6+6 * ω 7+ω 8+ω 9+8 * ω 12+1169 * ω 14
 | 6=>8 * ω 1+12 * ω 3+4 * ω 4+12 * ω 5+2 * ω 6+7 * ω 7+ω 8+ω 9+9 * ω 12+1169 * ω 14
 | 7=>9 * ω 1+9 * ω 3+3 * ω 4+12 * ω 5+4 * ω 6+9 * ω 7+ω 8+ω 9+11 * ω 12+1169 * ω 14
 | 8=>9 * ω 1+8 * ω 3+3 * ω 4+12 * ω 5+4 * ω 6+8 * ω 7+2 * ω 8+ω 9+11 * ω 12+1169 * ω 14
 | 9=>ω 2+19 * ω 3+15 * ω 4+14 * ω 5+7 * ω 6+10 * ω 7+ω 8+ω 9+12 * ω 12+1169 * ω 14
 | 10=>ω 1+17 * ω 3+11 * ω 4+12 * ω 5+4 * ω 6+9 * ω 7+2 * ω 8+ω 9+12 * ω 12+1169 * ω 14
 | 11=>10 * ω 1+8 * ω 3+ω 4+11 * ω 5+10 * ω 7+ω 9+11 * ω 12+1169 * ω 14
 | 12=>ω 1+ω 5+ω 8+ω 9+2 * ω 12+1169 * ω 14
 | 13=>ω 13
 | 14=>ω 13
 | _=>0
theorem wQ:(T.node eF).parts=1169:=by decide +kernel
theorem aby {tx s:List T} (h:tx≠[]):evW ω (.node bN::cs,.node tx::s)=ω 9+1169 * ω 14:=by
 rw [show bN=bC 8 eF::[W 1,W 5,W 3,W 1] from rfl,cQ (k:=9) (by rw [cD,if_neg (by show 8≠7; decide),if_pos (by rfl),if_pos (by exact h)]),if_neg (by decide),if_pos rfl,show bL (bC 8 eF)=.node eF from rfl,wQ]
 lia
theorem ag0 {s:List T}:evW ω (.node bN::cs,.node []::s)=ω 10:=by
 rw [show bN=bC 8 eF::[W 1,W 5,W 3,W 1] from rfl,cQ (k:=10) (by rw [cD,if_neg (by show 8≠7; decide),if_pos (by rfl),if_neg (by exact fun z=>z rfl)])]
 rfl
theorem aaj {as l xs ts st:List T}:evW (aV ω) (.node (.node (.node as::l)::xs)::ts,st)=3 * ω 5+ω 7+Jt ω as.length (ats st 0).parts (T.node l).parts (decide ((ats st 0).kids≠[]))+ω 12+ω 9+1169 * ω 14:=by
 have hs:aH (.node (.node as::l))=min 9 as.length:=rfl
 have hld:bL (.node (.node as::l))=.node l:=rfl
 unfold Jt
 by_cases h0:as.length=0
 ·rw [if_pos h0,cQ (k:=0) (by rw [cD,hs,if_neg (by lia),if_neg (by lia),if_neg (by lia)]; lia)]
  show aV ω 0+0+0=_
  simp only [aV]; lia
 rw [if_neg h0]
 by_cases h6:as.length≤6
 ·rw [if_pos h6]
  rcases (by lia:as.length=1∨as.length=2∨as.length=3∨as.length=4∨as.length=5∨as.length=6) with hk | hk | hk | hk | hk | hk
  ·rw [hk,cQ (k:=1) (by rw [cD,hs,if_neg (by lia),if_neg (by lia),if_neg (by lia)]; lia)]
   show aV ω 1+0+0=_
   simp only [aV,wkW]; lia
  ·rw [hk,cQ (k:=2) (by rw [cD,hs,if_neg (by lia),if_neg (by lia),if_neg (by lia)]; lia)]
   show aV ω 2+(ats st 0).parts * aV ω 13+0=_
   rw [show aV ω 13=ω 13 from rfl]
   simp only [aV,wkW]; lia
  ·rw [hk,cQ (k:=3) (by rw [cD,hs,if_neg (by lia),if_neg (by lia),if_neg (by lia)]; lia)]
   show aV ω 3+0+0=_
   simp only [aV,wkW]; lia
  ·rw [hk,cQ (k:=4) (by rw [cD,hs,if_neg (by lia),if_neg (by lia),if_neg (by lia)]; lia)]
   show aV ω 4+0+0=_
   simp only [aV,wkW]; lia
  ·rw [hk,cQ (k:=5) (by rw [cD,hs,if_neg (by lia),if_neg (by lia),if_neg (by lia)]; lia)]
   show aV ω 5+0+0=_
   simp only [aV,wkW]; lia
  ·rw [hk,cQ (k:=6) (by rw [cD,hs,if_neg (by lia),if_neg (by lia),if_neg (by lia)]; lia)]
   show aV ω 6+0+0=_
   simp only [aV,wkW]; lia
 rw [if_neg h6]
 by_cases h7:as.length=7
 ·rw [if_pos h7]
  by_cases ht:(ats st 0).kids≠[]
  ·rw [if_pos (decide_eq_true ht),cQ (k:=7) (by rw [cD,hs,if_pos (by lia),if_pos ht])]
   show aV ω 7+0+0=_
   simp only [aV]; lia
  ·rw [if_neg (by rw [decide_eq_true_eq]; exact ht),cQ (k:=8) (by rw [cD,hs,if_pos (by lia),if_neg ht])]
   show aV ω 8+0+0=_
   simp only [aV]; lia
 rw [if_neg h7]
 by_cases h8:as.length=8
 ·rw [if_pos h8]
  by_cases ht:(ats st 0).kids≠[]
  ·rw [if_pos (decide_eq_true ht),cQ (k:=9) (by rw [cD,hs,if_neg (by lia),if_pos (by lia),if_pos ht]),hld]
   show aV ω 9+0+(T.node l).parts * aV ω 14=_
   rw [show aV ω 14=ω 13 from rfl]
   simp only [aV]; lia
  ·rw [if_neg (by rw [decide_eq_true_eq]; exact ht),cQ (k:=10) (by rw [cD,hs,if_neg (by lia),if_pos (by lia),if_neg ht])]
   show aV ω 10+0+0=_
   simp only [aV]; lia
 ·rw [if_neg h8,cQ (k:=11) (by rw [cD,hs,if_neg (by lia),if_neg (by lia),if_pos (by lia)])]
  show aV ω 11+0+0=_
  simp only [aV]; lia
theorem o_head {us tx st:List T} (h:tx≠[]) (g:Wo ω (.node bN::cs,.node (onward tx st).1::.node (onward tx st).2.1::us) τ e) :
  Wo ω (.node bN::cs,.node tx::.node st::us) (τ+evW (aV ω) (tx,st)) e:=by
 match tx,h with
 | .node []::ts,h =>
  refine (Wo.one (by simp) (abr h) (aby h) (iz (Ah rfl (lZ (dF (dF g)))))).to ?_
  rw [show evW (aV ω) (.node []::ts,st)=aV ω 12 from rfl]
  simp only [aV]; lia
 | .node (.node []::xs)::ts,h =>
  have hr:=res_none (s:=st) (xs:=xs) (ts:=ts)
  have g2:Wo ω (.node bN::cs,.node (resT [] [] xs ts st).1::.node (resT [] [] xs ts st).2::us) τ e:=by rw [← hr]; exact g
  have g3:=O_ (as:=[]) (l:=[]) (xs:=xs) (ts:=ts) (st:=st) (us:=us) (dF g2)
  refine (Wo.one (by simp) (abr h) (aby h) (iz (zQ (by simp [T.kids]) (iz (kY g3))))).to ?_
  rw [cQ (k:=0) (by rw [cD]; rfl)]
  show _=τ+(aV ω 0+0+0)
  unfold Jt
  rw [if_pos (by rfl)]
  simp only [aV]
  lia
 | .node (.node (.node as::l)::xs)::ts,h =>
  have hr:=V1 (s:=st) (as:=as) (l:=l) (xs:=xs) (ts:=ts)
  have g2:Wo ω (.node bN::cs,.node (resT as l xs ts st).1::.node (resT as l xs ts st).2::us) τ e:=by rw [← hr]; exact g
  have g3:=O_ (as:=as) (l:=l) (xs:=xs) (ts:=ts) (st:=st) (us:=us) (dF g2)
  refine (Wo.one (by simp) (abr h) (aby h) (iz (zQ (by simp [T.kids]) (iz (iz g3))))).to ?_
  rw [aaj]
  lia
theorem agK {st e:Std} (h:Wo (aV ω) st τ e):∀ {us cs:List T},e.1=[]→Wo ω (.node bN::cs,.node st.1::.node st.2::us) (τ+(ω 10+2 * ω 1+ω 5+ω 3+ω 12)) (cs,ats e.2 0::us):=by
 induction h with
 | @nil st =>
  intro us cs he
  rw [he]
  exact (Wo.one (by simp) agX ag0 (lZ (kY (dR (lZ (dF .nil)))))).to (by lia)
 | @cons st e τ h1 _ ih =>
  intro us cs he
  exact (o_head h1 (ih he)).to (by show _=τ+evW (aV ω) (st.1,st.2)+_; lia)
def uW (ω:Nat→Nat):Nat:=2 * ω 0+2 * ω 1+ω 3+2 * ω 4+2 * ω 5+2 * ω 6+ω 10+ω 12
theorem ah_ {x:T}{its us cs s:List T} (h:Wo (aV ω) ([x],[.node its]) τ ([],s)):Wo ω (.node dX::cs,.node (x::its)::us) (τ+uW ω) (cs,ats s 0::us):=by
 have g:=agK (us:=us) (cs:=cs) h rfl
 exact (iz (afS (eO (cG (afS (eO (cG g))))))).to (by unfold uW; lia)
end
def bY (ω:Nat→Nat):Nat→List Nat→Nat
 | _,[]=>0
 | i,n::ns=>n * ω i+bY ω (i+1) ns
theorem JL (ω:Nat→Nat):∀ (ns ms:List Nat) (i:Nat),ns.length=ms.length→bY ω i (eX ns ms)=bY ω i ns+bY ω i ms
 | [],[],_,_=>rfl
 | n::ns,m::ms,i,h=>by
  have ih:=JL ω ns ms (i+1) (by simpa using h)
  show (n+m) * ω i+bY ω (i+1) (eX ns ms)=n * ω i+bY ω (i+1) ns+(m * ω i+bY ω (i+1) ms)
  rw [ih,Nat.add_mul]
  lia
 | [],_::_,_,h=>by simp at h
 | _::_,[],_,h=>by simp at h
theorem Xz (ω:Nat→Nat):bY ω 0 gU=0:=by
 unfold gU
 simp [bY,List.replicate]
theorem adC {ω:Nat→Nat}{tx s:List T}:bY ω 0 (mH tx s)=evW ω (tx,s):=by
 have h12:=wZ (tx:=tx) (s:=s)
 unfold mH evW
 show _=ω (stepT tx s)+(if stepT tx s=2 then (ats s 0).parts * ω 13 else 0)+(if stepT tx s=9 then (bL (ats (ats tx 0).kids 0)).parts * ω 14 else 0)
 generalize stepT tx s=k at *
 generalize (ats s 0).parts=p
 generalize (bL (ats (ats tx 0).kids 0)).parts=b
 by_cases h2:k=2
 ·subst h2
  rw [if_pos rfl,if_pos rfl,if_neg (by decide)]
  simp [ev0,bY,List.replicate,List.set]
 rw [if_neg h2,if_neg h2]
 by_cases h9:k=9
 ·subst h9
  rw [if_pos rfl,if_pos rfl]
  simp [ev0,bY,List.replicate,List.set]
 rw [if_neg h9,if_neg h9]
 rcases (by lia:k=0∨k=1∨k=3∨k=4∨k=5∨k=6∨k=7∨k=8∨k=10∨k=11∨k=12) with rfl | rfl | rfl | rfl | rfl | rfl | rfl | rfl | rfl | rfl | rfl <;> simp [ev0,bY,List.replicate,List.set]
theorem aeh {ω:Nat→Nat}{st e:Std}{τ:Nat} (g:Wo ω st τ e) (he:e.1=[]):∀ b,(goT b st.1 st.2).1=[]→bY ω 0 (goT b st.1 st.2).2.2=τ∧(goT b st.1 st.2).2.1=e.2:=by
 induction g with
 | nil =>
  intro b _
  rw [mC (.inl he)]
  exact⟨Xz ω,rfl⟩
 | @cons st e τ h1 g ih =>
  intro b hb
  by_cases hc:bM st.1 st.2≤b
  ·rw [oW h1 hc] at hb ⊢
   obtain⟨i1,i2⟩:=ih he (b - bM st.1 st.2) hb
   refine⟨?_,i2⟩
   show bY ω 0 (eX _ _)=_
   rw [JL _ _ _ _ (by rw [Hx,yG]),adC]
   have i1:bY ω 0 (goT (b - bM st.1 st.2) (onward st.1 st.2).1 (onward st.1 st.2).2.1).2.2=τ:=i1
   rw [i1]
   show evW ω st+τ=τ+evW ω st
   lia
  ·rw [mC (.inr (by lia))] at hb
   exact absurd hb h1
def cZ:Nat→Nat:=fun i=>if i=2∨i=14 then 0 else 1
theorem MN {st:Std}:evW cZ st=bM st.1 st.2:=by
 have h12:=wZ (tx:=st.1) (s:=st.2)
 unfold evW bM
 generalize stepT st.1 st.2=k at *
 by_cases h2:k=2
 ·subst h2
  rw [if_pos rfl,if_neg (by decide),if_pos rfl]
  show 0+_ * 1+0=_
  lia
 ·rw [if_neg h2,if_neg h2,show cZ k=1 from if_neg (by lia)]
  split
  ·show 1+0+_ * 0=1; lia
  ·rfl
theorem af6 {st e:Std}{c:Nat} (g:Wo cZ st c e) (he:e.1=[]):∀ b,c≤b→(goT b st.1 st.2).1=[]∧spT b st.1 st.2=c:=by
 induction g with
 | nil =>
  intro b _
  rw [mC (.inl he),Jp (.inl he)]
  exact⟨he,rfl⟩
 | @cons st e τ h1 g ih =>
  intro b hb
  rw [MN] at hb ⊢
  rw [oW h1 (by lia),Jq h1 (by lia)]
  obtain⟨i1,i2⟩:=ih he (b - bM st.1 st.2) (by lia)
  exact⟨i1,by rw [show (onward st.1 st.2).1=(nx st).1 from rfl,show (onward st.1 st.2).2.1=(nx st).2 from rfl,i2]; lia⟩
theorem ahl {st e:Std}{c:Nat} (g:Wo cZ st c e):∀ b,b<c→(goT b st.1 st.2).1≠[]:=by
 induction g with
 | nil=>intro b hb; lia
 | @cons st e τ h1 g ih =>
  intro b hb
  rw [MN] at hb
  by_cases hc:bM st.1 st.2≤b
  ·rw [oW h1 hc]
   exact ih (b - bM st.1 st.2) (by lia)
  ·rw [mC (.inr (by lia))]
   exact h1
theorem ajP {ω:Nat→Nat}:∀ b tx s,(goT b tx s).1=[]→Wo ω (tx,s) (bY ω 0 (goT b tx s).2.2) ([],(goT b tx s).2.1):=by
 refine xg (fun b tx s h=>?_) (fun b tx s h1 h2 ih=>?_)
 ·rw [mC h]
  intro he
  have he:tx=[]:=he
  subst he
  exact Wo.nil.to (Xz ω).symm
 ·rw [oW h1 h2]
  intro he
  have g:=Wo.cons (ω:=ω) (st:=(tx,s)) h1 (ih he)
  refine g.to ?_
  show _=bY ω 0 (eX _ _)
  rw [JL _ _ _ _ (by rw [Hx,yG]),adC]
  lia
end Sw
namespace Sw
theorem aei {D W n:Nat}{e:Std} (h4:4≤D) (hD:D≤280) (hW:W≤7900000) (k:∀ b,Sane b e.1 e.2):∀ {st:Std},Way D W st n e→∀ b,Sane b st.1 st.2:=by
 induction n with
 | zero=>intro st h b; rw [h.at]; exact k b
 | succ n ih =>
  intro st h b
  obtain⟨_,_,h'⟩:=h.step h4
  obtain⟨b1,b2⟩:=Z_ (tx:=st.1) (s:=st.2) (h.ok hD hW)
  exact .mk b1 b2 fun _ _=>ih h' _
end Sw
namespace Sw
def xJ:List Nat:=[2,2,0,1,2,2,2,0,0,0,1,0,1,0,0]
def wW:List (List Nat):=[[0,1,0,1,2,3,4,1,1,1,0,0,3,0,1169],
 [0,4,0,3,1,5,0,2,1,1,0,0,4,0,1169],
 [0,4,1,6,3,6,1,3,1,1,0,0,5,0,1169],
 [0,5,0,8,3,8,1,4,1,1,0,0,6,0,1169],
 [0,6,0,7,3,9,1,5,1,1,0,0,7,0,1169],
 [0,7,0,8,3,10,2,6,1,1,0,0,8,0,1169],
 [0,8,0,12,4,12,2,7,1,1,0,0,9,0,1169],
 [0,9,0,9,3,12,4,9,1,1,0,0,11,0,1169],
 [0,9,0,8,3,12,4,8,2,1,0,0,11,0,1169],
 [0,0,1,19,15,14,7,10,1,1,0,0,12,0,1169],
 [0,1,0,17,11,12,4,9,2,1,0,0,12,0,1169],
 [0,10,0,8,1,11,0,10,0,1,0,0,11,0,1169],
 [0,1,0,0,0,1,0,0,1,1,0,0,2,0,1169],
 [0,0,0,0,0,0,0,0,0,0,0,0,0,1,0],
 [0,0,0,0,0,0,0,0,0,0,0,0,0,1,0]]
def Ag:List Nat→List (List Nat)→List Nat→List Nat
 | n::ns,r::rs,acc=>Ag ns rs (acc.zipWith (· + ·) (r.map (n * ·)))
 | _,_,acc=>acc
def turnT (ns:List Nat):List Nat:=Ag ns wW xJ
theorem KD:∀ {ns:List Nat}{rs:List (List Nat)}{acc:List Nat},(∀ r∈rs,r.length=15)→acc.length=15→(Ag ns rs acc).length=15
 | [],_,_,_,h=>by cases ‹List (List Nat)› <;> exact h
 | _::_,[],_,_,h=>h
 | n::ns,r::rs,acc,h,ha=>by
  have hr:=h r List.mem_cons_self
  exact KD (ns:=ns) (rs:=rs) (acc:=acc.zipWith (· + ·) (r.map (n * ·))) (fun r' hr'=>h r' (List.mem_cons_of_mem _ hr')) (by rw [List.length_zipWith,ha,List.length_map,hr]; rfl)
theorem Tv:∀ {i:Nat}{ns:List Nat}{rs:List (List Nat)}{acc:List Nat}{n:Nat}{r:List Nat},ns[i]?=some n→rs[i]?=some r→Ag (ns.take (i+1)) rs acc=(Ag (ns.take i) rs acc).zipWith (· + ·) (r.map (n * ·))
 | 0,n::ns,r::rs,acc,_,_,h1,h2=>by cases h1; cases h2; cases rs <;> rfl
 | i+1,n::ns,r::rs,acc,m,q,h1,h2=>by
  show Ag (ns.take (i+1)) rs _=(Ag (ns.take i) rs _).zipWith (· + ·) _
  exact Tv (by simpa using h1) (by simpa using h2)
theorem Ed:∀ r∈wW,r.length=15:=by decide
theorem ag4:∀ r∈wW,∀ n∈r,n≤100000:=by decide
theorem Ku (ns:List Nat):(turnT ns).length=15:=KD Ed rfl
theorem T4 (ω:Nat→Nat) (n:Nat):∀ (r:List Nat) (i:Nat),bY ω i (r.map (n * ·))=n * bY ω i r
 | [],_=>rfl
 | m::r,i=>by
  show n * m * ω i+bY ω (i+1) (r.map (n * ·))=n * (m * ω i+bY ω (i+1) r)
  rw [T4 ω n r (i+1),Nat.mul_add,Nat.mul_assoc]
def abE (ω:Nat→Nat):List Nat→List (List Nat)→Nat
 | n::ns,r::rs=>n * bY ω 0 r+abE ω ns rs
 | _,_=>0
theorem XC (ω:Nat→Nat):∀ (ns:List Nat) (rs:List (List Nat)) (acc:List Nat),(∀ r∈rs,r.length=15)→acc.length=15→bY ω 0 (Ag ns rs acc)=bY ω 0 acc+abE ω ns rs
 | [],[],_,_,_=>rfl
 | [],_::_,_,_,_=>rfl
 | _::_,[],_,_,_=>rfl
 | n::ns,r::rs,acc,h,ha=>by
  have hr:=h r List.mem_cons_self
  show bY ω 0 (Ag ns rs (eX acc (r.map (n * ·))))=bY ω 0 acc+(n * bY ω 0 r+abE ω ns rs)
  rw [XC ω ns rs _ (fun r' hr'=>h r' (List.mem_cons_of_mem _ hr')) (by unfold eX; rw [List.length_zipWith,ha,List.length_map,hr]; rfl),JL _ _ _ _ (by rw [ha,List.length_map,hr]),T4]
  lia
theorem aj3 (ω:Nat→Nat):bY ω 0 [0,1,0,1,2,3,4,1,1,1,0,0,3,0,1169]=aV ω 0:=by simp only [bY,aV,Nat.reduceAdd]; lia
theorem aj2 (ω:Nat→Nat):bY ω 0 [0,4,0,3,1,5,0,2,1,1,0,0,4,0,1169]=aV ω 1:=by simp only [bY,aV,Nat.reduceAdd]; lia
theorem aj1 (ω:Nat→Nat):bY ω 0 [0,4,1,6,3,6,1,3,1,1,0,0,5,0,1169]=aV ω 2:=by simp only [bY,aV,Nat.reduceAdd]; lia
theorem aj0 (ω:Nat→Nat):bY ω 0 [0,5,0,8,3,8,1,4,1,1,0,0,6,0,1169]=aV ω 3:=by simp only [bY,aV,Nat.reduceAdd]; lia
theorem ajZ (ω:Nat→Nat):bY ω 0 [0,6,0,7,3,9,1,5,1,1,0,0,7,0,1169]=aV ω 4:=by simp only [bY,aV,Nat.reduceAdd]; lia
theorem ajY (ω:Nat→Nat):bY ω 0 [0,7,0,8,3,10,2,6,1,1,0,0,8,0,1169]=aV ω 5:=by simp only [bY,aV,Nat.reduceAdd]; lia
theorem ajX (ω:Nat→Nat):bY ω 0 [0,8,0,12,4,12,2,7,1,1,0,0,9,0,1169]=aV ω 6:=by simp only [bY,aV,Nat.reduceAdd]; lia
theorem ajW (ω:Nat→Nat):bY ω 0 [0,9,0,9,3,12,4,9,1,1,0,0,11,0,1169]=aV ω 7:=by simp only [bY,aV,Nat.reduceAdd]; lia
theorem ajV (ω:Nat→Nat):bY ω 0 [0,9,0,8,3,12,4,8,2,1,0,0,11,0,1169]=aV ω 8:=by simp only [bY,aV,Nat.reduceAdd]; lia
theorem ajU (ω:Nat→Nat):bY ω 0 [0,0,1,19,15,14,7,10,1,1,0,0,12,0,1169]=aV ω 9:=by simp only [bY,aV,Nat.reduceAdd]; lia
theorem ahD (ω:Nat→Nat):bY ω 0 [0,1,0,17,11,12,4,9,2,1,0,0,12,0,1169]=aV ω 10:=by simp only [bY,aV,Nat.reduceAdd]; lia
theorem ahC (ω:Nat→Nat):bY ω 0 [0,10,0,8,1,11,0,10,0,1,0,0,11,0,1169]=aV ω 11:=by simp only [bY,aV,Nat.reduceAdd]; lia
theorem ahB (ω:Nat→Nat):bY ω 0 [0,1,0,0,0,1,0,0,1,1,0,0,2,0,1169]=aV ω 12:=by simp only [bY,aV,Nat.reduceAdd]; lia
theorem ahA (ω:Nat→Nat):bY ω 0 [0,0,0,0,0,0,0,0,0,0,0,0,0,1,0]=aV ω 13:=by simp only [bY,aV,Nat.reduceAdd]; lia
theorem ajT (ω:Nat→Nat):bY ω 0 xJ=uW ω:=by simp only [bY,xJ,uW,Nat.reduceAdd]; lia
theorem afr (ω:Nat→Nat) {ns:List Nat} (h:ns.length=15):bY ω 0 (turnT ns)=bY (aV ω) 0 ns+uW ω:=by
 unfold turnT
 rw [XC ω ns wW xJ Ed rfl,ajT]
 match ns,h with
 | [a0,a1,a2,a3,a4,a5,a6,a7,a8,a9,a10,a11,a12,a13,a14],_ =>
  unfold wW
  simp only [abE,aj3,aj2,aj1,aj0,ajZ,ajY,ajX,ajW,ajV,ajU,ahD,ahC,ahB,ahA]
  simp only [bY,Nat.reduceAdd]
  rw [show aV ω 14=aV ω 13 from rfl]
  lia
theorem adG {ns:List Nat} (h:ns.length=15):nO ns=((bY cZ 0 ns:Nat):Int):=by
 match ns,h with
 | [a0,a1,a2,a3,a4,a5,a6,a7,a8,a9,a10,a11,a12,a13,a14],_ =>
  simp only [nO,bY,cZ,List.take_succ_cons,List.take_zero,List.map_cons,List.map_nil,List.sum_cons,List.sum_nil,List.getD_cons_succ,List.getD_cons_zero]
  simp
  lia
end Sw
namespace Sw
section
variable {ω:Nat→Nat}{r cs us:List T}{e:Std}{τ:Nat}
theorem JH (r:List T):bN++r=bC 8 eF::([W 1,W 5,W 3,W 1]++r):=rfl
theorem Hu {tx s:List T} (h:tx≠[]):nx (.node (bN++r)::cs,.node tx::s)=(.node eF::.node (bN++r)::cs,.node tx::s):=by
 unfold nx
 rw [JH,eY,if_neg (by show 8≠7; decide),if_pos (by rfl),if_pos (by exact h),oZ (by show 6<8; decide),dD (by show 1≤_; simp)]
 rfl
theorem Xi {s:List T}:nx (.node (bN++r)::cs,.node []::s)=(.node ([W 1,W 5,W 3,W 1]++r)::cs,.node []::s):=by
 unfold nx
 rw [JH,eY,if_neg (by show 8≠7; decide),if_pos (by rfl),if_neg (by exact fun z=>z rfl),oZ (by show 6<8; decide),dD (by show 1≤_; simp)]
theorem Xn {tx s:List T} (h:tx≠[]):evW ω (.node (bN++r)::cs,.node tx::s)=ω 9+1169 * ω 14:=by
 rw [JH,cQ (k:=9) (by rw [cD,if_neg (by show 8≠7; decide),if_pos (by rfl),if_pos (by exact h)]),if_neg (by decide),if_pos rfl,show bL (bC 8 eF)=.node eF from rfl,wQ]
 lia
theorem afq {s:List T}:evW ω (.node (bN++r)::cs,.node []::s)=ω 10:=by
 rw [JH,cQ (k:=10) (by rw [cD,if_neg (by show 8≠7; decide),if_pos (by rfl),if_neg (by exact fun z=>z rfl)])]
 rfl
theorem aac {tx st:List T} (h:tx≠[]) (g:Wo ω (.node (bN++r)::cs,.node (onward tx st).1::.node (onward tx st).2.1::us) τ e) :
  Wo ω (.node (bN++r)::cs,.node tx::.node st::us) (τ+evW (aV ω) (tx,st)) e:=by
 match tx,h with
 | .node []::ts,h =>
  refine (Wo.one (by simp) (Hu h) (Xn h) (iz (Ah rfl (lZ (dF (dF g)))))).to ?_
  rw [show evW (aV ω) (.node []::ts,st)=aV ω 12 from rfl]
  simp only [aV]; lia
 | .node (.node []::xs)::ts,h =>
  have hr:=res_none (s:=st) (xs:=xs) (ts:=ts)
  have g2:Wo ω (.node (bN++r)::cs,.node (resT [] [] xs ts st).1::.node (resT [] [] xs ts st).2::us) τ e:=by rw [← hr]; exact g
  have g3:=O_ (as:=[]) (l:=[]) (xs:=xs) (ts:=ts) (st:=st) (us:=us) (dF g2)
  refine (Wo.one (by simp) (Hu h) (Xn h) (iz (zQ (by simp [T.kids]) (iz (kY g3))))).to ?_
  rw [cQ (k:=0) (by rw [cD]; rfl)]
  show _=τ+(aV ω 0+0+0)
  unfold Jt
  rw [if_pos (by rfl)]
  simp only [aV]
  lia
 | .node (.node (.node as::l)::xs)::ts,h =>
  have hr:=V1 (s:=st) (as:=as) (l:=l) (xs:=xs) (ts:=ts)
  have g2:Wo ω (.node (bN++r)::cs,.node (resT as l xs ts st).1::.node (resT as l xs ts st).2::us) τ e:=by rw [← hr]; exact g
  have g3:=O_ (as:=as) (l:=l) (xs:=xs) (ts:=ts) (st:=st) (us:=us) (dF g2)
  refine (Wo.one (by simp) (Hu h) (Xn h) (iz (zQ (by simp [T.kids]) (iz (iz g3))))).to ?_
  rw [aaj]
  lia
theorem Wx {st e':Std}{υ:Nat} (h:Wo (aV ω) st τ e'):∀ {us cs:List T},e'.1=[]→Wo ω (.node r::cs,ats e'.2 0::us) υ e→Wo ω (.node (bN++r)::cs,.node st.1::.node st.2::us) (υ+(τ+(ω 10+2 * ω 1+ω 5+ω 3))) e:=by
 induction h with
 | @nil st =>
  intro us cs he g
  rw [he]
  exact (Wo.one (by simp) Xi afq (lZ (kY (dR (lZ g))))).to (by lia)
 | @cons st e' τ h1 _ ih =>
  intro us cs he g
  exact (aac h1 (ih he g)).to (by show _=υ+(τ+evW (aV ω) (st.1,st.2)+_); lia)
end
def In (a w:Nat) (st:Std):Prop:=mJ a st∧wt st≤w
def gO (r cs us:List T) (d:Std):Std:=(.node (bN++r)::cs,.node d.1::.node d.2::us)
theorem Vh {top:T}{cs us tx st:List T} (h:tx≠[]):∃ n c,n≤110∧c≤110+iH tx st ∧
  Wlk (.node eF::top::cs,.node tx::.node st::us) n c (top::cs,.node (onward tx st).1::.node (onward tx st).2.1::us):=by
 match tx,h with
 | .node []::ts,_=>exact⟨5,5,by decide,by show 5≤110+0; decide,i_ (CZ rfl (ou (dO (dO .nil))))⟩
 | .node (.node []::xs)::ts,_ =>
  have hr:=res_none (s:=st) (xs:=xs) (ts:=ts)
  obtain⟨m,d,hm,_,hd,g⟩:=acj (as:=[]) (l:=[]) (xs:=xs) (ts:=ts) (st:=st) (us:=us) (dO (Wlk.nil (st:=(top::cs,.node (resT [] [] xs ts st).1::.node (resT [] [] xs ts st).2::us))))
  rw [← hr] at g
  refine⟨0+1+m+4,0+1+d+4,by lia,by rw [if_neg (by decide),if_neg (by simp)] at hd; lia,?_⟩
  exact i_ (Jj (by simp [T.kids]) (i_ (oh g)))
 | .node (.node (.node as::l)::xs)::ts,_ =>
  have hr:=V1 (s:=st) (as:=as) (l:=l) (xs:=xs) (ts:=ts)
  obtain⟨m,d,hm,hlow,hd,g⟩:=acj (as:=as) (l:=l) (xs:=xs) (ts:=ts) (st:=st) (us:=us) (dO (Wlk.nil (st:=(top::cs,.node (resT as l xs ts st).1::.node (resT as l xs ts st).2::us))))
  rw [← hr] at g
  refine⟨0+1+m+4,0+1+d+4,by lia,?_,i_ (Jj (by simp [T.kids]) (i_ (i_ g)))⟩
  have hx:iH (.node (.node (.node as::l)::xs)::ts) st=if as.length=2 then (ats st 0).parts else if as.length=8∧(ats st 0).kids≠[] then (T.node l).parts else 0:=by
   have hs:aH (.node (.node as::l))=min 9 as.length:=rfl
   rw [show iH (.node (.node (.node as::l)::xs)::ts) st=if aH (.node (.node as::l))=2 then (ats st 0).parts else if aH (.node (.node as::l))=8∧(ats st 0).kids≠[] then (bL (.node (.node as::l))).parts else 0 from rfl,hs]
   by_cases h2:as.length=2
   ·rw [if_pos h2,if_pos (by lia)]
   ·rw [if_neg h2,if_neg (by lia)]
    by_cases h8:as.length=8
    ·by_cases ht:(ats st 0).kids≠[]
     ·rw [if_pos ⟨by lia,ht⟩,if_pos ⟨by lia,ht⟩]; rfl
     ·rw [if_neg (fun z=>ht z.2),if_neg (fun z=>ht z.2)]
    ·rw [if_neg (fun z=>h8 (by have:=z.1; lia)),if_neg (fun z=>h8 (by have:=z.1; lia))]
  rw [hx]
  by_cases h2:as.length=2
  ·rw [if_pos h2,if_neg (by lia)] at hd
   rw [if_pos h2]
   lia
  ·rw [if_neg h2] at hd
   rw [if_neg h2]
   lia
theorem xQ {st e:Std}{n c a w:Nat} (g:Wlk st n c e) (h:In a w st) (h4:4≤a) (hn:n≤110) (ha:a≤280) (hw:w+3 * c≤7900000) (k:∀ b,Sane b e.1 e.2):∀ b,Sane b st.1 st.2 :=
 aei (D:=a) (W:=w+3 * c) h4 ha hw k ⟨c,g,hn,h.1.le (by lia),by have:=h.2; lia⟩
theorem okIn {st:Std}{a w:Nat} (h:In a w st) (ha:a≤390) (hw:w≤7900000):BX st.1∧B 390 8000000 (.node st.2):=Z9 h.1 ha (Nat.le_trans h.2 hw)
theorem JG {a w w1:Nat}{r cs us:List T}{d:Std} (hd:In a w d) (hc:In a w1 (.node (bN++r)::cs,us)):In (a+1) (w+w1+2) (gO r cs us d):=by
 obtain⟨⟨h1,h2⟩,h3⟩:=hd
 obtain⟨⟨h4,h5⟩,h6⟩:=hc
 have h3:T.aq d.1+T.aq d.2≤w:=h3
 have h4:(T.node (.node (bN++r)::cs)).deep≤a:=h4
 have h5:(T.node us).deep≤a:=h5
 have h6:T.aq (.node (bN++r)::cs)+T.aq us≤w1:=h6
 rw [T.aP] at h5
 refine⟨⟨by show (T.node (.node (bN++r)::cs)).deep≤a+1; lia,?_⟩,?_⟩
 ·show (T.node (.node d.1::.node d.2::us)).deep≤a+1
  rw [T.aP,T.aN,T.aN]; lia
 ·show T.aq (.node (bN++r)::cs)+T.aq (.node d.1::.node d.2::us)≤_
  rw [T.aA (.node d.1),T.aA (.node d.2),T.aK,T.aK]; lia
theorem Kl {r cs us:List T}{a w w1 X:Nat} (ha:a≤270) (h92:92≤a) (hX:w+w1+3 * X+3000≤7900000) (hc:In a w1 (.node (bN++r)::cs,us)):∀ {N:Nat}{d:Std},(∀ i,i≤N→In a w (stN i d)∧iH (stN i d).1 (stN i d).2≤X)→(stN N d).1=[] →
  (∀ i,i≤N→(stN i d).1=[]→∀ b,Sane b (.node r::cs) (ats (stN i d).2 0::us))→∀ b,Sane b (gO r cs us d).1 (gO r cs us d).2:=by
 have hsp:(T.node eF).deep≤90:=RP.1
 have hr:(T.node r).deep≤a:=by
  have:=hc.1.1
  have:(T.node (.node (bN++r)::cs)).deep≤a:=this
  rw [T.aP,T.aN,T.aP,T.h_] at this
  rw [T.aP]; lia
 have aiM:∀ {d:Std},In a w d→d.1=[]→(∀ b,Sane b (.node r::cs) (ats d.2 0::us))→∀ b,Sane b (gO r cs us d).1 (gO r cs us d).2:=by
  intro d hd he k b
  have hi:=JG hd hc
  obtain⟨b1,b2⟩:=okIn hi (by lia) (by lia)
  refine .mk b1 b2 fun _ _=>?_
  have en:nx (gO r cs us d)=(.node ([W 1,W 5,W 3,W 1]++r)::cs,.node []::.node d.2::us):=by
   show nx (.node (bN++r)::cs,.node d.1::.node d.2::us)=_
   rw [he]; exact Xi
  have g:Wlk (nx (gO r cs us d)) 4 4 (.node r::cs,ats d.2 0::us):=by
   rw [en]; exact ou (oh (cM (ou .nil)))
  refine xQ (a:=a+2) (w:=w+w1+200) g ?_ (by lia) (by lia) (by lia) (by lia) k _
  obtain⟨⟨q1,q2⟩,q3⟩:=hi
  have q1:(T.node (.node (bN++r)::cs)).deep≤a+1:=q1
  have q2:(T.node (.node d.1::.node d.2::us)).deep≤a+1:=q2
  have q3:T.aq (.node (bN++r)::cs)+T.aq (.node d.1::.node d.2::us)≤w+w1+2:=q3
  rw [he] at q2 q3
  have p4:T.aq [W 1,W 5,W 3,W 1]≤20:=by decide +kernel
  have d4:T.bR [W 1,W 5,W 3,W 1]≤10:=by decide +kernel
  rw [en]
  refine⟨⟨?_,by show (T.node (.node []::.node d.2::us)).deep≤a+2; lia⟩,?_⟩
  ·show (T.node (.node ([W 1,W 5,W 3,W 1]++r)::cs)).deep≤a+2
   rw [T.aP,T.aN,T.aP,T.h_]
   rw [T.aP,T.aN,T.aP,T.h_] at q1
   lia
  ·show T.aq (.node ([W 1,W 5,W 3,W 1]++r)::cs)+T.aq (.node []::.node d.2::us)≤_
   rw [T.aA (.node (bN++r)),T.aK,T.cL] at q3
   rw [T.aA (.node ([W 1,W 5,W 3,W 1]++r)),T.aK,T.cL]
   lia
 intro N
 induction N with
 | zero =>
  intro d h he k
  exact aiM (h 0 (Nat.le_refl _)).1 he (k 0 (Nat.le_refl _) he)
 | succ N ih =>
  intro d h he k b
  by_cases h1:d.1=[]
  ·exact aiM (h 0 (Nat.zero_le _)).1 h1 (k 0 (Nat.zero_le _) h1) b
  ·obtain⟨hd,hx⟩:=h 0 (Nat.zero_le _)
   have hd:In a w d:=hd
   have hx:iH d.1 d.2≤X:=hx
   have hi:=JG hd hc
   obtain⟨b1,b2⟩:=okIn hi (by lia) (by lia)
   refine .mk b1 b2 fun _ _=>?_
   have en:nx (gO r cs us d)=(.node eF::.node (bN++r)::cs,.node d.1::.node d.2::us):=Hu h1
   obtain⟨n,c,hn,hcc,g⟩:=Vh (top:=.node (bN++r)) (cs:=cs) (us:=us) (st:=d.2) h1
   rw [← en] at g
   refine xQ (a:=a+2) (w:=w+w1+1200) g ?_ (by lia) hn (by lia) (by lia) (ih (d:=nx d) (fun i hi=>?_) ?_ (fun i hi=>?_)) _
   ·obtain⟨⟨q1,q2⟩,q3⟩:=hi
    have q1:(T.node (.node (bN++r)::cs)).deep≤a+1:=q1
    have q2:(T.node (.node d.1::.node d.2::us)).deep≤a+1:=q2
    have q3:T.aq (.node (bN++r)::cs)+T.aq (.node d.1::.node d.2::us)≤w+w1+2:=q3
    rw [en]
    refine⟨⟨?_,by show (T.node (.node d.1::.node d.2::us)).deep≤a+2; lia⟩,?_⟩
    ·show (T.node (.node eF::.node (bN++r)::cs)).deep≤a+2
     rw [T.aP,T.aN]
     rw [T.aP] at q1
     lia
    ·show T.aq (.node eF::.node (bN++r)::cs)+T.aq (.node d.1::.node d.2::us)≤_
     rw [T.aA (.node eF),wQ]
     lia
   ·have:=h (i+1) (by lia)
    rw [lE] at this
    exact this
   ·rw [lE] at he
    exact he
   ·have:=k (i+1) (by lia)
    rw [lE] at this
    exact this
end Sw
namespace Sw
section
variable {ω:Nat→Nat}{t cs us:List T}{e:Std}{τ:Nat}
end
theorem Qw:∀ (k:Nat) {st:Std},st.1=[]→stN k st=st
 | 0,_,_=>rfl
 | k+1,st,h=>by
  rw [lE,show nx st=st from ?_]
  ·exact Qw k h
  ·obtain⟨tx,s⟩:=st
   have h:tx=[]:=h
   subst h
   rfl
theorem abw {M:Nat}{tx s:List T} (h:Wds M tx) (hne:tx≠[]):iH tx s≤bM tx s+M:=by
 rw [← JM]
 match tx,hne with
 | .node []::ts,_=>show 0≤_; lia
 | .node (w::ws)::ts,_ =>
  have hw:w.parts≤M:=h _ List.mem_cons_self w List.mem_cons_self
  have hl:=Cd w
  have hc:tZ (.node (w::ws)::ts,s)=if aH w=2 then (ats s 0).parts else 1:=rfl
  have hx:iH (.node (w::ws)::ts) s=if aH w=2 then (ats s 0).parts else if aH w=8∧(ats s 0).kids≠[] then (bL w).parts else 0:=rfl
  rw [hc,hx]
  split
  ·lia
  ·split <;> lia
theorem Od {M:Nat}{tx s:List T} (h:Wds M tx):T.aq (onward tx s).2.1≤T.aq s+bM tx s+(M+3):=by
 match tx with
 | []=>show T.aq s≤_; lia
 | .node []::ts=>show T.aq s≤_; lia
 | .node (w::ws)::ts =>
  have hw:w.parts≤M:=h _ List.mem_cons_self w List.mem_cons_self
  have hl:=Cd w
  rw [(GZ w ws ts s).2.2,← JM]
  have hc:tZ (.node (w::ws)::ts,s)=if aH w=2 then (ats s 0).parts else 1:=rfl
  rw [hc]
  have hb:=Lk w s
  split at hb <;> split at hb <;> split <;> lia
theorem aeI {M:Nat}:∀ b tx s,(goT b tx s).1=[]→Wds M tx→∃ N,N≤b∧stN N (tx,s)=([],(goT b tx s).2.1) ∧
  ∀ i,i≤N→Wds M (stN i (tx,s)).1∧T.aq (stN i (tx,s)).1≤T.aq tx+i * M∧T.aq (stN i (tx,s)).2≤T.aq s+b+i * (M+3)∧iH (stN i (tx,s)).1 (stN i (tx,s)).2≤b+M:=by
 refine xg (fun b tx s h=>?_) (fun b tx s h1 h2 ih=>?_)
 ·intro he hM
  rw [mC h] at he ⊢
  have he:tx=[]:=he
  subst he
  refine⟨0,Nat.zero_le _,rfl,fun i hi=>?_⟩
  have:i=0:=by lia
  subst this
  exact⟨hM,by show T.aq []≤_; lia,by show T.aq s≤_; lia,by show 0≤_; lia⟩
 ·intro he hM
  rw [oW h1 h2] at he ⊢
  obtain⟨g1,g2,_⟩:=hM.next (s:=s)
  have g3:=Od hM (s:=s)
  have hc:=qg tx s
  obtain⟨N,hN,hst,hb⟩:=ih he g1
  refine⟨N+1,by lia,by rw [lE]; exact hst,fun i hi=>?_⟩
  cases i with
  | zero=>exact⟨hM,by show T.aq tx≤_; lia,by show T.aq s≤_; lia,by have:=abw hM h1 (s:=s); show iH tx s≤_; lia⟩
  | succ i =>
   obtain⟨q1,q2,q3,q4⟩:=hb i (by lia)
   rw [lE]
   have e1:(i+1) * M=i * M+M:=Nat.succ_mul _ _
   have e2:(i+1) * (M+3)=i * (M+3)+(M+3):=Nat.succ_mul _ _
   exact⟨q1,Nat.le_trans q2 (by lia),Nat.le_trans q3 (by lia),Nat.le_trans q4 (by lia)⟩
theorem Ql {r cs us:List T}{x:T}{its:List T}:Wlk (.node (dX++r)::cs,.node (x::its)::us) 7 7 (gO r cs us ([x],[.node its])) :=
 i_ (C_ (eG (b_ (C_ (eG (b_ .nil))))))
theorem Dk:(T.node (dX++(W 4::dX))).deep≤90∧(T.node (dX++(W 4::dX))).parts≤6000∧(T.node (bN++(W 4::dX))).deep≤90∧(T.node (bN++(W 4::dX))).parts≤6000∧(T.node (W 4::dX)).deep≤90∧(T.node (W 4::dX)).parts≤6000:=by decide +kernel
theorem In.mk1 {a w:Nat}{c s:List T} (h1:T.bR c≤a) (h2:T.bR s≤a) (h3:T.aq c+T.aq s≤w):In a w (c,s):=⟨⟨by show (T.node c).deep≤a; rw [T.aP]; exact h1,by show (T.node s).deep≤a; rw [T.aP]; exact h2⟩,h3⟩
end Sw
namespace Sw
theorem Kh {M:Nat}:∀ b tx s,∀ a u v,1≤a→mJ a (tx,s)→a+2 * b≤390→Wds M tx→T.aq tx≤u→T.aq s≤v→u+b * M+(v+b+b * (M+3))≤7900000→Sane b tx s:=by
 have bnd:∀ (b:Nat) (tx s:List T) (a u v:Nat),mJ a (tx,s)→a+2 * b≤390→T.aq tx≤u→T.aq s≤v→u+b * M+(v+b+b * (M+3))≤7900000→BX tx∧B 390 8000000 (.node s):=fun b tx s a u v hd ha hu hv hb =>
  Z9 (st:=(tx,s)) hd (by lia) (by show T.aq tx+T.aq s≤_; lia)
 refine xg (fun b tx s h a u v h1 hd ha hM hu hv hb=>?_) (fun b tx s h1 h2 ih a u v ha1 hd ha hM hu hv hb=>?_)
 ·obtain⟨b1,b2⟩:=bnd b tx s a u v hd ha hu hv hb
  exact .mk b1 b2 fun z1 z2=>by
   rcases h with h | h
   ·exact absurd h z1
   ·lia
 ·obtain⟨b1,b2⟩:=bnd b tx s a u v hd ha hu hv hb
  obtain⟨g1,g2,_⟩:=hM.next (s:=s)
  have g3:=Od hM (s:=s)
  have hc:=qg tx s
  refine .mk b1 b2 fun _ _=>?_
  obtain⟨c,hcb⟩:∃ c,b=c+bM tx s:=⟨b - bM tx s,by lia⟩
  have ec:b - bM tx s=c:=by lia
  rw [ec] at ih ⊢
  have e1:(c+1) * M≤b * M:=Nat.mul_le_mul_right M (by lia)
  have e2:(c+1) * (M+3)≤b * (M+3):=Nat.mul_le_mul_right _ (by lia)
  rw [Nat.succ_mul] at e1 e2
  exact ih (a+2) (u+M) (v+bM tx s+(M+3)) (by lia) (afZ (st:=(tx,s)) ha1 hd) (by lia) g1 (by lia) (by lia) (by lia)
theorem Xj {b:Nat}{tx s:List T} (he:(goT b tx s).1=[]):∀ ω,Wo ω (tx,s) (bY ω 0 (goT b tx s).2.2) ([],(goT b tx s).2.1):=fun ω=>ajP b tx s he
end Sw
namespace Sw
theorem ach {D W n B:Nat}{e:Std} (h4:4≤D) (hD:D≤280) (hW:W≤7900000) (k:∀ b,b≤B→Sane b e.1 e.2):∀ {st:Std},Way D W st n e→∀ b,b≤B→Sane b st.1 st.2:=by
 induction n with
 | zero=>intro st h b hb; rw [h.at]; exact k b hb
 | succ n ih =>
  intro st h b hb
  obtain⟨_,_,h'⟩:=h.step h4
  obtain⟨b1,b2⟩:=Z_ (tx:=st.1) (s:=st.2) (h.ok hD hW)
  exact .mk b1 b2 fun _ _=>ih h' _ (by lia)
theorem acg {st e:Std}{n c a w B:Nat} (g:Wlk st n c e) (h:In a w st) (h4:4≤a) (hn:n≤110) (ha:a≤280) (hw:w+3 * c≤7900000) (k:∀ b,b≤B→Sane b e.1 e.2):∀ b,b≤B→Sane b st.1 st.2 :=
 ach (D:=a) (W:=w+3 * c) h4 ha hw k ⟨c,g,hn,h.1.le (by lia),by have:=h.2; lia⟩
def vg (a w X:Nat) (d:Std):Prop:=∀ i,(stN i d).1≠[]∧In a w (stN i d)∧iH (stN i d).1 (stN i d).2≤X
theorem vg.next {a w X:Nat}{d:Std} (h:vg a w X d):vg a w X (nx d):=fun i=>by
 have:=h (i+1)
 rw [lE] at this
 exact this
theorem adx {r cs us:List T}{a w w1 X:Nat} (ha:a≤270) (h92:92≤a) (hX:w+w1+3 * X+3000≤7900000) (hc:In a w1 (.node (bN++r)::cs,us)):∀ (B:Nat) {d:Std},vg a w X d→∀ b,b≤B→Sane b (gO r cs us d).1 (gO r cs us d).2:=by
 have hsp:(T.node eF).deep≤90:=RP.1
 intro B
 induction B with
 | zero =>
  intro d h b hb
  obtain⟨h1,hd,hx⟩:=h 0
  have hd:In a w d:=hd
  obtain⟨b1,b2⟩:=okIn (JG hd hc) (by lia) (by lia)
  refine .mk b1 b2 fun _ z=>?_
  have:=qg (gO r cs us d).1 (gO r cs us d).2
  lia
 | succ B ih =>
  intro d h b hb
  obtain⟨h1,hd,hx⟩:=h 0
  have h1:d.1≠[]:=h1
  have hd:In a w d:=hd
  have hx:iH d.1 d.2≤X:=hx
  have hi:=JG hd hc
  obtain⟨b1,b2⟩:=okIn hi (by lia) (by lia)
  refine .mk b1 b2 fun _ z=>?_
  have hcp:=qg (gO r cs us d).1 (gO r cs us d).2
  have en:nx (gO r cs us d)=(.node eF::.node (bN++r)::cs,.node d.1::.node d.2::us):=Hu h1
  obtain⟨n,c,hn,hcc,g⟩:=Vh (top:=.node (bN++r)) (cs:=cs) (us:=us) (st:=d.2) h1
  rw [← en] at g
  refine acg (a:=a+2) (w:=w+w1+1200) (B:=B) g ?_ (by lia) hn (by lia) (by lia) (fun b' hb'=>ih h.next b' hb') _ (by lia)
  obtain⟨⟨q1,q2⟩,q3⟩:=hi
  have q1:(T.node (.node (bN++r)::cs)).deep≤a+1:=q1
  have q2:(T.node (.node d.1::.node d.2::us)).deep≤a+1:=q2
  have q3:T.aq (.node (bN++r)::cs)+T.aq (.node d.1::.node d.2::us)≤w+w1+2:=q3
  rw [en]
  refine⟨⟨?_,by show (T.node (.node d.1::.node d.2::us)).deep≤a+2; lia⟩,?_⟩
  ·show (T.node (.node eF::.node (bN++r)::cs)).deep≤a+2
   rw [T.aP,T.aN]
   rw [T.aP] at q1
   lia
  ·show T.aq (.node eF::.node (bN++r)::cs)+T.aq (.node d.1::.node d.2::us)≤_
   rw [T.aA (.node eF),wQ]
   lia
theorem acs {st:Std}:1≤evW (aV cZ) st:=by
 have h12:=wZ (tx:=st.1) (s:=st.2)
 unfold evW
 have h:∀ k,k≤12→1≤aV cZ k:=by decide
 have:=h _ h12
 lia
theorem abx {r cs us:List T}{a w X:Nat}:∀ (N:Nat) {d:Std},vg a w X d→∃ c,N≤c∧Wo cZ (gO r cs us d) c (gO r cs us (stN N d)):=by
 intro N
 induction N with
 | zero=>intro d _; exact⟨0,Nat.le_refl _,.nil⟩
 | succ N ih =>
  intro d h
  obtain⟨c,hc,g⟩:=ih h.next
  have hp:=acs (st:=d)
  refine⟨c+evW (aV cZ) (d.1,d.2),by show _≤c+evW (aV cZ) d; lia,?_⟩
  rw [lE]
  exact aac (h 0).1 g
theorem Xl {st d:Std}{r cs us:List T}{a w X c0:Nat} (g:Wo cZ st c0 (gO r cs us d)) (h:vg a w X d):∀ b,(goT b st.1 st.2).1≠[]:=fun b=>by
 obtain⟨c,hc,g2⟩:=abx (r:=r) (cs:=cs) (us:=us) (b+1) h
 exact ahl (g.trans g2) b (by lia)
def cO (ws:List T):List T:=ws++[bC 0 [leaf],bC 8 []]
theorem akm {s:List T}:nx ([.node [bC 8 []]],.node [leaf]::s)=([.node [],.node [bC 8 []]],.node [leaf]::s):=by
 unfold nx
 rw [eY,if_neg (by show 8≠7; decide),if_pos (by rfl),if_pos (by show [leaf]≠[]; simp),oZ (by show 6<8; decide),dD (by show 1≤_; simp)]
 rfl
theorem akl {s:List T}:nx ([.node [],.node [bC 8 []]],.node [leaf]::s)=([.node [bC 8 []]],.node [leaf]::s):=rfl
theorem Rz {s:List T}:∀ i,stN i ([.node [bC 8 []]],.node [leaf]::s)=([.node [bC 8 []]],.node [leaf]::s)∨stN i ([.node [bC 8 []]],.node [leaf]::s)=([.node [],.node [bC 8 []]],.node [leaf]::s)
 | 0=>.inl rfl
 | i+1=>by
  have e:stN (i+1) ([.node [bC 8 []]],.node [leaf]::s)=nx (stN i ([.node [bC 8 []]],.node [leaf]::s)):=rfl
  rw [e]
  rcases Rz (s:=s) i with h | h
  ·rw [h]; exact .inr akm
  ·rw [h]; exact .inl akl
theorem aae {w:T}{ws s:List T} (h7:aH w≠7) (h8:aH w≠8):nx ([.node (w::ws)],s)=([.node ws],behind w s):=by
 unfold nx
 rw [eY,if_neg h7,if_neg h8]
 split <;> rfl
theorem RX:∀ {ws s:List T},(∀ w∈ws,aH w≠7∧aH w≠8)→∃ s',stN (ws.length+1) ([.node (cO ws)],s)=([.node [bC 8 []]],.node [leaf]::s')∧∀ i,i≤ws.length→∃ v t,stN i ([.node (cO ws)],s)=([.node (cO v)],t)∧∃ u,ws=u++v
 | [],s,_=>⟨s,by
   show nx ([.node [bC 0 [leaf],bC 8 []]],s)=_
   rw [aae (by decide) (by decide),Nu rfl]; rfl,fun i hi=>by
   have:i=0:=by have:([]:List T).length=0:=rfl; lia
   subst this
   exact⟨[],s,rfl,[],rfl⟩⟩
 | w::ws,s,h=>by
  obtain⟨h7,h8⟩:=h w List.mem_cons_self
  obtain⟨s',e1,e2⟩:=RX (ws:=ws) (s:=behind w s) fun v hv=>h v (List.mem_cons_of_mem _ hv)
  have hn:nx ([.node (cO (w::ws))],s)=([.node (cO ws)],behind w s):=aae h7 h8
  refine⟨s',?_,fun i hi=>?_⟩
  ·rw [List.length_cons,lE,hn]; exact e1
  ·cases i with
   | zero=>exact⟨w::ws,s,rfl,[],rfl⟩
   | succ i =>
    obtain⟨v,t,e3,u,e4⟩:=e2 i (by rw [List.length_cons] at hi; lia)
    exact⟨v,t,by rw [lE,hn]; exact e3,w::u,by rw [e4]; rfl⟩
theorem abv {ws s:List T} (h:∀ w∈ws,aH w≠7∧aH w≠8):∀ i,(stN i ([.node (cO ws)],s)).1≠[]:=by
 obtain⟨s',e1,e2⟩:=RX (s:=s) h
 intro i
 by_cases hi:i≤ws.length
 ·obtain⟨v,t,e3,_⟩:=e2 i hi
  rw [e3]; simp
 ·have e:=Jo (ws.length+1) (i - (ws.length+1)) ([.node (cO ws)],s)
  rw [show ws.length+1+(i - (ws.length+1))=i by lia,e1] at e
  rw [e]
  rcases Rz (s:=s') (i - (ws.length+1)) with z | z
  ·rw [z]; simp
  ·rw [z]; simp
end Sw
namespace Sw
theorem Oa {st e:Std}{n c:Nat} (g:Wlk st n c e):Wo cZ st c e:=by
 induction g with
 | nil=>exact .nil
 | @cons st e n c h1 _ _ ih=>exact (Wo.cons h1 ih).to (by rw [MN,← JM])
def BP (t:List T):List T:=pB (W 4::W 3::W 4::t)
def Jl (t:List T):List T:=W 2::pB (W 3::W 5::W 1::W 5::BP t)
def Oc (t:List T):List T:=W 2::pB (W 3::W 5::W 3::W 5::W 1::W 3::BP t)
def Gg (t:List T):List T:=W 2::Jl (bC 0 []::W 3::W 4::W 3::Oc (W 4::t))
def Af:List T:=W 3::Gg (W 3::W 4::(dX++(W 4::dX)))
def lB (f h:List T):List T:=.node f::.node h::Af
def fZ (g f h:List T):List T:=bC 0 (lB f h)::bC 0 g::Af
def cC (f h:List T):List T:=[.node (fZ f f h),.node (fZ h f h)]
section
variable {t cs us:List T}{n c:Nat}{e:Std}
theorem Zz {f E:List T}{B:T}{Bk:List T} (hB:B=bC 0 Bk) (g:Wlk (.node t::cs,.node (B::bC 0 f::E)::us) n c e):Wlk (.node (BP t)::cs,.node f::.node E::B::us) (n+5) (c+5) e:=by
 subst hB
 exact FZ (b_ (cM (b_ g)))
theorem ael {f h E:List T} (g:Wlk (.node t::cs,.node (bC 0 (.node f::.node h::E)::bC 0 h::E)::us) n c e):Wlk (.node (Jl t)::cs,.node (.node f::.node h::E)::us) (n+12) (c+11+(T.node (.node f::.node h::E)).parts) e :=
 (FW (FZ (cM (i_ (ou (i_ (Zz rfl g))))))).to rfl (by lia)
theorem af8 {f h E:List T} (g:Wlk (.node t::cs,.node (bC 0 (.node f::.node h::E)::bC 0 f::E)::us) n c e):Wlk (.node (Oc t)::cs,.node (.node f::.node h::E)::us) (n+14) (c+13+(T.node (.node f::.node h::E)).parts) e :=
 (FW (FZ (cM (i_ (cM (i_ (ou (cM (Zz rfl g))))))))).to rfl (by lia)
theorem af7 {f h:List T} (g:Wlk (.node t::cs,.node (cC f h)::us) n c e):Wlk (.node (Gg t)::cs,.node (lB f h)::us) (n+32) (c+29+3 * (T.node (lB f h)).parts) e :=
 (FW (ael (C_ (cM (b_ (cM (af8 (b_ g)))))))).to (by lia) (by unfold lB; lia)
end
theorem Ob {g f h:List T}{x:T}:Wlk ([.node (fZ g f h)],[x]) 44 (41+3 * (T.node (lB f h)).parts) (gO (W 4::dX) [] [x] ([.node g],[.node (cC f h)])) :=
 (C_ (us:=lB f h) (C_ (us:=g) (cM (af7 (cM (b_ (Ql (r:=W 4::dX) (cs:=[]) (us:=[x]) (x:=.node g) (its:=cC f h)))))))).to (by lia) (by lia)
theorem Il:T.aq Af≤2800∧T.bR Af≤90:=by decide +kernel
theorem Es (f h:List T):(T.node (lB f h)).parts=3+T.aq f+T.aq h+T.aq Af:=by
 unfold lB
 rw [T.aK,T.aA,T.aA,T.aK,T.aK]; lia
theorem aaW (g f h:List T):(T.node (fZ g f h)).parts=7+T.aq f+T.aq h+T.aq g+2 * T.aq Af:=by
 have e:=Es f h
 rw [T.aK] at e
 unfold fZ bC oV
 rw [T.aK,T.aA,T.aK,T.aA,List.replicate_zero,T.aK,T.aR,T.aA,T.aK,T.aA,T.aK,T.aR]
 lia
end Sw
namespace Sw
theorem T3 {ws s:List T} (h:∀ w∈ws,(aH w≠7∧aH w≠8)∧B 20 100 w) (hl:ws.length≤4) (hs:T.bR s≤150) (hp:T.aq s≤40000):vg 200 1500000 1500010 ([.node (cO ws)],s):=by
 have e1:(bC 0 [leaf]).parts=3:=by decide
 have e2:(bC 8 []).parts=10:=by decide
 have e3:(bC 0 [leaf]).deep=1:=by decide
 have e4:(bC 8 []).deep=2:=by decide
 have hwp:T.aq ws≤4 * 100:=Nat.le_trans (T.yq fun w hw=>(h w hw).2.2) (Nat.mul_le_mul_right _ hl)
 have hwd:T.bR ws≤21:=T.Bb fun w hw=>by have:=(h w hw).2.1; lia
 have hgp:(T.node (cO ws)).parts≤420:=by unfold cO; rw [T.aK,T.cL,T.aA,T.aA,T.aR]; lia
 have hgd:(T.node (cO ws)).deep≤30:=by unfold cO; rw [T.aP,T.h_,T.aN,T.aN,T.bQ]; lia
 have hW:Wds 100 [.node (cO ws)]:=fun t ht w hw=>by
  rw [List.mem_singleton.mp ht] at hw
  have hw:w∈ws++[bC 0 [leaf],bC 8 []]:=hw
  rcases List.mem_append.mp hw with z | z
  ·exact (h w z).2.2
  ·rcases List.mem_cons.mp z with rfl | z
   ·lia
   ·rw [List.mem_singleton.mp z]; lia
 have hd:mJ 160 ([.node (cO ws)],s):=⟨by show (T.node [.node (cO ws)]).deep≤160; rw [T.aP,T.aN,T.bQ]; lia,by show (T.node s).deep≤160; rw [T.aP]; lia⟩
 have key:∀ i,i≤5→Wds 100 (stN i ([.node (cO ws)],s)).1∧T.aq (stN i ([.node (cO ws)],s)).1≤420+i * 100∧T.aq (stN i ([.node (cO ws)],s)).2+104≤2 ^ i * 40104:=by
  intro i
  induction i with
  | zero=>intro _; exact⟨hW,by show T.aq [.node (cO ws)]≤_; rw [T.aA,T.aR]; lia,by show T.aq s+104≤_; lia⟩
  | succ i ih =>
   intro hi
   obtain⟨q1,q2,q3⟩:=ih (by lia)
   obtain⟨g1,g2,g3⟩:=q1.next (s:=(stN i ([.node (cO ws)],s)).2)
   refine⟨g1,by show T.aq (onward _ _).1≤_; lia,?_⟩
   show T.aq (onward _ _).2.1+104≤_
   rw [Nat.pow_succ]
   lia
 have small:∀ i,i≤5→In 170 1300000 (stN i ([.node (cO ws)],s)):=fun i hi=>by
  obtain⟨_,q2,q3⟩:=key i hi
  have h4:2 ^ i≤2 ^ 5:=Nat.pow_le_pow_right (by decide) hi
  have h5:2 ^ i * 40104≤32 * 40104:=Nat.mul_le_mul_right _ h4
  exact⟨(af0 (by lia) hd i).le (by lia),by show T.aq _+T.aq _≤_; lia⟩
 obtain⟨s',e5,e6⟩:=RX (s:=s) fun w hw=>(h w hw).1
 have hs':=small (ws.length+1) (by lia)
 rw [e5] at hs'
 obtain⟨⟨_,d2⟩,d3⟩:=hs'
 have d2:(T.node (.node [leaf]::s')).deep≤170:=d2
 have d3:T.aq [.node [bC 8 []]]+T.aq (.node [leaf]::s')≤1300000:=d3
 intro i
 have hin:In 200 1500000 (stN i ([.node (cO ws)],s)):=by
  by_cases hi:i≤5
  ·exact⟨(small i hi).1.le (by lia),Nat.le_trans (small i hi).2 (by lia)⟩
  ·have e:=Jo (ws.length+1) (i - (ws.length+1)) ([.node (cO ws)],s)
   rw [show ws.length+1+(i - (ws.length+1))=i by lia,e5] at e
   rw [e]
   have c1:T.aq [.node [bC 8 []]]=11:=by decide
   have c2:T.aq [.node [],.node [bC 8 []]]=12:=by decide
   rcases Rz (s:=s') (i - (ws.length+1)) with z | z
   ·rw [z]; exact⟨⟨by show (T.node [.node [bC 8 []]]).deep≤200; decide,by show (T.node (.node [leaf]::s')).deep≤200; lia⟩,by show T.aq [.node [bC 8 []]]+T.aq (.node [leaf]::s')≤_; lia⟩
   ·rw [z]; exact⟨⟨by show (T.node [.node [],.node [bC 8 []]]).deep≤200; decide,by show (T.node (.node [leaf]::s')).deep≤200; lia⟩,by show T.aq [.node [],.node [bC 8 []]]+T.aq (.node [leaf]::s')≤_; lia⟩
 refine⟨abv (fun w hw=>(h w hw).1) i,hin,?_⟩
 have hx:=afp (stN i ([.node (cO ws)],s)).1 (stN i ([.node (cO ws)],s)).2
 have hw:=hin.2
 have hx:iH (stN i ([.node (cO ws)],s)).1 (stN i ([.node (cO ws)],s)).2≤wt (stN i ([.node (cO ws)],s))+1:=hx
 lia
theorem Xm {r cs us:List T}{a w w1 X:Nat} (ha:a≤270) (h92:92≤a) (hX:w+w1+3 * X+3000≤7900000) (hc:In a w1 (.node (bN++r)::cs,us)) {d:Std} (h:vg a w X d):∀ b,Sane b (gO r cs us d).1 (gO r cs us d).2:=fun b=>adx ha h92 hX hc b h b (Nat.le_refl _)
section
variable {g f h:List T}{x:T}
theorem Lj (hk:B 150 60000 (.node (fZ g f h))) (hb:(T.node (lB f h)).parts≤30000) (hx:B 150 60000 x) (k:∀ b,Sane b [.node (bN++(W 4::dX))] [.node [.node g],.node [.node (cC f h)],x]):∀ b,Sane b [.node (fZ g f h)] [x]:=by
 have h1:=hk.1
 have h2:=hk.2
 have h3:=hx.1
 have h4:=hx.2
 refine xQ (a:=200) (w:=200000) (Ob (g:=g) (f:=f) (h:=h) (x:=x)) ?_ (by decide) (by decide) (by decide) (by lia) k
 exact In.mk1 (by rw [T.aN,T.bQ]; lia) (by rw [T.aN,T.bQ]; lia) (by rw [T.aA,T.aR,T.aA,T.aR]; lia)
theorem Wb {s1:List T}{N1:Nat} (hx:B 150 60000 x) (e1:stN N1 ([.node g],[.node (cC f h)])=([],s1)) (h1:∀ i,i≤N1→In 200 3900000 (stN i ([.node g],[.node (cC f h)]))∧iH (stN i ([.node g],[.node (cC f h)])).1 (stN i ([.node g],[.node (cC f h)])).2≤1000000)
  (k2:∀ b,Sane b [.node (W 4::dX)] [ats s1 0,x]):∀ b,Sane b [.node (bN++(W 4::dX))] [.node [.node g],.node [.node (cC f h)],x]:=by
 obtain⟨u1,u2,u3,u4,u5,u6⟩:=Dk
 have hxd:=hx.1
 have hxp:=hx.2
 refine Kl (r:=W 4::dX) (cs:=[]) (us:=[x]) (a:=200) (w:=3900000) (w1:=300000) (X:=1000000) (by decide) (by decide) (by decide) ?_ (N:=N1) (d:=([.node g],[.node (cC f h)])) h1 (by rw [e1]) (fun i hi h0 b=>?_)
 ·exact In.mk1 (by rw [T.aN,T.bQ]; lia) (by rw [T.aN,T.bQ]; lia) (by rw [T.aA,T.aR,T.aA,T.aR]; lia)
 ·have e:=Jo i (N1 - i) ([.node g],[.node (cC f h)])
  rw [show i+(N1 - i)=N1 by lia,e1,Qw _ h0] at e
  rw [← e]
  exact k2 b
theorem Uj (hx:B 150 60000 x) (h1:vg 200 1500000 1500010 ([.node g],[.node (cC f h)])):∀ b,Sane b [.node (bN++(W 4::dX))] [.node [.node g],.node [.node (cC f h)],x]:=by
 obtain⟨u1,u2,u3,u4,u5,u6⟩:=Dk
 have hxd:=hx.1
 have hxp:=hx.2
 exact Xm (r:=W 4::dX) (cs:=[]) (us:=[x]) (a:=200) (w:=1500000) (w1:=300000) (X:=1500010) (by decide) (by decide) (by decide) (In.mk1 (by rw [T.aN,T.bQ]; lia) (by rw [T.aN,T.bQ]; lia) (by rw [T.aA,T.aR,T.aA,T.aR]; lia)) h1
theorem Wa {t:T} (ht:B 199 1000000 t) (hx:B 150 60000 x) (k3:∀ b,Sane b [.node (bN++[])] [.node [t],.node [x]]):∀ b,Sane b [.node (W 4::dX)] [t,x]:=by
 obtain⟨u1,u2,u3,u4,u5,u6⟩:=Dk
 have hxd:=hx.1
 have hxp:=hx.2
 have htd:=ht.1
 have htp:=ht.2
 have g:Wlk ([.node (W 4::dX)],[t,.node x.kids]) 8 8 (gO [] [] [] ([t],[.node x.kids])):=by
  have:=Ql (r:=[]) (cs:=[]) (us:=[]) (x:=t) (its:=x.kids)
  rw [List.append_nil] at this
  exact b_ this
 rw [gH] at g
 refine xQ (a:=201) (w:=1300000) g ?_ (by decide) (by decide) (by decide) (by decide) k3
 exact In.mk1 (by rw [T.aN,T.bQ]; lia) (by rw [T.aN,T.aN,T.bQ]; lia) (by rw [T.aA,T.aR,T.aA,T.aA,T.aR]; lia)
theorem acp:In 200 10000 ([.node (bN++[])],[]):=by
 have v1:(T.node bN).deep≤90:=RP.2
 have v2:=afh
 rw [List.append_nil]
 exact In.mk1 (by rw [T.aN,T.bQ]; lia) (by rw [T.bQ]; lia) (by rw [T.aA,T.aR]; lia)
theorem Ui {t:T} (h2:vg 200 1500000 1500010 ([t],[x])):∀ b,Sane b [.node (bN++[])] [.node [t],.node [x]] :=
 Xm (r:=[]) (cs:=[]) (us:=[]) (a:=200) (w:=1500000) (w1:=10000) (X:=1500010) (by decide) (by decide) (by decide) acp h2
theorem V_ {t:T}{s2:List T}{N2:Nat} (e2:stN N2 ([t],[x])=([],s2)) (h2:∀ i,i≤N2→In 200 7100000 (stN i ([t],[x]))∧iH (stN i ([t],[x])).1 (stN i ([t],[x])).2≤250000) (hs2:B 199 3900000 (ats s2 0)):∀ b,Sane b [.node (bN++[])] [.node [t],.node [x]]:=by
 have aq9:=hs2.1
 have aq8:=hs2.2
 have k4:∀ b,Sane b [.node []] [ats s2 0]:=by
  intro b
  refine xQ (a:=200) (w:=3900010) (dO .nil:Wlk ([.node []],[ats s2 0]) 1 1 ([],[ats s2 0])) ?_ (by decide) (by decide) (by decide) (by decide) ?_ b
  ·exact In.mk1 (by rw [T.aN,T.bQ,T.aP,T.bQ]; lia) (by rw [T.aN,T.bQ]; lia) (by rw [T.aA,T.aR,T.aK,T.aR,T.aA,T.aR]; lia)
  ·intro b
   obtain⟨b1,b2⟩:=okIn (st:=([],[ats s2 0])) (a:=200) (w:=3900010) (In.mk1 (by rw [T.bQ]; lia) (by rw [T.aN,T.bQ]; lia) (by rw [T.aR,T.aA,T.aR]; lia)) (by decide) (by decide)
   exact .mk b1 b2 fun z=>absurd rfl z
 refine Kl (r:=[]) (cs:=[]) (us:=[]) (a:=200) (w:=7100000) (w1:=10000) (X:=250000) (by decide) (by decide) (by decide) acp (N:=N2) (d:=([t],[x])) h2 (by rw [e2]) (fun i hi h0 b=>?_)
 have e:=Jo i (N2 - i) ([t],[x])
 rw [show i+(N2 - i)=N2 by lia,e2,Qw _ h0] at e
 rw [← e]
 exact k4 b
theorem ac0 {s1 s2:List T}{τ1 τ2:Nat} (h1:Wo (aV cZ) ([.node g],[.node (cC f h)]) τ1 ([],s1)) (h2:Wo (aV cZ) ([ats s1 0],[x]) τ2 ([],s2)) :
  ∃ c,c≤τ1+τ2+100+3 * (T.node (lB f h)).parts∧Wo cZ ([.node (fZ g f h)],[x]) c ([],[ats s2 0]):=by
 have g0:=Oa (Ob (g:=g) (f:=f) (h:=h) (x:=x))
 have hx2:=h2
 rw [← gH x] at hx2
 have g2:=ah_ (cs:=[]) (us:=[]) hx2
 have g3:=Wx (r:=W 4::dX) (us:=[.node x.kids]) (cs:=[]) h1 rfl (cG g2)
 rw [gH] at g3
 refine⟨_,?_,g0.trans g3⟩
 have e:uW cZ=13∧cZ 10=1∧cZ 1=1∧cZ 5=1∧cZ 3=1∧cZ 4=1:=by decide
 obtain⟨a1,a2,a3,a4,a5,a6⟩:=e
 rw [a1,a2,a3,a4,a5,a6]
 lia
theorem ac2 (h1:vg 200 1500000 1500010 ([.node g],[.node (cC f h)])):∀ b,(goT b [.node (fZ g f h)] [x]).1≠[] :=
 Xl (Oa (Ob (g:=g) (f:=f) (h:=h) (x:=x))) h1
theorem ac1 {s1:List T}{τ1:Nat} (h1:Wo (aV cZ) ([.node g],[.node (cC f h)]) τ1 ([],s1)) (h2:vg 200 1500000 1500010 ([ats s1 0],[x])):∀ b,(goT b [.node (fZ g f h)] [x]).1≠[]:=by
 have g0:=Oa (Ob (g:=g) (f:=f) (h:=h) (x:=x))
 have w8:Wlk ([.node (W 4::dX)],[ats s1 0,.node x.kids]) 8 8 (gO [] [] [] ([ats s1 0],[.node x.kids])):=by
  have:=Ql (r:=[]) (cs:=[]) (us:=[]) (x:=ats s1 0) (its:=x.kids)
  rw [List.append_nil] at this
  exact b_ this
 rw [gH] at w8
 have g3:=Wx (r:=W 4::dX) (us:=[x]) (cs:=[]) h1 rfl (Oa w8)
 exact Xl (g0.trans g3) h2
end
end Sw
namespace Sw
open PySem PySem.Spec PyProof.Rows L2
end Sw
namespace Sw
open PySem PySem.Spec PyProof.Rows L2
section
variable {X:Cx}{o e value:Expr}{f:Str}{pos pos':Pos}{ta tv:TE}
theorem bW (he:QE X e ta) (hb:attributeBase e f X.env (eval e X.env)=eval e X.env):QE X (.Attribute e f pos) (tFld X.K ta f):=⟨pe_fld he.run hb⟩
theorem fJ (ha:QE X o ta) (hv:QE X value tv) (hs:swapsWith value (some (.Attribute o f pos')) pos.line X.env=pure false):QS X (.Assign [.Attribute o f pos'] value pos) (sFld X.K ta tv f):=⟨ps_fld ha.run hv.run hs⟩
end
section
variable {X:Cx}{CX:CXT}{k:Nat}{f C:Addr}{fd:FuncData}{ps:List Str}{sp:Sp}{dvs:List V}{ds:List Value}{E:XK}{m x:Str}{p apos pos:Pos}{o e:Expr}{es:List Expr}{ta:TE}{t:TA}
theorem Z5 {pl:Sem Bool} (he:QE X o ta) (c:Cls X.K C) (hm:Meth X.K C m f) (F:FnOk X.prog X.w X.K X.mg X.base CX k f fd ps sp) (hr:Room k X.A) (hb:Binds X.K fd ps ds) (hd:Vals dvs ds) (hx:Passes CX X E) (ha:QA X (e::es) t)
  (hst:starEach (e::es) X.env=(false,eval e X.env)::starEach es X.env:=by rfl) (hpl:(backTo pos (starEach es X.env)).any (·.1)=false:=by rfl)
  (ht:eval (.Call (.Attribute o m apos) (e::es) [] pos) X.env=(do
   let ov ← eval o X.env
   standAt apos.atName
   let (f,first) ← holding [ov] (getMethod ov m pl)
   callWith pos f first (backTo pos (starEach (e::es) X.env)) (backToKw pos (keywordEach [] X.env))):=by rfl):QE X (.Call (.Attribute o m apos) (e::es) [] pos) (tMeth C m sp dvs E ta t):=⟨pe_meth (pl:=pl) he.run c hm F hr hb hd hx ha.run hst hpl ht⟩
theorem nu {pl:Sem Bool} (he:QE X o ta) (c:Cls X.K C) (hm:Meth X.K C m f) (F:FnOk X.prog X.w X.K X.mg X.base CX k f fd ps sp) (hr:Room k X.A) (hb:Binds X.K fd ps ds) (hd:Vals dvs ds) (hx:Passes CX X E)
  (ht:eval (.Call (.Attribute o m apos) [] [] pos) X.env=(do
   let ov ← eval o X.env
   standAt apos.atName
   let (f,first) ← holding [ov] (getMethod ov m pl)
   callWith pos f first (backTo pos (starEach [] X.env)) (backToKw pos (keywordEach [] X.env))):=by rfl):QE X (.Call (.Attribute o m apos) [] [] pos) (tMeth C m sp dvs E ta tNil):=⟨aeU (pl:=pl) he.run c hm F hr hb hd hx ht⟩
end
section
variable {R P:Addr}{nm:List Nat}
end
section
variable {K:PySem.W.Frag}{C:Addr}{H₀ H:Hp}{o dx R P:Addr}{ys:List V}{st:List (List T)}{pl:List (List Nat)}{nm:List Nat}
theorem acK {H':Hp}{p:Addr} (h:E_ K H₀ H p st ys) (S:Same H H'):E_ K H₀ H' p st ys :=
 ⟨h.new,h.same.trans S,S _ _ h.at_,h.rows.imp fun _ _ ⟨a,xs,e,h1,h2,h3⟩=>⟨a,xs,e,h1,S _ _ h2,h3.mono (.of S)⟩,h.nd⟩
theorem acM {p q:Addr}{x:HO} (h:E_ K H₀ H p st ys) (k:Kt H (upd H q x)) (h0:H₀ q=none) (hn:(.ref q:V) ∉ (.ref p:V)::ys):E_ K H₀ (upd H q x) p st ys :=
 ⟨h.new,dZ h.same h0,by rw [upd_ne (fun z=>hn (by rw [z]; exact List.mem_cons_self))]; exact h.at_,yd k h.rows fun z=>hn (List.mem_cons_of_mem _ z),h.nd⟩
theorem Kt.ins {C' dx':Addr}{fs:List (Str×V)}{x:HO} (h:H o=some (.ins C' dx' fs)):Kt H (upd H o x) :=
 ⟨fun b xs e=>by rw [upd_ne (fun z=>by rw [z,h] at e; cases e)]; exact e,fun b _ _ e=>by rw [upd_ne (fun z=>by rw [z,h] at e; cases e)]; exact e⟩
end
end Sw
namespace SwR
open PySem PySem.Spec PyProof.Rows L2 Sw
def ab4 (K:PySem.W.Frag) (a:Addr) (n:Nat):It :=
 ⟨fun i H=>∃ xs x,SqT K H a xs∧xs.length=n∧xs.reverse[i]?=some x,fun i H v H'=>H'=H∧∀ xs,SqT K H a xs→xs.reverse[i]?=some v,fun i H=>∃ xs,SqT K H a xs∧xs.length=n∧n=i⟩
theorem acN {α:Type}{xs:List α}{i:Nat}{x:α} (h:xs.reverse[i]?=some x):i<xs.length∧xs[xs.length - 1 - i]?=some x:=by
 have hi:i<xs.length:=by have:=(List.getElem?_eq_some_iff.mp h).1; simpa using this
 exact⟨hi,by rw [List.getElem?_reverse hi] at h; exact h⟩
theorem acq {P:Program}{w:World}{K:PySem.W.Frag}{tg:Expr} (a it:Addr) (n:Nat) (hne:a≠it):Turn P w K tg (ab4 K a n) [it] it (fun i h=>RvO h it a ((n:Int) - 1 - (i:Int))) where
 mem:=by simp
 obj:=fun i h st b hb=>by
  have e:b=it:=by simpa using hb
  subst e
  obtain⟨o,ho,hc,hd⟩:=st
  exact⟨o,ho,fun v z=>by rw [hd] at z; cases z⟩
 keep:=fun i h h' st k=>st.keep fun o e=>k it (by simp) o e
 item:=by
  intro X hP hw hK hc i pins s σ H E I hf st hg
  subst hP hw hK
  obtain⟨xs,x,hq,hn,hx⟩:=hg
  obtain⟨hi,hx'⟩:=acN hx
  obtain⟨its,rv,p,hz⟩:=I.tuple hq
  obtain⟨u,hu,ru⟩:=rv.get hx'
  obtain⟨f0,f1,f2,f3,f4,f5⟩:=hf it (by simp)
  have hl:=rv.length
  have e1:(n:Int) - 1 - (i:Int)=((xs.length - 1 - i:Nat):Int):=by lia
  rw [e1] at st
  refine next_item (items:=its.toArray) st p (x:=u) (by simpa using hu) (by rw [List.size_toArray]; lia) hne fun h' tk st' sb=>?_
  have e2:((xs.length - 1 - i:Nat):Int) - 1=(n:Int) - 1 - ((i+1:Nat):Int):=by lia
  rw [e2] at st'
  have I1:Inv X pins σ H { s with heap:=h',toks:=tk }:=I.turned (fun b o hb e=>(sb.2 b hb).trans e) f0 f1 f3 f4 f5
  obtain⟨o,e,c,d⟩:=id st'
  exact⟨u,rfl,go_of (s:={ s with heap:=h',toks:=tk }) e c d (by decide) ⟨x,H,I1,ru,⟨rfl,fun ys hy=>by rw [I.sy hy hq]; exact hx⟩,st',fun b hb=>(hf b hb).1⟩⟩
 done:=by
  intro X hP hw hK hc i pins s σ H E I hf st hg
  subst hP hw hK
  obtain⟨xs,hq,hn,hx⟩:=hg
  obtain⟨f0,f1,f2,f3,f4,f5⟩:=hf it (by simp)
  have e1:(n:Int) - 1 - (i:Int)=-1:=by lia
  rw [e1] at st
  exact next_end (I.ok.hd hc) st fun h' eb=>⟨rfl,I.turned (t':=s.toks) (fun b o hb e=>eb b o hb e) f0 f1 f3 f4 f5⟩
 self:=fun _ _ _ _ _ st h=>zT st h
def afW (K:PySem.W.Frag) (tl:TE):TI:=fun σ H R=>tl σ H fun x H1=>∃ a xs,x=.ref a∧SqT K H1 a xs∧R (ab4 K a xs.length) H1
theorem agx {X:Cx}{tg l:Expr}{tl:TE}{p pos:Pos} (hg:Gl X "reversed") (hm:X.mg "reversed"=none) (hl:PE X l tl) (hs:starEach [l] X.env=[(false,eval l X.env)]:=by rfl):PI X tg (.Call (.Name "reversed" p) [l] [] pos) (afW X.K tl):=by
 intro pins s σ H R I h
 refine wpAny_Call_Name_kw (ld_blt I hg hm Bl ?_)
 refine PyProof.Rows.callWith_type1 ?_ (by rw [hs]; rfl) (by rfl)
 rw [hs]
 refine Calls.spliced_cons (thn (hl pins s σ H _ I h) fun v s1 ⟨x,H1,I1,r1,q1⟩=>Calls.spliced_nil ?_)
 obtain⟨a,xs,rfl,hq,q⟩:=q1
 cases r1
 obtain⟨its,rv,ht,hz⟩:=I1.tuple hq
 have hlen:=rv.length
 have la:a<s1.heap.objs.size:=let ⟨_,ho,_⟩:=ht; Heap.lt_size ho
 refine X3 ht (by rw [List.size_toArray]; lia) fun tk=>?_
 have hit:RvO (s1.heap.push { cls:=.type "reversed",data:=.fields #[.ref a,rawInt ((its.toArray.size:Int) - 1)] }) s1.heap.objs.size a ((its.toArray.size:Int) - 1):=⟨_,Heap.get?_push_size _ rfl,rfl,rfl⟩
 refine zT (s:={ s1 with heap:=s1.heap.push { cls:=.type "reversed",data:=.fields #[.ref a,rawInt ((its.toArray.size:Int) - 1)] },toks:=tk }) hit ?_
 refine⟨s1.heap.objs.size,[s1.heap.objs.size],_,ab4 X.K a xs.length,H1,rfl,I1.kept fun b o e=>Heap.get?_push_of_some _ e,acq a _ xs.length (Nat.ne_of_lt la),?_,fun b hb=>?_,q⟩
 ·have e1:(xs.length:Int) - 1 - ((0:Nat):Int)=(its.toArray.size:Int) - 1:=by rw [List.size_toArray]; lia
  show RvO _ _ _ ((xs.length:Int) - 1 - ((0:Nat):Int))
  rw [e1]
  exact hit
 ·have e:b=s1.heap.objs.size:=by simpa using hb
  subst e
  exact I1.fpOk (Nat.le_refl _) (I1.hok.fresh (Nat.le_refl _))
section
variable {prog:Program}{w:World}{A:Around}{E:Value→Shared→Prop}{s:Shared}
end
end SwR
namespace Sw
open PySem PySem.Spec PyProof.Rows L2
section
variable {prog:Program}{w:World}{A:Around}{E:Value→Shared→Prop}{s:Shared}{K:PySem.W.Frag}{x y C:Addr}{ox:Obj}{od:Option Obj}{items:Array Value}
theorem abN {Q:Value→Shared→Prop} (kin:K.In s.heap) (J:PySem.W.InstAt s.heap x ox C od) (hm:PySem.W.mroIn K C (.type "object")=some true) (hxy:x≠y) {oy:Obj} (hy:s.heap.get? y=some oy) (h:Q .notImplemented s) :
  wpAny (model prog w) A (call (.builtin "object.__eq__") [.ref x,.ref y]) Q E s:=by
 refine wpAny_call (codeAny_call_builtin (by decide +kernel) F.cmpEntry_eq ?_)
 unfold checkBuiltinCall
 rw [F.cmpKind_eq,F.cmpSplit_eq]
 dsimp only
 refine wpAny_bind ?_
 unfold isInstance
 refine wpAny_bind (J.type _ _ _ s (fun _ _ e=>e) ?_)
 refine PySem.W.looks_mroIn kin hm _ _ _ s (fun _ _ e=>e) ?_
 rw [if_neg (by decide)]
 refine wpAny_of_eq (F.cmpArgs_eq (.ref x) (.ref y)) ?_
 unfold Builtin.«object.__eq__»
 refine wpAny_bind (wpAny_of_eq (a:=(Value.ref x,[Value.ref y])) rfl ?_)
 dsimp only
 refine wpAny_bind (wpAny_isSame_ref_other hxy J.at_ hy (by rw [J.cls]; exact fun z=>nomatch z) ?_)
 rw [if_neg (by decide)]
 exact wpAny_pure h
theorem abM {Q:Value→Shared→Prop} (kin:K.In s.heap) (J:PySem.W.InstAt s.heap x ox C od) (hm:PySem.W.mroIn K C (.type "tuple")=some false) (ht:s.TypeIs (.ref y) "tuple") (h:Q .notImplemented s) :
  wpAny (model prog w) A (call (.builtin "tuple.__eq__") [.ref y,.ref x]) Q E s:=by
 refine wpAny_call_entry F.slot_tuple_eq ht F.entry_tuple_eq ?_ (F.args_tuple_eq_2 _ _)
 unfold Builtin.«tuple.__eq__»
 wp_delta
 refine wpAny_bind (wpAny_of_eq (a:=(Value.ref y,[Value.ref x])) rfl ?_)
 dsimp only
 refine wpAny_bind ?_
 unfold isInstance
 refine wpAny_bind (J.type _ _ _ s (fun _ _ e=>e) ?_)
 refine PySem.W.looks_mroIn kin hm _ _ _ s (fun _ _ e=>e) ?_
 rw [if_pos (by decide)]
 exact wpAny_pure ⟨_,rfl,h⟩
theorem abA {Q:Value→Shared→Prop} (hu:A.units<cLine) (kin:K.In s.heap) (J:PySem.W.InstAt s.heap x ox C od) (he:PySem.W.findIn K (.ref C) "__eq__"=some (some (.builtin "object.__eq__"))) (hm:PySem.W.mroIn K C (.type "object")=some true)
  (hmt:PySem.W.mroIn K C (.type "tuple")=some false) (hsub:PySem.W.subIn K (.type "tuple") (.ref C)=some false) (hxy:x≠y) {oy:Obj} (hy:s.heap.get? y=some oy) (hc:oy.cls=.type "tuple") (h:Q (.bool false) s) :
  wpAny (model prog w) A (compareOp .Eq (.ref x) (.ref y)) Q E s:=by
 have ht:s.TypeIs (.ref y) "tuple":=⟨oy,hy,hc⟩
 show wpAny _ _ (richCompare .Eq (.ref x) (.ref y)) _ _ _
 unfold richCompare
 refine wpAny_holding (wpAny_bind (wpAny_cRoomFor hu ?_))
 rw [show oneThing? CmpOp.Eq (Value.ref x) (Value.ref y)=none from rfl]
 show wpAny _ _ (typeOf (.ref x) >>= _) _ _ _
 refine wpAny_bind (J.type _ _ _ s (fun _ _ e=>e) ?_)
 refine wpAny_bind (wpAny_typeOf ht ?_)
 rw [if_pos (by rfl)]
 refine wpAny_bind (PySem.W.looks_subIn kin hsub _ _ _ s (fun _ _ e=>e) ?_)
 show wpAny _ _ (tryCompare (.ref x) (Str.ofString "__eq__") (.ref y) >>= _) _ _ _
 have akv:∀ {Q':Option Value→Shared→Prop},Q' none s→wpAny (model prog w) A (tryCompare (.ref x) (Str.ofString "__eq__") (.ref y)) Q' E s:=fun {Q'} q=>by
  unfold tryCompare
  refine wpAny_bind ?_
  unfold callSpecialIfBound?
  refine wpAny_holding (wpAny_bind ?_)
  unfold bindSpecialIfBound?
  refine wpAny_bind ?_
  unfold specialOf
  refine wpAny_bind (J.type _ _ _ s (fun _ _ e=>e) ?_)
  refine PySem.W.looks_findIn kin he _ _ _ s (fun _ _ e=>e) ?_
  dsimp only
  have hb:bindSpecial (.builtin "object.__eq__") (.ref x)=pure (.builtin "object.__eq__",[.ref x]):=F.slot_object_eq.bind _
  rw [hb]
  have fin:wpAny (model prog w) A (call (.builtin "object.__eq__") ([.ref x]++[.ref y])) (fun v s1=>wpAny (model prog w) A (pure (some v)) (fun a s'=>wpAny (model prog w) A (match a with | some .notImplemented=>pure none | none=>pure none | some v=>pure (some v)) Q' E s') E s1) E s :=
   abN kin J hm hxy hy (wpAny_pure (wpAny_pure q))
  refine wpAny_bind (wpAny_askSetting ?_)
  split
  ·exact wpAny_bind (wpAny_pure (wpAny_pure (wpAny_bind fin)))
  ·exact wpAny_tryCatch (wpAny_bind (wpAny_pure (wpAny_pure (wpAny_bind fin))))
 refine wpAny_bind (akv ?_)
 show wpAny _ _ (tryCompare (.ref y) (Str.ofString "__eq__") (.ref x) >>= _) _ _ _
 refine wpAny_bind (wpAny_tryCompare_declines ht F.slot_tuple_eq (abM kin J hmt ht ⟨rfl,?_⟩))
 refine wpAny_bind (wpAny_rule ?_)
 exact wpAny_bind (wpAny_isSame_ref_other hxy J.at_ hy (by rw [J.cls]; exact fun z=>nomatch z) (wpAny_pure h))
end
end Sw
namespace SwR
open PySem PySem.Spec PyProof.Rows L2 Sw
end SwR
namespace Sw
open PySem PySem.Spec PyProof.Rows L2
structure Yk (K:PySem.W.Frag) (C:Addr):Prop where
 cl:Cls K C
 eq:PySem.W.findIn K (.ref C) "__eq__"=some (some (.builtin "object.__eq__"))
 ob:PySem.W.mroIn K C (.type "object")=some true
 tu:PySem.W.mroIn K C (.type "tuple")=some false
 sb:PySem.W.subIn K (.type "tuple") (.ref C)=some false
 ca:PySem.W.findIn K (.ref C) "__class__"=some (some (.builtin "object.__class__"))
 cn:PySem.W.specialIn K (.builtin "object.__class__") "__get__"=some (some (.builtin "getset_descriptor.__get__"))
 ct:PySem.W.takesIn K (.builtin "object.__class__")=some true
theorem Yk.ty {K:PySem.W.Frag}{C a dx:Addr}{fs:List (Str×V)}{H:Hp} (r:Yk K C) (h:H a=some (.ins C dx fs)):TyOf K H (.ref a) (.ref C):=.ins h r.cl r.ca r.cn r.ct r.ob
section
variable {X:Cx}
def acO (K:PySem.W.Frag) (n:Nat):R2:=fun x y H Q=>(∃ t u,TR K H t x∧TR K H u y∧t.deep≤n∧Q (.bl (T.beq t u)) H)∨∃ a C dx fs b ys,x=.ref a∧H a=some (.ins C dx fs)∧Yk K C∧y=.ref b∧H b=some (.tup ys)∧Q (.bl false) H
theorem Wf {n:Nat} (hu:X.A.units+n<cLine):OpR X (compareOp .Eq) (acO X.K n):=by
 intro pins s σ H x y v u Q I rx ry h
 rcases h with h | ⟨a,C,dx,fs,b,ys,rfl,ha,r,rfl,hb,q⟩
 ·exact Rc hu pins s σ H x y v u Q I rx ry h
 ·cases (show v=Value.ref a from rx)
  cases (show u=Value.ref b from ry)
  obtain⟨mA,O,_⟩:=ins_get I.hok ha
  obtain⟨od,J,_⟩:=O.look
  obtain⟨_,_,_,p⟩:=(show ObjOk X.prog X.w H s.heap b (.tup ys) from I.hok b _ hb)
  obtain⟨o,h1,h2,_⟩:=p
  exact abA (by lia) I.kIn J r.eq r.ob r.tu r.sb (fun z=>by rw [z,hb] at ha; cases ha) h1 h2 ⟨.bl false,H,I,rfl,q⟩
theorem jP:CallR X (.builtin "isinstance") (fun xs H Q=>∃ x D b,xs=[x,.ref D]∧((∃ t,TyOf X.K H x t∧PySem.W.kitOne X.K t (.ref D)=some b)∨(∃ a ys,x=.ref a∧SqT X.K H a ys∧PySem.W.kitOne X.K (.type "tuple") (.ref D)=some b))∧Q (.bl b) H):=by
 intro pins s σ H xs us Q I r h
 obtain⟨x,D,b,rfl,h,q⟩:=h
 obtain⟨u,w',rfl,r1,r2⟩:=vals2 r
 cases (show w'=Value.ref D from r2)
 rcases h with⟨t,ty,e⟩ | ⟨a,ys,rfl,hq,e⟩
 ·exact adv I r1 ty e fun tk=>⟨.bl b,H,I.tok tk,rfl,q⟩
 ·cases r1
  obtain⟨its,_,⟨o,h1,h2,_⟩,_⟩:=I.tuple hq
  exact PySem.W.kia_one PySem.W.kitx_tuple I.kIn ⟨o,h1,h2⟩ e (fun z=>nomatch z) fun tk=>⟨.bl b,H,I.tok tk,rfl,q⟩
def aeL:V→List V→Hp→VK→Prop:=fun x vs H Q=>∃ l xs y,x=.ref l∧vs=[.int 0,y]∧H l=some (.lst xs)∧xs.length<sizeLine∧Q .non (upd H l (.lst (y::xs)))
theorem aa9:MtM X "list.insert" aeL:=by
 intro pins s σ H x vs v us Q I rx rv h
 obtain⟨l,xs,y,rfl,rfl,hH,hz,q⟩:=h
 cases rx
 obtain⟨u0,u,rfl,r0,ru⟩:=vals2 rv
 obtain⟨t,rfl⟩:=r0
 obtain⟨z,its,n,r,hl,e⟩:=I.lstM hH
 refine call_meets F.slot_list_insert ⟨_,e,rfl⟩ F.entry_list_insert (F.args_list_insert_3 _ _ _) (AutoSeq1.list_insert_list_int_val_1 l its.toArray n 0 t u (by decide) (by rw [List.size_toArray]; lia)) ⟨e,?_⟩
 refine⟨.non,_,I.Xb (its':=u::its) hH e (by simp) (.cons ru r) ?_,rfl,q⟩
 rw [List.length_cons]
 lia
theorem MK:afF X (rIxL X.K):=by
 intro pins s σ H x y v u Q I rx ry h
 obtain⟨p,xs,i,z,rfl,rfl,hq,he,q⟩:=h
 cases rx
 obtain⟨t,rfl⟩:=ry
 obtain⟨its,r,pl,hz⟩:=I.list hq
 obtain⟨j,h1,h2,h3,h4,h5⟩:=atI_get he
 obtain⟨w,ew,rw'⟩:=r.get h2
 have hl:=r.length
 have hn:=line63
 have fin:EP X pins σ Q w s:=⟨z,H,I,rw',q⟩
 by_cases h0:0≤i
 ·have hj:i.toNat=j:=by
   rw [seqIndex_of h0 h5] at h1
   exact Option.some.inj h1
  exact getItem_listL pl.isList h0 (by lia) (by rw [hj]; exact ew) fin
 ·have hj:(i+(its.toArray.size:Int)).toNat=j:=by
   rw [seqIndex_neg (by lia) h4] at h1
   rw [List.size_toArray,← hl]
   exact Option.some.inj h1
  exact wpAny_getItem_list_neg pl.isList (by lia) (by rw [List.size_toArray] <;> lia) (by lia) (by rw [hj]; simpa using ew) fin
theorem QZ {pos:Pos}{o i e:Expr}{to ti te:TE}{Ky:V→V→Hp→VK→Prop}{tip:TIp}{Kw:NZ}{op:Operator}{tpos:Pos} (ho:QE X o to) (hi:QE X i ti) (hg:afF X Ky) (he:QE X e te) (hp:PIp X op tip) (hs:Yl X Kw)
  (ha:∀ ov iv new,augStore i ov iv new=(do holding [new,ov,iv] (setItem ov iv new); release [new,ov,iv] []; pure .next):=by intros; rfl):QS X (.AugAssign (.Subscript o i tpos) op e pos) (afO to ti te Ky tip Kw):=⟨agu ho.run hi.run hg he.run hp hs ha⟩
theorem TQ {o value:Expr}{f:Str}{pos tpos:Pos}{ta tv:TE}{op:Operator}{rd:V→V→Hp→VK→Prop} (ha:QE X o ta) (hv:QE X value tv) (hop:ab5 X op rd):QS X (.AugAssign (.Attribute o f tpos) op value pos) (ZW X.K ta tv rd f):=⟨acU ha.run hv.run hop⟩
theorem jX {CX:CXT}{k:Nat}{f C:Addr}{fd:FuncData}{ps:List Str}{sp:Sp}{dvs:List V}{ds:List Value}{E:XK}{x:Str}{p pos:Pos}{e:Expr}{es:List Expr}{t:TA} (M:Mk X.K C f) (F:FnOk X.prog X.w X.K X.mg X.base CX k f fd ps sp) (hr:Room (k+1) X.A) (hg:Gl X x) (hm:X.mg x=some (.ref C)) (hb:Binds X.K fd ps ds) (hd:Vals dvs ds) (hx:Passes CX X E)
  (ha:QA X (e::es) t) (hdb:(x == ("__debug__":Str))=false:=by decide) (he:starEach (e::es) X.env=(false,eval e X.env)::starEach es X.env:=by rfl) (hpl:(backTo pos (starEach es X.env)).any (·.1)=false:=by rfl) :
  QE X (.Call (.Name x p) (e::es) [] pos) (tMake C sp dvs E t):=⟨agA M F hr hg hm hb hd hx ha.run hdb he hpl⟩
theorem agn {tg l:Expr}{tl:TE}{p pos:Pos} (hg:Gl X "reversed") (hm:X.mg "reversed"=none) (hl:QE X l tl) (hs:starEach [l] X.env=[(false,eval l X.env)]:=by rfl):QI X tg (.Call (.Name "reversed" p) [l] [] pos) (SwR.afW X.K tl):=⟨SwR.agx hg hm hl.run hs⟩
theorem agz {a:Expr}{ta:TE}{pos:Pos} (ha:PE X a ta):PE X (.UnaryOp .Not a pos) (fun σ H Q=>ta σ H fun x H'=>∃ k,Yh X.K x H' k∧Q (.bl (!k)) H'):=by
 intro pins s σ H Q I h
 refine UnaryOp_ (thn (ha pins s σ H _ I h) fun v s1 ⟨x,H1,I1,r1,q1⟩=>?_)
 refine not_of (thn (acv pins s1 σ H1 x v (fun k H2=>Q (.bl (!k)) H2) I1 r1 q1) fun k s2 ⟨H2,I2,q2⟩=>?_)
 exact⟨.bl (!k),H2,I2,rfl,q2⟩
theorem agq {a:Expr}{ta:TE}{pos:Pos} (ha:QE X a ta):QE X (.UnaryOp .Not a pos) (fun σ H Q=>ta σ H fun x H'=>∃ k,Yh X.K x H' k∧Q (.bl (!k)) H'):=⟨agz ha.run⟩
end
end Sw
namespace Sw
open PySem PySem.Spec PyProof.Rows L2
structure Own (K:PySem.W.Frag) (ao au aG aM aO aL:Addr):Prop where
 rF:Yk K ao
 rL:Yk K au
 gP:Cls K aG
 cText:Cls K aM
 Ik:Cls K aO
 dM:Cls K aL
 fi:NoAttr K ao "item"
 fb:NoAttr K ao "behind"
 lt:NoAttr K au "tree"
 lp:NoAttr K au "place"
 wk:NoAttr K aG "kind"
 wl:NoAttr K aG "load"
 wy:NoAttr K aG "yes"
 wn:NoAttr K aG "no"
 wb:NoAttr K aG "body"
 ws:NoAttr K aG "size"
 tt:NoAttr K aM "tree"
 tw:NoAttr K aM "words"
 gt:NoAttr K aO "text"
 gp:NoAttr K aO "place"
 kg:NoAttr K aL "goings"
 ks:NoAttr K aL "stack"
 kn:NoAttr K aL "numbers"
 kl:NoAttr K aL "left"
 iTF:PySem.W.kitOne K (.type "tuple") (.ref ao)=some false
 iTL:PySem.W.kitOne K (.type "tuple") (.ref au)=some false
 iFF:PySem.W.kitOne K (.ref ao) (.ref ao)=some true
 iLF:PySem.W.kitOne K (.ref au) (.ref ao)=some false
 iLL:PySem.W.kitOne K (.ref au) (.ref au)=some true
theorem V7 (f:Str) (v:V):putF f v []=[(f,v)]:=rfl
theorem xu (f:Str) (u v:V) (r:List (Str×V)):putF f v ((f,u)::r)=(f,v)::r:=by rw [putF,if_pos rfl]
theorem bZ {f g:Str} (h:¬ g=f) (u v:V) (r:List (Str×V)):putF f v ((g,u)::r)=(g,u)::putF f v r:=by rw [putF,if_neg h]
theorem fC (f:Str) (u:V) (r:List (Str×V)):List.lookup f ((f,u)::r)=some u:=by rw [List.lookup_cons,beq_self_eq_true]
theorem cJ {f g:Str} (h:(f == g)=false) (u:V) (r:List (Str×V)):List.lookup f ((g,u)::r)=List.lookup f r:=by rw [List.lookup_cons,h]
def fF (y z:V):List (Str×V):=[("item",y),("behind",z)]
def fL (v:V) (p:Nat):List (Str×V):=[("tree",v),("place",.int (p:Int))]
def fT (v:V) (W:Addr):List (Str×V):=[("tree",v),("words",.ref W)]
def fG (a:Addr) (p:Nat):List (Str×V):=[("text",.ref a),("place",.int (p:Int))]
def fD (k:Nat) (v y n b z:V):List (Str×V):=[("kind",.int (k:Int)),("load",v),("yes",y),("no",n),("body",b),("size",z)]
def fW (G S N:Addr) (b:Nat):List (Str×V):=[("goings",.ref G),("stack",.ref S),("numbers",.ref N),("left",.int (b:Int))]
theorem Oq {f g:Str} (h:¬ f=g) (u v:V):putF g v (putF f u [])=[(f,u),(g,v)]:=by rw [V7,bZ h,V7]
inductive Role where
 | mine
 | text (t:T) (W:Addr)
 | words (t:T)
 | word (w:T)
 | row (t:T)
abbrev Mp:=Addr→Option Role
def setM (M:Mp) (p:Addr) (r:Role):Mp:=fun a=>if a=p then some r else M a
theorem eN {M:Mp}{p:Addr}{r:Role}:setM M p r p=some r:=by unfold setM; rw [if_pos rfl]
theorem iI {M:Mp}{a p:Addr}{r:Role} (h:a≠p):setM M p r a=M a:=by unfold setM; rw [if_neg h]
section
variable (K:PySem.W.Frag) (CF CL CD CT CG CW:Addr)
def RV (M:Mp) (H:Hp) (t:T) (x:V):Prop:=TR K H t x∨∃ a,x=.ref a∧M a=some (.row t)
def wI (M:Mp) (a:Addr) (t:T):Prop:=∃ W,M a=some (.text t W)
def Ok1 (M:Mp) (H:Hp) (a:Addr):Role→Prop
 | .mine=>True
 | .text t W=>∃ dx v,H a=some (.ins CT dx (fT v W))∧TR K H t v∧M W=some (.words t)
 | .words t=>∃ xs,H a=some (.lst xs)∧xs.length≤t.kids.length∧∀ (j:Nat) x,xs[j]?=some x→∃ b w,x=.ref b∧t.kids[j]?=some w∧M b=some (.word w)
 | .word w=>∃ dx v y n bd sz,H a=some (.ins CD dx (fD (aH w) v y n bd sz))∧TR K H (bL w) v∧(aH w=7→∃ ay an,y=.ref ay∧n=.ref an∧wI M ay (ats (bL w).kids 0)∧wI M an (bL (bL w))) ∧
   (aH w=8→∃ ab,bd=.ref ab∧wI M ab (bL w))∧(sz=.non∨sz=.int ((bL w).parts:Nat))
 | .row t=>(∃ dx y z u ts,H a=some (.ins CF dx (fF y z))∧t=.node (u::ts)∧RV K M H u y∧RV K M H (.node ts) z)∨∃ dx v ts p,H a=some (.ins CL dx (fL v p))∧TR K H (.node ts) v∧p<ts.length∧ts.length≤8000000∧t=.node (ts.drop p)
structure Gh (M:Mp) (H₀ H:Hp):Prop where
 same:Same H₀ H
 new:∀ a r,M a=some r→H₀ a=none
 has:∀ a r,M a=some r→∃ o,H a=some o
 ok:∀ a r,M a=some r→Ok1 K CF CL CD CT M H a r
structure Go (X:Addr→Prop) (M M':Mp) (H₀ H H':Hp):Prop where
 ext:∀ a r,M a=some r→M' a=some r
 mine:∀ a,M a=some .mine→¬ X a→H' a=H a
 kt:Kt H H'
 gh:Gh K CF CL CD CT M' H₀ H'
 wds:∀ W t ws,M W=some (.words t)→H W=some (.lst ws)→∃ ws',H' W=some (.lst ws')∧ws.length≤ws'.length
end
section
variable {K:PySem.W.Frag}{CF CL CD CT CG CW:Addr}{M M' M'':Mp}{H₀ H H' H'':Hp}{X Y:Addr→Prop}
theorem RV.mono {t:T}{x:V} (k:Kt H H') (e:∀ a t,M a=some (.row t)→M' a=some (.row t)) (h:RV K M H t x):RV K M' H' t x:=by
 rcases h with h | ⟨a,rfl,h⟩
 ·exact .inl (h.mono k)
 ·exact .inr ⟨a,rfl,e _ _ h⟩
theorem Ok1.mono {a:Addr}{r:Role} (h:Ok1 K CF CL CD CT M H a r) (ha:H' a=H a) (k:Kt H H') (e:∀ a r,r≠.mine→M a=some r→M' a=some r):Ok1 K CF CL CD CT M' H' a r:=by
 cases r with
 | mine=>trivial
 | text t W =>
  obtain⟨dx,v,h1,h2,h3⟩:=h
  exact⟨dx,v,ha.trans h1,h2.mono k,e _ _ (by simp) h3⟩
 | words t =>
  obtain⟨xs,h1,h2,h3⟩:=h
  refine⟨xs,ha.trans h1,h2,fun j x hx=>?_⟩
  obtain⟨b,w,e1,e2,e3⟩:=h3 j x hx
  exact⟨b,w,e1,e2,e _ _ (by simp) e3⟩
 | word w =>
  obtain⟨dx,v,y,n,bd,sz,h1,h2,h3,h4,h5⟩:=h
  refine⟨dx,v,y,n,bd,sz,ha.trans h1,h2.mono k,fun s7=>?_,fun s8=>?_,h5⟩
  ·obtain⟨ay,an,e1,e2,⟨W1,e3⟩,W2,e4⟩:=h3 s7
   exact⟨ay,an,e1,e2,⟨W1,e _ _ (by simp) e3⟩,W2,e _ _ (by simp) e4⟩
  ·obtain⟨ab,e1,W,e2⟩:=h4 s8
   exact⟨ab,e1,W,e _ _ (by simp) e2⟩
 | row t =>
  have er:∀ a t,M a=some (.row t)→M' a=some (.row t):=fun a t=>e a _ (by simp)
  rcases h with⟨dx,y,z,u,ts,h1,h2,h3,h4⟩ | ⟨dx,v,ts,p,h1,h2,h3,h4,h5⟩
  ·exact .inl ⟨dx,y,z,u,ts,ha.trans h1,h2,h3.mono k er,h4.mono k er⟩
  ·exact .inr ⟨dx,v,ts,p,ha.trans h1,h2.mono k,h3,h4,h5⟩
theorem Gh.nil (H:Hp):Gh K CF CL CD CT (fun _=>none) H H:=⟨Same.refl _,fun _ _ z=>(by cases z),fun _ _ z=>(by cases z),fun _ _ z=>(by cases z)⟩
theorem Gh.grow (g:Gh K CF CL CD CT M H₀ H) (S:Same H H'):Gh K CF CL CD CT M H₀ H' :=
 ⟨g.same.trans S,g.new,fun a r h=>by obtain⟨o,e⟩:=g.has a r h; exact⟨o,S _ _ e⟩,fun a r h=>by
  obtain⟨o,e⟩:=g.has a r h
  exact (g.ok a r h).mono ((S _ _ e).trans e.symm) (.of S) fun _ _ _ z=>z⟩
theorem Gh.mut {p:Addr}{o:HO} (g:Gh K CF CL CD CT M H₀ H) (hp:M p=some .mine) (k:Kt H (upd H p o)):Gh K CF CL CD CT M H₀ (upd H p o):=by
 refine⟨dZ g.same (g.new _ _ hp),g.new,fun a r h=>?_,fun a r h=>?_⟩
 ·by_cases z:a=p
  ·exact⟨o,by rw [z,upd_same]⟩
  ·obtain⟨u,e⟩:=g.has a r h
   exact⟨u,by rw [upd_ne z]; exact e⟩
 ·by_cases z:a=p
  ·rw [z,hp] at h
   cases h
   trivial
  ·exact (g.ok a r h).mono (upd_ne z) k fun _ _ _ z=>z
theorem Gh.put {p:Addr}{o:HO}{r:Role} (g:Gh K CF CL CD CT M H₀ H) (hp:M p=some r) (k:Kt H (upd H p o)) (h:Ok1 K CF CL CD CT M (upd H p o) p r):Gh K CF CL CD CT M H₀ (upd H p o):=by
 refine⟨dZ g.same (g.new _ _ hp),g.new,fun a r h=>?_,fun a r' h'=>?_⟩
 ·by_cases z:a=p
  ·exact⟨o,by rw [z,upd_same]⟩
  ·obtain⟨u,e⟩:=g.has a r h
   exact⟨u,by rw [upd_ne z]; exact e⟩
 ·by_cases z:a=p
  ·rw [z,hp] at h'
   cases h'
   rw [z]
   exact h
  ·exact (g.ok a r' h').mono (upd_ne z) k fun _ _ _ z=>z
theorem Gh.role {p:Addr}{r:Role} (g:Gh K CF CL CD CT M H₀ H) (hp:M p=none∨M p=some .mine) (hn:H₀ p=none) (hh:∃ o,H p=some o) (h:Ok1 K CF CL CD CT (setM M p r) H p r):Gh K CF CL CD CT (setM M p r) H₀ H:=by
 refine⟨g.same,fun a r' h'=>?_,fun a r' h'=>?_,fun a r' h'=>?_⟩
 ·by_cases z:a=p
  ·rw [z]; exact hn
  ·rw [iI z] at h'; exact g.new a r' h'
 ·by_cases z:a=p
  ·rw [z]; exact hh
  ·rw [iI z] at h'; exact g.has a r' h'
 ·by_cases z:a=p
  ·rw [z,eN] at h'
   cases h'
   rw [z]
   exact h
  ·rw [iI z] at h'
   refine (g.ok a r' h').mono rfl (Kt.refl _) fun b r2 hr hb=>?_
   by_cases y:b=p
   ·rw [y] at hb
    rcases hp with hp | hp
    ·rw [hp] at hb; cases hb
    ·rw [hp] at hb; cases hb; exact absurd rfl hr
   ·rw [iI y]; exact hb
theorem Go.refl (g:Gh K CF CL CD CT M H₀ H):Go K CF CL CD CT X M M H₀ H H:=⟨fun _ _ z=>z,fun _ _ _=>rfl,Kt.refl _,g,fun _ _ ws _ h=>⟨ws,h,Nat.le_refl _⟩⟩
theorem Go.trans (a:Go K CF CL CD CT X M M' H₀ H H') (b:Go K CF CL CD CT X M' M'' H₀ H' H''):Go K CF CL CD CT X M M'' H₀ H H'' :=
 ⟨fun p r h=>b.ext _ _ (a.ext _ _ h),fun p h x=>(b.mine p (a.ext _ _ h) x).trans (a.mine p h x),a.kt.trans b.kt,b.gh,fun W t ws h1 h2=>by
  obtain⟨w1,e1,l1⟩:=a.wds W t ws h1 h2
  obtain⟨w2,e2,l2⟩:=b.wds W t w1 (a.ext _ _ h1) e1
  exact⟨w2,e2,by lia⟩⟩
theorem Go.weak (a:Go K CF CL CD CT X M M' H₀ H H') (h:∀ p,X p→Y p):Go K CF CL CD CT Y M M' H₀ H H':=⟨a.ext,fun p m y=>a.mine p m fun z=>y (h p z),a.kt,a.gh,a.wds⟩
theorem Go.grow (g:Gh K CF CL CD CT M H₀ H) (S:Same H H'):Go K CF CL CD CT X M M H₀ H H' :=
 ⟨fun _ _ z=>z,fun a h _=>by obtain⟨o,e⟩:=g.has a _ h; exact (S _ _ e).trans e.symm,.of S,g.grow S,fun _ _ ws _ h=>⟨ws,S _ _ h,Nat.le_refl _⟩⟩
theorem Go.rv {t:T}{x:V} (a:Go K CF CL CD CT X M M' H₀ H H') (h:RV K M H t x):RV K M' H' t x:=h.mono a.kt fun p t e=>a.ext p _ e
abbrev mkO (H:Hp) (x dx C:Addr) (fs:List (Str×V)):Hp:=upd (upd H dx (.own x)) x (.ins C dx fs)
theorem lD {H:Hp}{p:Addr}{a b:HO}:upd (upd H p a) p b=upd H p b:=by
 funext q
 by_cases h:q=p
 ·rw [h,upd_same,upd_same]
 ·rw [upd_ne h,upd_ne h,upd_ne h]
theorem akp {H:Hp}{p q:Addr}{a b:HO} (h:p≠q):upd (upd H p a) q b=upd (upd H q b) p a:=by
 funext r
 by_cases h1:r=p
 ·rw [h1,upd_ne h,upd_same,upd_same]
 ·by_cases h2:r=q
  ·rw [h2,upd_same,upd_ne (Ne.symm h),upd_same]
  ·rw [upd_ne h2,upd_ne h1,upd_ne h1,upd_ne h2]
variable {x dx C p:Addr}{fs fs':List (Str×V)}{o:HO}
theorem je:mkO H x dx C fs x=some (.ins C dx fs):=upd_same
theorem adi:upd (mkO H x dx C fs) x (.ins C dx fs')=mkO H x dx C fs':=lD
theorem jB (hx:H x=none) (hd:H dx=none) (ne:dx≠x):Same H (mkO H x dx C fs):=by
 refine (same_new hd _).trans (same_new ?_ _)
 rw [upd_ne (Ne.symm ne)]
 exact hx
theorem Go.made (g:Gh K CF CL CD CT M H₀ H) (hx:H x=none) (hd:H dx=none) (ne:dx≠x):Go K CF CL CD CT X M (setM M x .mine) H₀ H (mkO H x dx C fs):=by
 have S:=jB (C:=C) (fs:=fs) hx hd ne
 have nM:M x=none:=by
  cases h:M x with
  | none=>rfl
  | some r=>obtain⟨o,e⟩:=g.has x r h; rw [hx] at e; cases e
 have g1:=(g.grow S).role (p:=x) (r:=.mine) (.inl nM) (g.same.free hx) ⟨_,je⟩ trivial
 refine⟨fun a r h=>?_,fun a h _=>?_,.of S,g1,fun _ _ ws _ h=>⟨ws,S _ _ h,Nat.le_refl _⟩⟩
 ·rw [iI (fun z=>by rw [z,nM] at h; cases h)]; exact h
 ·obtain⟨o,e⟩:=g.has a _ h; exact (S _ _ e).trans e.symm
theorem Go.Rt (g:Gh K CF CL CD CT M H₀ H) (hx:H p=none):Go K CF CL CD CT X M (setM M p .mine) H₀ H (upd H p o):=by
 have S:=same_new hx o
 have nM:M p=none:=by
  cases h:M p with
  | none=>rfl
  | some r=>obtain⟨o,e⟩:=g.has p r h; rw [hx] at e; cases e
 have g1:=(g.grow S).role (p:=p) (r:=.mine) (.inl nM) (g.same.free hx) ⟨_,upd_same⟩ trivial
 refine⟨fun a r h=>?_,fun a h _=>?_,.of S,g1,fun _ _ ws _ h=>⟨ws,S _ _ h,Nat.le_refl _⟩⟩
 ·rw [iI (fun z=>by rw [z,nM] at h; cases h)]; exact h
 ·obtain⟨o,e⟩:=g.has a _ h; exact (S _ _ e).trans e.symm
theorem Go.role {r:Role} (g:Gh K CF CL CD CT M H₀ H) (S:Same H H') (hx:H p=none) (hh:∃ o,H' p=some o) (h:Ok1 K CF CL CD CT (setM M p r) H' p r):Go K CF CL CD CT X M (setM M p r) H₀ H H':=by
 have nM:M p=none:=by
  cases h:M p with
  | none=>rfl
  | some r=>obtain⟨o,e⟩:=g.has p r h; rw [hx] at e; cases e
 have g1:=(g.grow S).role (p:=p) (r:=r) (.inl nM) (g.same.free hx) hh h
 refine⟨fun a r h=>?_,fun a h _=>?_,.of S,g1,fun _ _ ws _ h=>⟨ws,S _ _ h,Nat.le_refl _⟩⟩
 ·rw [iI (fun z=>by rw [z,nM] at h; cases h)]; exact h
 ·obtain⟨o,e⟩:=g.has a _ h; exact (S _ _ e).trans e.symm
theorem Gh.fresh (g:Gh K CF CL CD CT M H₀ H) (hx:H p=none):M p=none:=by
 cases h:M p with
 | none=>rfl
 | some r=>obtain⟨o,e⟩:=g.has p r h; rw [hx] at e; cases e
end
end Sw
namespace Sw
open PySem PySem.Spec PyProof.Rows L2
section
variable (K:PySem.W.Frag) (CF CL CD CT CG CW:Addr)
def UV (H:Hp) (t:T) (x:V):Prop:=TR K H t x∨∃ a dx v ts p,x=.ref a∧H a=some (.ins CL dx (fL v p))∧TR K H (.node ts) v∧p<ts.length∧ts.length≤8000000∧t=.node (ts.drop p)
def FV (M:Mp) (H:Hp) (t:T) (x:V):Prop:=∃ a dx y z u ts,x=.ref a∧H a=some (.ins CF dx (fF y z))∧t=.node (u::ts)∧RV K M H u y∧RV K M H (.node ts) z
def Vy:Sp:=fun vs H Q _=>∃ o dx y z,vs=[.ref o,y,z]∧H o=some (.ins CF dx [])∧Q .non (upd H o (.ins CF dx (fF y z)))
def Vv:Sp:=fun vs H Q _=>∃ (o dx:Addr) (v:V) (p:Nat),vs=[.ref o,v,.int (p:Int)]∧H o=some (.ins CL dx [])∧Q .non (upd H o (.ins CL dx (fL v p)))
def KN:Sp:=fun vs H Q _=>∃ o dx a,vs=[.ref o,.ref a]∧H o=some (.ins CG dx [])∧Q .non (upd H o (.ins CG dx (fG a 0)))
def KJ:Sp:=fun vs H Q _=>∃ o dx v,vs=[.ref o,v]∧H o=some (.ins CT dx [])∧∀ W,H W=none→Q .non (upd (upd H W (.lst [])) o (.ins CT dx (fT v W)))
def Tz:Sp:=fun vs H Q _=>∃ x t M H₀,vs=[x]∧Gh K CF CL CD CT M H₀ H∧RV K M H t x∧t.deep≤400∧∀ y H',Same H H'→RV K M H' (ats t.kids 0) y→Q y H'
def ZM:Sp:=fun vs H Q _=>∃ (x:V) (ts:List T) (p:Nat) (M:Mp) (H₀:Hp),vs=[x,.int (p:Int)]∧Gh K CF CL CD CT M H₀ H∧TR K H (.node ts) x∧ts.length≤8000000∧∀ y M' H',Same H H'→Go K CF CL CD CT (fun _=>False) M M' H₀ H H'→RV K M' H' (.node (ts.drop p)) y→Q y H'
def Vo:Sp:=fun vs H Q _=>∃ x t M H₀,vs=[x]∧Gh K CF CL CD CT M H₀ H∧RV K M H t x∧t.deep≤400∧t.kids.length≤8000000∧∀ y M' H',Same H H'→Go K CF CL CD CT (fun _=>False) M M' H₀ H H'→RV K M' H' (bL t) y→Q y H'
def Vm:Sp:=fun vs H Q _=>∃ x t,vs=[x]∧UV K CL H t x∧∀ y H',Same H H'→TR K H' t y→Q y H'
def Vq:Sp:=fun vs H Q _=>∃ (x:V) (t:T) (M:Mp) (H₀:Hp) (m:Nat),vs=[x,.int (m:Int)]∧Gh K CF CL CD CT M H₀ H∧RV K M H t x∧t.parts≤8000000∧∀ (c:Nat) H',Same H H'→(t.parts≤m→c=t.parts)→(m<t.parts→m<c)→Q (.int (c:Int)) H'
def VB:Sp:=fun vs H Q _=>∃ x t M H₀,vs=[x]∧Gh K CF CL CD CT M H₀ H∧RV K M H t x∧t.parts≤8000000∧∀ y H',Same H H'→TR K H' t y→Q y H'
end
section
variable {K:PySem.W.Frag}{CF CL CD CT CG CW:Addr}{M M':Mp}{H₀ H H':Hp}
theorem u_ {t:T}{x:V} (h:TR K H t x):∃ b ys,x=.ref b∧SqT K H b ys∧TRs K H t.kids ys:=by
 cases t with
 | node ts=>exact cN.mp h
theorem RV.cases {t:T}{x:V} (g:Gh K CF CL CD CT M H₀ H) (h:RV K M H t x):UV K CL H t x∨FV K CF M H t x:=by
 rcases h with h | ⟨a,rfl,h⟩
 ·exact .inl (.inl h)
 ·rcases g.ok a _ h with⟨dx,y,z,u,ts,h1,h2,h3,h4⟩ | ⟨dx,v,ts,p,h1,h2,h3,h4,h5⟩
  ·exact .inr ⟨a,dx,y,z,u,ts,rfl,h1,h2,h3,h4⟩
  ·exact .inl (.inr ⟨a,dx,v,ts,p,rfl,h1,h2,h3,h4,h5⟩)
def WPW (K:PySem.W.Frag) (M:Mp) (H:Hp) (x:V) (m n:Nat) (p:Addr):Nat→Sg→Hp→Prop:=fun μ σ H'=>∃ (ys:List V) (ts:List T) (c:Nat) (o:Option V),
 σ=[some x,some (.int (m:Int)),some (.ref p),some (.int (c:Int)),o]∧Same H H'∧H' p=some (.lst ys)∧aX (RV K M H') ts.reverse ys∧c+T.aq ts=n∧μ=2 * T.aq ts - ts.length
theorem iB {ts:List T}{ys:List V} (k:Kt H H') (h:aX (RV K M H) ts ys):aX (RV K M H') ts ys:=h.imp fun _ _ z=>z.mono k fun _ _ y=>y
theorem Qo:∀ {ts:List T}{ys:List V},TRs K H ts ys→aX (RV K M H) ts ys
 | [],_,h=>by rw [bO.mp h]; exact .nil
 | t::ts,_,h=>by
  obtain⟨x,r,rfl,h1,h2⟩:=cI.mp h
  exact .cons (.inl h1) (Qo h2)
theorem all_nil {α β:Type}{R:α→β→Prop}{ts:List α} (h:aX R ts.reverse []):ts=[]:=by
 have:=h.length
 rw [List.length_reverse] at this
 exact List.length_eq_zero_iff.mp (by simpa using this.symm)
theorem nT {α β:Type}{R:α→β→Prop}{ts:List α}{ys:List β} (h:aX R ts.reverse ys) (hne:ys≠[]):∃ u ts0 ys0 y,ts=u::ts0∧ys=ys0++[y]∧aX R ts0.reverse ys0∧R u y:=by
 cases ts with
 | nil=>exact absurd (by cases h; rfl) hne
 | cons u ts0 =>
  rw [List.reverse_cons] at h
  obtain⟨ys0,y,rfl,h1,h2⟩:=aX.snoc h
  exact⟨u,ts0,ys0,y,rfl,rfl,h1,h2⟩
theorem mY {α:Type} (xs:List α) (y:α):(xs++[y])[(xs++[y]).length - 1]?=some y:=by simp
theorem mZ {α:Type} (xs:List α) (y:α):(xs++[y]).dropLast=xs:=by simp
theorem adX {α β:Type}{R:α→β→Prop}{ts:List α}{ys:List β} (h:aX R ts.reverse ys) (hne:ys≠[]):∃ u ts0 y,ts=u::ts0∧ys[ys.length - 1]?=some y∧aX R ts0.reverse ys.dropLast∧R u y:=by
 obtain⟨u,ts0,ys0,y,rfl,rfl,h1,h2⟩:=nT h hne
 exact⟨u,ts0,y,rfl,mY _ _,by rw [mZ]; exact h1,h2⟩
theorem Dy:∀ ts:List T,T.aq ts.reverse=T.aq ts
 | []=>rfl
 | t::ts=>by rw [List.reverse_cons,T.cL,Dy ts,T.aA,T.aA,T.aR]; lia
structure Ki (H H':Hp):Prop where
 kt:Kt H H'
 ins:∀ a C dx fs,H a=some (.ins C dx fs)→H' a=some (.ins C dx fs)
theorem Ki.of (S:Same H H'):Ki H H':=⟨.of S,fun a _ _ _ h=>S _ _ h⟩
theorem Ki.lst {p:Addr}{ys:List V}{o:HO} (h:H p=some (.lst ys)):Ki H (upd H p o):=⟨Kt.lst h,fun a _ _ _ e=>by rw [upd_ne (fun z=>by rw [z,h] at e; cases e)]; exact e⟩
theorem UV.mono {t:T}{x:V} (k:Ki H H') (h:UV K CL H t x):UV K CL H' t x:=by
 rcases h with h | ⟨a,dx,v,ts,p,h1,h2,h3,h4,h5,h6⟩
 ·exact .inl (h.mono k.kt)
 ·exact .inr ⟨a,dx,v,ts,p,h1,k.ins _ _ _ _ h2,h3.mono k.kt,h4,h5,h6⟩
theorem UV.aik {t:T}{x:V} (O:Own K CF CL CD CT CG CW) (h:UV K CL H t x):(∃ ty,TyOf K H x ty∧PySem.W.kitOne K ty (.ref CF)=some false)∨(∃ a ys,x=.ref a∧SqT K H a ys∧PySem.W.kitOne K (.type "tuple") (.ref CF)=some false):=by
 rcases h with h | ⟨a,dx,v,ts,p,rfl,h2,_⟩
 ·obtain⟨b,ys,rfl,hb,_⟩:=u_ h
  exact .inr ⟨b,ys,rfl,hb,O.iTF⟩
 ·exact .inl ⟨_,O.rL.ty h2,O.iLF⟩
theorem gF {n:Nat} (h:n<16000000):n<sizeLine:=Nat.lt_of_lt_of_le h (by decide)
end
end Sw
namespace Sw
open PySem PySem.Spec PyProof.Rows L2
def Dc:List (List T)→List T→T
 | [l],r::_=>.node (l++r.kids)
 | l::l'::ls,r::rs=>Dc ((l'++[.node (l++r.kids)])::ls) rs
 | _,_=>leaf
theorem aen (l:List T) (ls:List (List T)) (u:T) (ts:List T) (rs:List T):Dc ([]::l::ls) (u::.node ts::rs)=Dc (l::ls) (.node (u::ts)::rs):=by
 rw [Dc]
 have e:T.node ([]++u.kids)=u:=by cases u; rfl
 rw [e]
 cases ls with
 | nil =>
  show T.node ((l++[u])++ts)=T.node (l++(u::ts))
  rw [List.append_assoc]; rfl
 | cons l' ls =>
  rw [Dc,Dc]
  have:(l++[u])++(T.node ts).kids=l++(T.node (u::ts)).kids:=by
   show (l++[u])++ts=l++(u::ts)
   rw [List.append_assoc]; rfl
  rw [this]
structure AsT (K:PySem.W.Frag) (H₀ H:Hp) (R P:Addr) (ys:List V) (st:List (List T)) (zs:List V):Prop where
 rows:E_ K H₀ H R st ys
 pn:H₀ P=none
 at_:H P=some (.lst zs)
 np:(.ref P:V) ∉ (.ref R:V)::ys
section
variable {K:PySem.W.Frag}{H₀ H H':Hp}{R P:Addr}{ys zs zs':List V}{st:List (List T)}
theorem AsT.grow (h:AsT K H₀ H R P ys st zs) (S:Same H H'):AsT K H₀ H' R P ys st zs:=⟨acK h.rows S,h.pn,S _ _ h.at_,h.np⟩
theorem AsT.PR (h:AsT K H₀ H R P ys st zs):P≠R:=fun z=>h.np (by rw [z]; exact List.mem_cons_self)
theorem AsT.place (h:AsT K H₀ H R P ys st zs):AsT K H₀ (upd H P (.lst zs')) R P ys st zs':=⟨acM h.rows (Kt.lst h.at_) h.pn h.np,h.pn,upd_same,h.np⟩
theorem AsT.enter (h:AsT K H₀ H R P ys st zs) {q:Addr} (hq:H q=none):AsT K H₀ (upd (upd H q (.lst [])) R (.lst (ys++[.ref q]))) R P (ys++[.ref q]) ([]::st) zs:=by
 have nPq:P≠q:=ne_of_none h.at_ hq
 refine⟨acL h.rows hq,h.pn,?_,fun z=>?_⟩
 ·rw [upd_ne h.PR,upd_ne nPq]; exact h.at_
 ·rcases List.mem_cons.mp z with z | z
  ·exact h.PR (V.ref.inj z)
  ·rcases List.mem_append.mp z with z | z
   ·exact h.np (List.mem_cons_of_mem _ z)
   ·exact nPq (V.ref.inj (List.mem_singleton.mp z))
theorem AsT.add {r:List T}{rs:List (List T)}{t:T}{x:V} (h:AsT K H₀ H R P ys (r::rs) zs) (ht:TR K H t x) :
  ∃ (ys0:List V) (a:Addr) (xs:List V),ys=ys0++[.ref a]∧H a=some (.lst xs)∧xs.length=r.length∧AsT K H₀ (upd H a (.lst (xs++[x]))) R P ys ((r++[t])::rs) zs:=by
 have hr:=h.rows.rows
 rw [List.reverse_cons] at hr
 obtain⟨ys0,y,rfl,h1,a,xs,rfl,ha0,ha,hta⟩:=aX.snoc hr
 have nd:=h.rows.nd
 have ndp:=(List.nodup_cons.mp nd).1
 have ndy:=(List.nodup_cons.mp nd).2
 have na:(.ref a:V) ∉ ys0:=fun z=>(List.nodup_append.mp ndy).2.2 _ z _ (by simp) rfl
 have nRa:R≠a:=fun z=>ndp (by rw [z]; simp)
 have nPa:P≠a:=fun z=>h.np (by rw [z]; simp)
 have k:=Kt.lst (o:=.lst (xs++[x])) ha
 refine⟨ys0,a,xs,rfl,ha,hta.length,⟨h.rows.new,dZ h.rows.same ha0,by rw [upd_ne nRa]; exact h.rows.at_,?_,nd⟩,h.pn,by rw [upd_ne nPa]; exact h.at_,h.np⟩
 rw [List.reverse_cons]
 exact aX.append (yd k h1 na) (aX.one ⟨a,_,rfl,ha0,upd_same,TRs.append (hta.mono k) (gD (ht.mono k))⟩)
theorem AsT.shut {r:List T}{rs:List (List T)} (h:AsT K H₀ H R P ys (r::rs) zs) :
  ∃ (ys0:List V) (a:Addr) (xs:List V),ys=ys0++[.ref a]∧R≠a∧H a=some (.lst xs)∧TRs K H r xs∧AsT K H₀ (upd H R (.lst ys0)) R P ys0 rs zs:=by
 have hr:=h.rows.rows
 rw [List.reverse_cons] at hr
 obtain⟨ys0,y,rfl,h1,a,xs,rfl,ha0,ha,hta⟩:=aX.snoc hr
 have nd:=h.rows.nd
 have ndp:=(List.nodup_cons.mp nd).1
 have ndy:=(List.nodup_cons.mp nd).2
 have nRa:R≠a:=fun z=>ndp (by rw [z]; simp)
 have k:=Kt.lst (o:=.lst ys0) h.rows.at_
 refine⟨ys0,a,xs,rfl,nRa,ha,hta,⟨h.rows.new,dZ h.rows.same h.rows.new,upd_same,yd k h1 fun z=>ndp (by simp [z]),List.nodup_cons.mpr ⟨fun z=>ndp (by simp [z]),(List.nodup_append.mp ndy).1⟩⟩,h.pn,by rw [upd_ne h.PR]; exact h.at_,fun z=>h.np ?_⟩
 rcases List.mem_cons.mp z with z | z
 ·rw [z]; exact List.mem_cons_self
 ·exact List.mem_cons_of_mem _ (List.mem_append_left _ z)
theorem agW {α:Type} (xs:List α) (y:α):ixN (xs++[y]).length (-1)=some xs.length:=by
 unfold ixN
 have hl:(xs++[y]).length=xs.length+1:=by simp
 rw [if_neg (by decide),if_pos (by rw [hl]; lia),hl,show ((-1:Int)+((xs.length+1:Nat):Int)).toNat=xs.length by lia]
theorem aeB {α:Type} (xs:List α) (y z:α):(xs++[y]).set xs.length z=xs++[z]:=by simp
end
end Sw
namespace Sw
open PySem PySem.Spec PyProof.Rows L2
def sX (k:Nat) (t:T):Nat:=if k=7 then (if t.kids=[] then 8 else 7) else if k=8 then (if t.kids=[] then 10 else 9) else if k=9 then 11 else k
section
variable (K:PySem.W.Frag) (CF CL CD CT CG CW:Addr)
def ZL:Sp:=fun vs H Q _=>∃ (k:Nat) (x:V) (t:T) (M:Mp) (H₀:Hp),vs=[.int (k:Int),x]∧Gh K CF CL CD CT M H₀ H∧RV K M H t x∧t.deep≤400∧∀ H',Same H H'→Q (.int (sX k t:Nat)) H'
def W7 (M:Mp) (w:T) (y n:V):Prop:=aH w=7→∃ ay an,y=.ref ay∧n=.ref an∧wI M ay (ats (bL w).kids 0)∧wI M an (bL (bL w))
def W8 (M:Mp) (w:T) (b:V):Prop:=aH w=8→∃ ab,b=.ref ab∧wI M ab (bL w)
def Vl:Sp:=fun vs H Q _=>∃ (o dx:Addr) (x:V) (w:T) (M:Mp) (H₀:Hp),vs=[.ref o,x]∧Gh K CF CL CD CT M H₀ H∧M o=some .mine∧H o=some (.ins CD dx [])∧TR K H w x∧w.deep≤400 ∧
 ∀ M' H' v y n b,Go K CF CL CD CT (fun a=>a=o) M M' H₀ H H'→(∀ c u,H c=some u→c≠o→H' c=some u)→H' o=some (.ins CD dx (fD (aH w) v y n b .non))→TR K H' (bL w) v→W7 M' w y n→W8 M' w b→Q .non H'
def ZQ:Sp:=fun vs H Q _=>∃ (b:Addr) (w:T) (M:Mp) (H₀:Hp),vs=[.ref b]∧Gh K CF CL CD CT M H₀ H∧M b=some (.word w)∧(bL w).parts≤8000000∧∀ H',Go K CF CL CD CT (fun _=>False) M M H₀ H H'→Q (.int ((bL w).parts:Nat)) H'
def Vj:Sp:=fun vs H Q _=>∃ (a:Addr) (t:T) (W:Addr) (p:Nat) (M:Mp) (H₀:Hp) (ws:List V),vs=[.ref a,.int (p:Int)]∧Gh K CF CL CD CT M H₀ H∧M a=some (.text t W)∧H W=some (.lst ws)∧p≤ws.length∧p≤t.kids.length∧t.deep≤400∧t.kids.length≤8000000 ∧
 (p=t.kids.length→Q .non H)∧∀ w,t.kids[p]?=some w→∀ b M' H',Go K CF CL CD CT (fun _=>False) M M' H₀ H H'→M' b=some (.word w)→(∀ ws',H' W=some (.lst ws')→p+1≤ws'.length)→Q (.ref b) H'
end
section
variable {K:PySem.W.Frag}{CF CL CD CT CG CW:Addr}{M M' M'':Mp}{H₀ H H' H1:Hp}{X:Addr→Prop}
theorem Go.pU {p:Addr}{u:HO} (a:Go K CF CL CD CT X M M' H₀ H H1) (hm:M' p=some .mine) (hX:X p) (k:Kt H1 (upd H1 p u)):Go K CF CL CD CT X M M' H₀ H (upd H1 p u) :=
 ⟨a.ext,fun q h x=>by rw [upd_ne (fun z:q=p=>x (by rw [z]; exact hX))]; exact a.mine q h x,a.kt.trans k,a.gh.mut hm k,fun W t ws h1 h2=>by
  obtain⟨ws',e,l⟩:=a.wds W t ws h1 h2
  have nW:W≠p:=fun z=>by have:=a.ext _ _ h1; rw [z,hm] at this; cases this
  exact⟨ws',by rw [upd_ne nW]; exact e,l⟩⟩
theorem Go.newText {a da W:Addr}{t:T}{v:V} (g:Gh K CF CL CD CT M H₀ H) (tv:TR K H t v) (ha:H a=none) (hd:H da=none) (ne:da≠a) (hW:mkO H a da CT [] W=none) :
  Go K CF CL CD CT X M (setM (setM M W (.words t)) a (.text t W)) H₀ H (upd (upd (mkO H a da CT []) W (.lst [])) a (.ins CT da (fT v W)))∧Same H (upd (upd (mkO H a da CT []) W (.lst [])) a (.ins CT da (fT v W)))∧wI (setM (setM M W (.words t)) a (.text t W)) a t:=by
 have S1:=jB (C:=CT) (fs:=[]) ha hd ne
 have hW0:H W=none:=S1.free hW
 have naW:a≠W:=fun z=>by rw [← z,je] at hW; cases hW
 have S2:=S1.trans (same_new hW (.lst []))
 have S3:Same H (upd (upd (mkO H a da CT []) W (.lst [])) a (.ins CT da (fT v W))):=dZ S2 ha
 have hWl:upd (upd (mkO H a da CT []) W (.lst [])) a (.ins CT da (fT v W)) W=some (.lst []):=by rw [upd_ne (Ne.symm naW),upd_same]
 have nMa:=g.fresh ha
 have nMW:=g.fresh hW0
 have g1:Gh K CF CL CD CT (setM M W (.words t)) H₀ (upd (upd (mkO H a da CT []) W (.lst [])) a (.ins CT da (fT v W))) :=
  (g.grow S3).role (p:=W) (.inl nMW) (g.same.free hW0) ⟨_,hWl⟩ ⟨[],hWl,Nat.zero_le _,fun j x h=>by simp at h⟩
 have g2:Gh K CF CL CD CT (setM (setM M W (.words t)) a (.text t W)) H₀ (upd (upd (mkO H a da CT []) W (.lst [])) a (.ins CT da (fT v W))) :=
  g1.role (p:=a) (.inl (by rw [iI naW]; exact nMa)) (g.same.free ha) ⟨_,upd_same⟩ ⟨da,v,upd_same,tv.mono (.of S3),by rw [iI (Ne.symm naW),eN]⟩
 refine⟨⟨fun p r h=>?_,fun p h _=>?_,.of S3,g2,fun _ _ ws _ h=>⟨ws,S3 _ _ h,Nat.le_refl _⟩⟩,S3,W,eN⟩
 ·rw [iI (fun z=>by rw [z,nMa] at h; cases h),iI (fun z=>by rw [z,nMW] at h; cases h)]; exact h
 ·obtain⟨o,e⟩:=g.has p _ h; exact (S3 _ _ e).trans e.symm
theorem wI.ext {a:Addr}{t:T} (h:wI M a t) (G:Go K CF CL CD CT X M M' H₀ H H'):wI M' a t:=by obtain⟨W,e⟩:=h; exact⟨W,G.ext _ _ e⟩
def d1 (k:V):List (Str×V):=[("kind",k)]
def d2 (k v:V):List (Str×V):=[("kind",k),("load",v)]
def d3 (k v y:V):List (Str×V):=[("kind",k),("load",v),("yes",y)]
def d4 (k v y n:V):List (Str×V):=[("kind",k),("load",v),("yes",y),("no",n)]
def d5 (k v y n b:V):List (Str×V):=[("kind",k),("load",v),("yes",y),("no",n),("body",b)]
theorem pd1 (k:V):putF "kind" k []=d1 k:=rfl
theorem pd2 (k v:V):putF "load" v (d1 k)=d2 k v:=by unfold d1 d2; rw [bZ (by decide +kernel)]; rfl
theorem pd3 (k v y:V):putF "yes" y (d2 k v)=d3 k v y:=by unfold d2 d3; rw [bZ (by decide +kernel),bZ (by decide +kernel)]; rfl
theorem pd4 (k v y n:V):putF "no" n (d3 k v y)=d4 k v y n:=by unfold d3 d4; rw [bZ (by decide +kernel),bZ (by decide +kernel),bZ (by decide +kernel)]; rfl
theorem pd5 (k v y n b:V):putF "body" b (d4 k v y n)=d5 k v y n b:=by unfold d4 d5; rw [bZ (by decide +kernel),bZ (by decide +kernel),bZ (by decide +kernel),bZ (by decide +kernel)]; rfl
theorem pd6 (k:Nat) (v y n b z:V):putF "size" z (d5 (.int (k:Int)) v y n b)=fD k v y n b z:=by unfold d5 fD; rw [bZ (by decide +kernel),bZ (by decide +kernel),bZ (by decide +kernel),bZ (by decide +kernel),bZ (by decide +kernel)]; rfl
variable {k:Nat}{v y n b z u:V}
theorem pdY:putF "yes" u (fD k v y n b z)=fD k v u n b z:=by unfold fD; rw [bZ (by decide +kernel),bZ (by decide +kernel),xu]
theorem pdN:putF "no" u (fD k v y n b z)=fD k v y u b z:=by unfold fD; rw [bZ (by decide +kernel),bZ (by decide +kernel),bZ (by decide +kernel),xu]
theorem pdB:putF "body" u (fD k v y n b z)=fD k v y n u z:=by unfold fD; rw [bZ (by decide +kernel),bZ (by decide +kernel),bZ (by decide +kernel),bZ (by decide +kernel),xu]
theorem pdS:putF "size" u (fD k v y n b z)=fD k v y n b u:=by unfold fD; rw [bZ (by decide +kernel),bZ (by decide +kernel),bZ (by decide +kernel),bZ (by decide +kernel),bZ (by decide +kernel),xu]
theorem ldK:(fD k v y n b z).lookup ("kind":Str)=some (.int (k:Int)):=fC _ _ _
theorem ldL:(fD k v y n b z).lookup ("load":Str)=some v:=(cJ (by decide +kernel) _ _).trans (fC _ _ _)
theorem ldY:(fD k v y n b z).lookup ("yes":Str)=some y:=(cJ (by decide +kernel) _ _).trans ((cJ (by decide +kernel) _ _).trans (fC _ _ _))
theorem ldN:(fD k v y n b z).lookup ("no":Str)=some n:=(cJ (by decide +kernel) _ _).trans ((cJ (by decide +kernel) _ _).trans ((cJ (by decide +kernel) _ _).trans (fC _ _ _)))
theorem ldB:(fD k v y n b z).lookup ("body":Str)=some b:=(cJ (by decide +kernel) _ _).trans ((cJ (by decide +kernel) _ _).trans ((cJ (by decide +kernel) _ _).trans ((cJ (by decide +kernel) _ _).trans (fC _ _ _))))
theorem ldS:(fD k v y n b z).lookup ("size":Str)=some z:=(cJ (by decide +kernel) _ _).trans ((cJ (by decide +kernel) _ _).trans ((cJ (by decide +kernel) _ _).trans ((cJ (by decide +kernel) _ _).trans ((cJ (by decide +kernel) _ _).trans (fC _ _ _)))))
theorem anJ {m:Str} (h1:(m == "kind")=false) (h2:(m == "load")=false) (h3:(m == "yes")=false) (h4:(m == "no")=false) (h5:(m == "body")=false) (h6:(m == "size")=false):(fD k v y n b z).lookup m=none :=
 (cJ h1 _ _).trans ((cJ h2 _ _).trans ((cJ h3 _ _).trans ((cJ h4 _ _).trans ((cJ h5 _ _).trans ((cJ h6 _ _).trans rfl)))))
theorem aak {CG CW:Addr}{m:Nat} (O:Own K CF CL CD CT CG CW) (g:Gh K CF CL CD CT M H₀ H) {t:T}{x:V}{p:Addr} (hx:RV K M H t x) (hd:t.deep≤m) (hp:H p=none) {Q:VK} (q:Q (.bl (decide (t.kids=[]))) (upd H p (.tup []))):acO K m x (.ref p) (upd H p (.tup [])) Q:=by
 have S:=same_new hp (.tup [])
 rcases hx.cases g with h | ⟨a,dx,y,z,u,ts,rfl,ha,rfl,_,_⟩
 ·rcases h with h | ⟨a,dx,v,ts,j,rfl,ha,_,hj,_,rfl⟩
  ·refine .inl ⟨t,.node [],h.mono (.of S),(cF (K:=K) (ts:=[]) hp (bO.mpr rfl)).2,hd,?_⟩
   have e:T.beq t (.node [])=decide (t.kids=[]):=by
    by_cases z:t.kids=[]
    ·rw [decide_eq_true z]
     exact (T.beq_iff _ _).mpr (by cases t; exact congrArg T.node z)
    ·rw [decide_eq_false z]
     exact Bool.eq_false_iff.mpr fun y=>z (by rw [(T.beq_iff _ _).mp y]; rfl)
   rw [e]
   exact q
  ·refine .inr ⟨a,CL,dx,_,p,[],rfl,S _ _ ha,O.rL,rfl,upd_same,?_⟩
   have z:¬ (T.node (ts.drop j)).kids=[]:=fun z=>by
    have:(ts.drop j).length=0:=by rw [show ts.drop j=[] from z]; rfl
    rw [List.length_drop] at this
    lia
   rw [← decide_eq_false z]
   exact q
 ·refine .inr ⟨a,CF,dx,_,p,[],rfl,S _ _ ha,O.rF,rfl,upd_same,?_⟩
  have z:¬ (T.node (u::ts)).kids=[]:=fun z=>by cases z
  rw [← decide_eq_false z]
  exact q
theorem abo {tc:TT}{tb u:TS}{D:Ends}{σ:L2.St}{H:Hp} (P:L2.St→Hp→Prop) (k:∀ σ' H',P σ' H'→u D σ' H')
  (h:∀ A B:Hp→Prop,(∀ H1,(∀ N:L2.St→Hp→Prop,(∀ σ' H',P σ' H'→N σ' H')→tb { D with nx:=N } σ H1)→A H1)→(∀ H1,P σ H1→B H1)→tc σ H (fun b H1=>if b=true then A H1 else B H1)) :
  tSeq (tIfS tc tb tNext) u D σ H :=
 h (fun H1=>tb { D with nx:=u D } σ H1) (fun H1=>tNext { D with nx:=u D } σ H1) (fun H1 r=>r _ k) (fun H1 p=>k _ _ p)
theorem T6 {t:T}:∀ {ts:List T},t∈ts→t.deep+1≤T.bR ts
 | u::us,h=>by
  rw [T.aN]
  rcases List.mem_cons.mp h with rfl | h
  ·lia
  ·have:=T6 h; lia
theorem afs {t w:T}{p:Nat} (h:t.kids[p]?=some w):w.deep+1≤t.deep:=by
 cases t with
 | node ts =>
  rw [T.aP]
  exact T6 (List.mem_of_getElem? h)
theorem abF (ts:List T) (k:Nat):T.bR (ts.drop k)≤T.bR ts:=by
 have:T.bR ts=max (T.bR (ts.take k)) (T.bR (ts.drop k)):=by rw [← T.h_,List.take_append_drop]
 lia
theorem adE (w:T):(bL w).deep≤w.deep:=by
 cases w with
 | node ts =>
  show (T.node (ts.drop 1)).deep≤_
  rw [T.aP,T.aP]
  exact abF ts 1
end
end Sw
namespace Sw
open PySem PySem.Spec PyProof.Rows L2
section
variable (K:PySem.W.Frag) (CF CL CD CT CG CW:Addr)
def acD:Sp:=fun vs H Q _=>∃ (k:Nat) (y:V) (S:Addr) (l:T) (s:List T) (rows:List V) (M:Mp) (H₀:Hp),vs=[.int (k:Int),y,.ref S]∧Gh K CF CL CD CT M H₀ H∧M S=some .mine∧H S=some (.lst rows)∧aX (RV K M H) s.reverse rows∧TR K H l y∧looks k≤s.length∧B 395 8000010 (.node s)∧(∀ t∈s,t.kids.length≤8000000) ∧
 ∀ M' H' rows',Go K CF CL CD CT (fun a=>a=S) M M' H₀ H H'→H' S=some (.lst rows')→aX (RV K M' H') (CV k l s).reverse rows'→Q .non H'
def qu (M:Mp) (H:Hp) (t:T) (x:V):Prop:=∃ g dx a W p tt,x=.ref g∧M g=some .mine∧H g=some (.ins CG dx (fG a p))∧M a=some (.text tt W)∧p≤tt.kids.length∧(∃ ws,H W=some (.lst ws)∧p≤ws.length)∧t=.node (tt.kids.drop p)∧B 389 8000000 tt
structure WkX (M:Mp) (H₀ H:Hp) (o dx G S N:Addr) (gs rows:List V) (tx s:List T) (num:List Nat) (b:Nat):Prop where
 gh:Gh K CF CL CD CT M H₀ H
 ob:H o=some (.ins CW dx (fW G S N b))
 mo:M o=some .mine
 mG:M G=some .mine
 mS:M S=some .mine
 mN:M N=some .mine
 hG:H G=some (.lst gs)
 hS:H S=some (.lst rows)
 hN:H N=some (.lst (num.map nv))
 gos:aX (qu CG M H) tx.reverse gs
 sts:aX (RV K M H) s.reverse rows
 n15:num.length=15
 dGS:G≠S
 dGN:G≠N
 dSN:S≠N
 nd:gs.Nodup
def Wk (M:Mp) (H₀ H:Hp) (o:Addr) (tx s:List T) (num:List Nat) (b:Nat):Prop:=∃ dx G S N gs rows,WkX K CF CL CD CT CG CW M H₀ H o dx G S N gs rows tx s num b
def QB:Sp:=fun vs H Q _=>∃ o M H₀ tx s num b,vs=[.ref o]∧Wk K CF CL CD CT CG CW M H₀ H o tx s num b∧Q (.bl (decide (tx=[]))) H
def aaM:Sp:=fun vs H Q _=>∃ o M H₀ tx s num b,vs=[.ref o]∧Wk K CF CL CD CT CG CW M H₀ H o tx s num b∧∀ x H',Same H H'→RV K M H' (ats s 0) x→Q x H'
def Qy:Sp:=fun vs H Q _=>∃ o M H₀ tx s num b,vs=[.ref o]∧Wk K CF CL CD CT CG CW M H₀ H o tx s num b∧∀ c H',Same H H'→SqT K H' c (num.map nv)→Q (.ref c) H'
def Vk:Sp:=fun vs H Q _=>∃ (o dx:Addr) (x:V) (tx s:List T) (b:Nat) (M:Mp) (H₀:Hp),vs=[.ref o,x,.int (b:Int)]∧Gh K CF CL CD CT M H₀ H∧M o=some .mine∧H o=some (.ins CW dx [])∧TR K H (aaX tx s) x∧BX tx∧B 390 8000000 (.node s)∧∀ M' H',Wk K CF CL CD CT CG CW M' H₀ H' o tx s gU b→Q .non H'
def MvT (k:Nat) (w:T) (ws:List T) (rest sp:List T) (num:List Nat) (tx' s':List T) (mj:List Nat):Prop :=
 (k=9∧aH w=8∧tx'=bL w::.node (w::ws)::rest∧s'=sp∧mj=num.set 14 (num.getD 14 0+(bL w).parts)) ∨
 (k=7∧aH w=7∧tx'=ats (bL w).kids 0::.node ws::rest∧s'=sp∧mj=num) ∨
 (k=8∧aH w=7∧tx'=bL (bL w)::.node ws::rest∧s'=sp∧mj=num) ∨
 ((k≤6∨k=10∨k=11)∧tx'=.node ws::rest∧s'=CV k (bL w) sp∧mj=num)
def Rdy (M:Mp) (H:Hp) (g:Addr) (w:T) (ws:List T):Prop:=∃ dg a W j tt wl,M g=some .mine∧H g=some (.ins CG dg (fG a j))∧M a=some (.text tt W)∧H W=some (.lst wl)∧j+1≤wl.length∧tt.kids.drop j=w::ws∧B 389 8000000 tt
def acE:Sp:=fun vs H Q _=>∃ (o dx G S N:Addr) (gs0:List V) (g:Addr) (rows:List V) (p:T) (rest sp:List T) (num:List Nat) (b k:Nat) (wv:V) (M:Mp) (H₀:Hp),vs=[.ref o,.int (k:Int),.ref g,wv]∧WkX K CF CL CD CT CG CW M H₀ H o dx G S N (gs0++[.ref g]) rows (p::rest) sp num b∧looks k≤sp.length∧B 395 8000010 (.node sp)∧(∀ t∈sp,t.kids.length≤8000000)∧rest.length≤8000000 ∧
 ((k=12∧∀ M' H',Wk K CF CL CD CT CG CW M' H₀ H' o rest sp num b→Q .non H') ∨ ∃ w ws bw tx' s' mj,p=.node (w::ws)∧wv=.ref bw∧M bw=some (.word w)∧Rdy CG M H g w ws∧MvT k w ws rest sp num tx' s' mj∧BX tx'∧(bL w).parts≤8000000∧∀ M' H',Wk K CF CL CD CT CG CW M' H₀ H' o tx' s' mj b→Q .non H')
def ZG:Sp:=fun vs H Q _=>∃ o M H₀ tx s num b,vs=[.ref o]∧Wk K CF CL CD CT CG CW M H₀ H o tx s num b∧tx≠[]∧BX tx∧B 390 8000000 (.node s)∧(bM tx s≤b→BX (onward tx s).1∧B 390 8000000 (.node (onward tx s).2.1)) ∧
 (b<bM tx s→∀ M' H',Wk K CF CL CD CT CG CW M' H₀ H' o tx s num b→Q (.bl false) H') ∧
 (bM tx s≤b→∀ M' H',Wk K CF CL CD CT CG CW M' H₀ H' o (onward tx s).1 (onward tx s).2.1 (eX num (mH tx s)) (b - bM tx s)→Q (.bl true) H')
end
section
variable {K:PySem.W.Frag}{CF CL CD CT CG CW:Addr}{M M':Mp}{H₀ H H':Hp}{X:Addr→Prop}
theorem qu.go {t:T}{x:V} (G:Go K CF CL CD CT X M M' H₀ H H') (hX:∀ g,x=.ref g→¬ X g) (g0:Gh K CF CL CD CT M H₀ H) (h:qu CG M H t x):qu CG M' H' t x:=by
 obtain⟨g,dx,a,W,p,tt,rfl,h1,h2,h3,h4,⟨ws,h5,h6⟩,h7,h8⟩:=h
 obtain⟨_,_,_,_,h9⟩:=g0.ok a _ h3
 obtain⟨ws',e1,e2⟩:=G.wds W _ ws h9 h5
 exact⟨g,dx,a,W,p,tt,rfl,G.ext _ _ h1,(G.mine g h1 (hX g rfl)).trans h2,G.ext _ _ h3,h4,⟨ws',e1,by lia⟩,h7,h8⟩
variable {o dx G S N:Addr}{gs rows:List V}{tx s:List T}{num:List Nat}{b:Nat}
theorem WkX.go (w:WkX K CF CL CD CT CG CW M H₀ H o dx G S N gs rows tx s num b) (g:Go K CF CL CD CT (fun _=>False) M M' H₀ H H'):WkX K CF CL CD CT CG CW M' H₀ H' o dx G S N gs rows tx s num b :=
 ⟨g.gh,(g.mine o w.mo id).trans w.ob,g.ext _ _ w.mo,g.ext _ _ w.mG,g.ext _ _ w.mS,g.ext _ _ w.mN,(g.mine G w.mG id).trans w.hG,(g.mine S w.mS id).trans w.hS,(g.mine N w.mN id).trans w.hN,w.gos.imp fun _ _ h=>h.go g (fun _ _=>id) w.gh,w.sts.imp fun _ _ h=>g.rv h,w.n15,w.dGS,w.dGN,w.dSN,w.nd⟩
theorem WkX.grow (w:WkX K CF CL CD CT CG CW M H₀ H o dx G S N gs rows tx s num b) (S1:Same H H'):WkX K CF CL CD CT CG CW M H₀ H' o dx G S N gs rows tx s num b:=w.go (.grow w.gh S1)
variable {A B C:Addr}{c:Nat}
theorem lwG:(fW A B C c).lookup ("goings":Str)=some (.ref A):=fC _ _ _
theorem lwS:(fW A B C c).lookup ("stack":Str)=some (.ref B):=(cJ (by decide +kernel) _ _).trans (fC _ _ _)
theorem lwN:(fW A B C c).lookup ("numbers":Str)=some (.ref C):=(cJ (by decide +kernel) _ _).trans ((cJ (by decide +kernel) _ _).trans (fC _ _ _))
theorem lwL:(fW A B C c).lookup ("left":Str)=some (.int (c:Int)):=(cJ (by decide +kernel) _ _).trans ((cJ (by decide +kernel) _ _).trans ((cJ (by decide +kernel) _ _).trans (fC _ _ _)))
theorem DX {m:Str} (h1:(m == "goings")=false) (h2:(m == "stack")=false) (h3:(m == "numbers")=false) (h4:(m == "left")=false):(fW A B C c).lookup m=none:=(cJ h1 _ _).trans ((cJ h2 _ _).trans ((cJ h3 _ _).trans ((cJ h4 _ _).trans rfl)))
theorem pwL (d:Nat):putF "left" (.int (d:Int)) (fW A B C c)=fW A B C d:=by unfold fW; rw [bZ (by decide +kernel),bZ (by decide +kernel),bZ (by decide +kernel),xu]
theorem lgT {a:Addr}{p:Nat}:(fG a p).lookup ("text":Str)=some (.ref a):=fC _ _ _
theorem lgP {a:Addr}{p:Nat}:(fG a p).lookup ("place":Str)=some (.int (p:Int)):=(cJ (by decide +kernel) _ _).trans (fC _ _ _)
theorem pgP {a:Addr}{p q:Nat}:putF "place" (.int (q:Int)) (fG a p)=fG a q:=by unfold fG; rw [bZ (by decide +kernel),xu]
theorem anI {v:V}{W:Addr}{m:Str} (h1:(m == "tree")=false) (h2:(m == "words")=false):(fT v W).lookup m=none:=(cJ h1 _ _).trans ((cJ h2 _ _).trans rfl)
theorem Ir {α β:Type}{R:α→β→Prop}{ts:List α}{ys:List β} (h:aX R ts.reverse ys) (hl:2≤ts.length):∃ a b ts0 ys0 y z,ts=a::b::ts0∧ys=ys0++[z]++[y]∧aX R ts0.reverse ys0∧R a y∧R b z:=by
 have hyl:=h.length
 rw [List.length_reverse] at hyl
 obtain⟨a,ts1,ys1,y,rfl,rfl,h1,h2⟩:=nT h (by rintro rfl; simp at hyl; lia)
 have Xg:=h1.length
 rw [List.length_reverse] at Xg
 simp only [List.length_cons] at hl
 obtain⟨b,ts0,ys0,z,rfl,rfl,h3,h4⟩:=nT h1 (by rintro rfl; simp at Xg; lia)
 exact⟨a,b,ts0,ys0,y,z,rfl,rfl,h3,h2,h4⟩
theorem adY {α β:Type}{R:α→β→Prop}{ts:List α}{ys:List β} (h:aX R ts.reverse ys) (hl:3≤ts.length):∃ a b c ts0 ys0 y z w,ts=a::b::c::ts0∧ys=ys0++[w]++[z]++[y]∧aX R ts0.reverse ys0∧R a y∧R b z∧R c w:=by
 obtain⟨a,b,ts1,ys1,y,z,rfl,rfl,h1,h2,h3⟩:=Ir h (by lia)
 have Xg:=h1.length
 rw [List.length_reverse] at Xg
 simp only [List.length_cons] at hl
 obtain⟨c,ts0,ys0,w,rfl,rfl,h4,h5⟩:=nT h1 (by rintro rfl; simp at Xg; lia)
 exact⟨a,b,c,ts0,ys0,y,z,w,rfl,rfl,h4,h2,h3,h5⟩
theorem si2 {α:Type} (xs:List α) (z y:α):seqIndex? (-2) (xs++[z]++[y]).length=some xs.length:=by
 have hl:(xs++[z]++[y]).length=xs.length+2:=by simp
 rw [hl]
 have:=(ixN_seq (n:=xs.length+2) (i:=-2) (j:=xs.length) (by unfold ixN; rw [if_neg (by decide),if_pos (by lia)]; congr 1; lia)).1
 exact this
theorem si3 {α:Type} (xs:List α) (w z y:α):seqIndex? (-3) (xs++[w]++[z]++[y]).length=some xs.length:=by
 have hl:(xs++[w]++[z]++[y]).length=xs.length+3:=by simp
 rw [hl]
 have:=(ixN_seq (n:=xs.length+3) (i:=-3) (j:=xs.length) (by unfold ixN; rw [if_neg (by decide),if_pos (by lia)]; congr 1; lia)).1
 exact this
theorem er2 {α:Type} (xs:List α) (z y:α):(xs++[z]++[y]).eraseIdx xs.length=xs++[y]:=by
 rw [List.append_assoc,List.eraseIdx_append_of_length_le (Nat.le_refl _),Nat.sub_self]
 rfl
theorem er3 {α:Type} (xs:List α) (w z y:α):(xs++[w]++[z]++[y]).eraseIdx xs.length=xs++[z]++[y]:=by
 rw [List.append_assoc,List.append_assoc,List.eraseIdx_append_of_length_le (Nat.le_refl _),Nat.sub_self]
 simp
theorem gt2 {α:Type} (xs:List α) (z y:α):(xs++[z]++[y])[xs.length]?=some z:=by simp
theorem gt3 {α:Type} (xs:List α) (w z y:α):(xs++[w]++[z]++[y])[xs.length]?=some w:=by simp
theorem Go.list {p:Addr}{xs ys:List V} (g:Gh K CF CL CD CT M H₀ H) (hm:M p=some .mine) (h:H p=some (.lst xs)):Go K CF CL CD CT (fun a=>a=p) M M H₀ H (upd H p (.lst ys)):=Go.pU (.refl g) hm rfl (Kt.lst h)
end
end Sw
namespace Sw
open PySem PySem.Spec PyProof.Rows L2
section
variable {K:PySem.W.Frag}{H:Hp}{a:Addr}{xs:List V}{σ:Sg}{js:List Nat}{te:TE}{Q:VK}
theorem agQ (J:Addr→Nat→List V→Hp→Prop) (hz:xs.length≤sizeLine) (h0:∀ D,H D=none→J D 0 [] (upd H D (.lst [])))
  (hD:∀ D i ys H',J D i ys H'→H' D=some (.lst ys)∧ys.length=i∧SqT K H' a xs)
  (hte:∀ D i x ys H' (R:VK),xs.reverse[i]?=some x→J D i ys H'→(∀ y H3,H3 D=some (.lst ys)→J D (i+1) (ys++[y]) (upd H3 D (.lst (ys++[y])))→R y H3)→te (some x::frv σ js) H' R)
  (q:∀ D ys H',J D xs.length ys H'→Q (.ref D) H'):zZ (SwR.ab4 K a xs.length) js te σ Q H:=by
 intro D hDn
 refine⟨fun i m ys H'=>m=xs.length - i∧i≤xs.length∧J D i ys H',⟨xs.length,by lia,Nat.zero_le _,h0 D hDn⟩,?_⟩
 rintro i m ys H' ⟨rfl,hi,hj⟩
 obtain⟨h1,h2,h3⟩:=hD D i ys H' hj
 refine⟨h1,?_⟩
 by_cases hlt:i<xs.length
 ·refine .inr ⟨⟨xs,xs.reverse[i]'(by simpa using hlt),h3,rfl,List.getElem?_eq_getElem (by simpa using hlt)⟩,fun x H2 y=>?_⟩
  obtain⟨e,y⟩:=y
  subst e
  exact hte D i x ys _ _ (y xs h3) hj fun y H3 g1 g2=>⟨g1,by lia,xs.length - (i+1),by lia,rfl,hlt,g2⟩
 ·have e:i=xs.length:=by lia
  subst e
  exact .inl ⟨⟨xs,h3,rfl,rfl⟩,q D ys H' hj⟩
theorem aeu {α:Type}{xs:List α}{i:Nat}{x:α} (h:xs[i]?=some x):xs.take (i+1)=xs.take i++[x]:=by
 rw [List.take_add_one,h]
 rfl
end
end Sw
namespace Sw
open PySem PySem.Spec PyProof.Rows L2
section
variable {K:PySem.W.Frag}{CF CL CD CT CG CW:Addr}{M M':Mp}{H₀ H H':Hp}{X:Addr→Prop}{o dx G S N g:Addr}{gs rows gs' rows':List V}{tx s tx' s':List T}{num mj:List Nat}{b:Nat}{w:T}{ws:List T}
theorem Rdy.go (G:Go K CF CL CD CT X M M' H₀ H H') (hX:¬ X g) (g0:Gh K CF CL CD CT M H₀ H) (h:Rdy CG M H g w ws):Rdy CG M' H' g w ws:=by
 obtain⟨dg,a,W,j,tt,wl,h1,h2,h3,h4,h5,h6,h7⟩:=h
 obtain⟨_,_,_,_,h9⟩:=g0.ok a _ h3
 obtain⟨ws',e1,e2⟩:=G.wds W _ wl h9 h4
 exact⟨dg,a,W,j,tt,ws',G.ext _ _ h1,(G.mine g h1 hX).trans h2,G.ext _ _ h3,e1,by lia,h6,h7⟩
theorem Go.anH {p:Addr}{u:HO}{H1:Hp} (a:Go K CF CL CD CT X M M' H₀ H H1) (hm:M' p=some .mine) (hn:M p≠some .mine) (k:Kt H1 (upd H1 p u)):Go K CF CL CD CT X M M' H₀ H (upd H1 p u) :=
 ⟨a.ext,fun q h x=>by rw [upd_ne (fun z:q=p=>hn (by rw [← z]; exact h))]; exact a.mine q h x,a.kt.trans k,a.gh.mut hm k,fun W t ws h1 h2=>by
  obtain⟨ws',e,l⟩:=a.wds W t ws h1 h2
  have nW:W≠p:=fun z=>by have:=a.ext _ _ h1; rw [z,hm] at this; cases this
  exact⟨ws',by rw [upd_ne nW]; exact e,l⟩⟩
theorem qu.nl {t:T}{x:V}{p:Addr}{l:List V} (h:qu CG M H t x) (hp:H p=some (.lst l)):∀ g,x=.ref g→¬ g=p:=by
 obtain⟨g,dx,a,W,j,tt,rfl,_,h2,_⟩:=h
 rintro g' e rfl
 cases e
 rw [hp] at h2
 cases h2
theorem WkX.setG (w:WkX K CF CL CD CT CG CW M H₀ H o dx G S N gs rows tx s num b) (h:aX (qu CG M H) tx'.reverse gs') (nd:gs'.Nodup):WkX K CF CL CD CT CG CW M H₀ (upd H G (.lst gs')) o dx G S N gs' rows tx' s num b:=by
 have g1:Go K CF CL CD CT (fun a=>a=G) M M H₀ H (upd H G (.lst gs')):=.list w.gh w.mG w.hG
 have no:o≠G:=fun z=>by have:=w.ob; rw [z,w.hG] at this; cases this
 exact⟨g1.gh,by rw [upd_ne no]; exact w.ob,w.mo,w.mG,w.mS,w.mN,upd_same,by rw [upd_ne (Ne.symm w.dGS)]; exact w.hS,by rw [upd_ne (Ne.symm w.dGN)]; exact w.hN,h.imp fun _ _ z=>z.go g1 (z.nl w.hG) w.gh,w.sts.imp fun _ _ z=>g1.rv z,w.n15,w.dGS,w.dGN,w.dSN,nd⟩
theorem WkX.aeC (w:WkX K CF CL CD CT CG CW M H₀ H o dx G S N gs rows tx s num b) (hl:mj.length=15):WkX K CF CL CD CT CG CW M H₀ (upd H N (.lst (mj.map nv))) o dx G S N gs rows tx s mj b:=by
 have g1:Go K CF CL CD CT (fun a=>a=N) M M H₀ H (upd H N (.lst (mj.map nv))):=.list w.gh w.mN w.hN
 have no:o≠N:=fun z=>by have:=w.ob; rw [z,w.hN] at this; cases this
 exact⟨g1.gh,by rw [upd_ne no]; exact w.ob,w.mo,w.mG,w.mS,w.mN,by rw [upd_ne w.dGN]; exact w.hG,by rw [upd_ne w.dSN]; exact w.hS,upd_same,w.gos.imp fun _ _ z=>z.go g1 (z.nl w.hN) w.gh,w.sts.imp fun _ _ z=>g1.rv z,hl,w.dGS,w.dGN,w.dSN,w.nd⟩
theorem qu.nw {t:T}{x:V}{A B C:Addr}{c:Nat}{D e:Addr} (h:qu CG M H t x) (hp:H e=some (.ins D dx (fW A B C c))):∀ g,x=.ref g→¬ g=e:=by
 obtain⟨g,dg,a,W,j,tt,rfl,_,h2,_⟩:=h
 rintro g' e rfl
 cases e
 rw [hp] at h2
 have h3:=HO.ins.inj (Option.some.inj h2)
 have h4:fW A B C c=fG a j:=h3.2.2
 unfold fW fG at h4
 have:=congrArg List.length h4
 simp at this
theorem WkX.alj (w:WkX K CF CL CD CT CG CW M H₀ H o dx G S N gs rows tx s num b) (c:Nat):WkX K CF CL CD CT CG CW M H₀ (upd H o (.ins CW dx (fW G S N c))) o dx G S N gs rows tx s num c:=by
 have k:Kt H (upd H o (.ins CW dx (fW G S N c))):=Kt.ins w.ob
 have g1:Go K CF CL CD CT (fun a=>a=o) M M H₀ H (upd H o (.ins CW dx (fW G S N c))):=Go.pU (.refl w.gh) w.mo rfl k
 have nG:G≠o:=fun z=>by have:=w.ob; rw [← z,w.hG] at this; cases this
 have nS:S≠o:=fun z=>by have:=w.ob; rw [← z,w.hS] at this; cases this
 have nN:N≠o:=fun z=>by have:=w.ob; rw [← z,w.hN] at this; cases this
 exact⟨g1.gh,upd_same,w.mo,w.mG,w.mS,w.mN,by rw [upd_ne nG]; exact w.hG,by rw [upd_ne nS]; exact w.hS,by rw [upd_ne nN]; exact w.hN,w.gos.imp fun _ _ z=>z.go g1 (z.nw w.ob) w.gh,w.sts.imp fun _ _ z=>g1.rv z,w.n15,w.dGS,w.dGN,w.dSN,w.nd⟩
theorem WkX.ahw (w:WkX K CF CL CD CT CG CW M H₀ H o dx G S N gs rows tx s num b) (g1:Go K CF CL CD CT (fun a=>a=S) M M' H₀ H H') (h:H' S=some (.lst rows')) (hr:aX (RV K M' H') s'.reverse rows'):WkX K CF CL CD CT CG CW M' H₀ H' o dx G S N gs rows' tx s' num b:=by
 have no:¬ o=S:=fun z=>by have:=w.ob; rw [z,w.hS] at this; cases this
 exact⟨g1.gh,(g1.mine o w.mo no).trans w.ob,g1.ext _ _ w.mo,g1.ext _ _ w.mG,g1.ext _ _ w.mS,g1.ext _ _ w.mN,(g1.mine G w.mG w.dGS).trans w.hG,h,(g1.mine N w.mN (Ne.symm w.dSN)).trans w.hN,w.gos.imp fun _ _ z=>z.go g1 (z.nl w.hS) w.gh,hr,w.n15,w.dGS,w.dGN,w.dSN,w.nd⟩
theorem WkX.onto {gs0:List V}{p:T}{rest:List T} (k:WkX K CF CL CD CT CG CW M H₀ H o dx G S N (gs0++[.ref g]) rows (p::rest) s num b) {dg a W:Addr}{j:Nat}{tt:T}{wl:List V} (h1:M g=some .mine) (h2:H g=some (.ins CG dg (fG a j))) (h3:M a=some (.text tt W)) (h4:H W=some (.lst wl)) (h5:j+1≤wl.length) (h6:tt.kids.drop j=w::ws) (h7:B 389 8000000 tt) :
  WkX K CF CL CD CT CG CW M H₀ (upd H g (.ins CG dg (fG a (j+1)))) o dx G S N (gs0++[.ref g]) rows (.node ws::rest) s num b:=by
 have kt:Kt H (upd H g (.ins CG dg (fG a (j+1)))):=Kt.ins h2
 have g1:Go K CF CL CD CT (fun a=>a=g) M M H₀ H (upd H g (.ins CG dg (fG a (j+1)))):=Go.pU (.refl k.gh) h1 rfl kt
 have nl:∀ {q:Addr}{l:List V},H q=some (.lst l)→q≠g:=fun e z=>by rw [z,h2] at e; cases e
 have no:o≠g:=fun z=>by
  have:=k.ob
  rw [z,h2] at this
  have h3:=HO.ins.inj (Option.some.inj this)
  have h4:fG a j=fW G S N b:=h3.2.2
  unfold fW fG at h4
  have:=congrArg List.length h4
  simp at this
 have hgo:=k.gos
 rw [List.reverse_cons] at hgo
 obtain⟨gs1,y,e1,hg0,_⟩:=aX.snoc hgo
 obtain⟨rfl,rfl⟩:=List.append_inj' e1 rfl |>.imp id (fun z=>(List.cons.inj z).1)
 have nd:=k.nd
 have ng:(.ref g:V) ∉ gs0:=fun z=>(List.nodup_append.mp nd).2.2 _ z _ (by simp) rfl
 have hjk:j+1≤tt.kids.length:=by
  have:=congrArg List.length h6
  rw [List.length_drop,List.length_cons] at this
  lia
 refine⟨g1.gh,by rw [upd_ne no]; exact k.ob,k.mo,k.mG,k.mS,k.mN,by rw [upd_ne (nl k.hG)]; exact k.hG,by rw [upd_ne (nl k.hS)]; exact k.hS,by rw [upd_ne (nl k.hN)]; exact k.hN,?_,k.sts.imp fun _ _ z=>g1.rv z,k.n15,k.dGS,k.dGN,k.dSN,nd⟩
 rw [List.reverse_cons]
 refine aX.append ?_ (aX.one ⟨g,dg,a,W,j+1,tt,rfl,h1,upd_same,h3,hjk,⟨wl,by rw [upd_ne (nl h4)]; exact h4,h5⟩,?_,h7⟩)
 ·refine aX.of_get (hg0.length.symm ▸ rfl) fun i y hy=>?_
  obtain⟨t,et,hgt⟩:=hg0.get hy
  refine⟨t,et,hgt.go g1 (fun g' e z=>?_) k.gh⟩
  subst z
  exact ng (by rw [← e]; exact List.mem_of_getElem? hy)
 ·have:tt.kids.drop (j+1)=ws:=by rw [← List.drop_drop,h6]; rfl
  rw [this]
theorem WkX.newG (k:WkX K CF CL CD CT CG CW M H₀ H o dx G S N gs rows tx s num b) {a g dg:Addr}{t:T} (ht:wI M a t) (hb:B 389 8000000 t) (hg:H g=none) (hd:H dg=none) (ne:dg≠g) :
  WkX K CF CL CD CT CG CW (setM M g .mine) H₀ (mkO H g dg CG (fG a 0)) o dx G S N gs rows tx s num b∧qu CG (setM M g .mine) (mkO H g dg CG (fG a 0)) t (.ref g)∧(.ref g:V) ∉ gs:=by
 have g1:Go K CF CL CD CT (fun _=>False) M (setM M g .mine) H₀ H (mkO H g dg CG (fG a 0)):=.made k.gh hg hd ne
 obtain⟨W,hW⟩:=ht
 obtain⟨_,_,_,_,h9⟩:=k.gh.ok a _ hW
 obtain⟨xs,h10,_,_⟩:=k.gh.ok W _ h9
 refine⟨k.go g1,⟨g,dg,a,W,0,t,rfl,eN,je,g1.ext _ _ hW,Nat.zero_le _,⟨xs,jB (C:=CG) (fs:=fG a 0) hg hd ne _ _ h10,Nat.zero_le _⟩,by cases t; rfl,hb⟩,fun z=>?_⟩
 obtain⟨i,hi⟩:=List.mem_iff_getElem?.mp z
 obtain⟨t',_,g',_,_,_,_,_,e,_,h2,_⟩:=k.gos.get hi
 cases e
 rw [hg] at h2
 cases h2
theorem WkX.push (k:WkX K CF CL CD CT CG CW M H₀ H o dx G S N gs rows tx s num b) {t:T}{x:V} (h:qu CG M H t x) (hn:x ∉ gs):WkX K CF CL CD CT CG CW M H₀ (upd H G (.lst (gs++[x]))) o dx G S N (gs++[x]) rows (t::tx) s num b:=by
 refine k.setG ?_ ?_
 ·rw [List.reverse_cons]
  exact aX.append k.gos (aX.one h)
 ·refine List.nodup_append.mpr ⟨k.nd,by simp,fun a ha c hc=>?_⟩
  rw [List.mem_singleton.mp hc]
  exact fun z=>hn (z ▸ ha)
theorem qu.new {a g dg:Addr}{t:T} (g0:Gh K CF CL CD CT M H₀ H) (ht:wI M a t) (hb:B 389 8000000 t) (hg:H g=none) (hd:H dg=none) (ne:dg≠g):qu CG (setM M g .mine) (mkO H g dg CG (fG a 0)) t (.ref g):=by
 have g1:Go K CF CL CD CT (fun _=>False) M (setM M g .mine) H₀ H (mkO H g dg CG (fG a 0)):=.made g0 hg hd ne
 obtain⟨W,hW⟩:=ht
 obtain⟨_,_,_,_,h9⟩:=g0.ok a _ hW
 obtain⟨xs,h10,_,_⟩:=g0.ok W _ h9
 exact⟨g,dg,a,W,0,t,rfl,eN,je,g1.ext _ _ hW,Nat.zero_le _,⟨xs,jB (C:=CG) (fs:=fG a 0) hg hd ne _ _ h10,Nat.zero_le _⟩,by cases t; rfl,hb⟩
def w1 (G:Addr):List (Str×V):=[("goings",.ref G)]
def w2 (G S:Addr):List (Str×V):=[("goings",.ref G),("stack",.ref S)]
def w3 (G S N:Addr):List (Str×V):=[("goings",.ref G),("stack",.ref S),("numbers",.ref N)]
theorem pw1 (G:Addr):putF "goings" (.ref G) []=w1 G:=rfl
theorem pw2 (G S:Addr):putF "stack" (.ref S) (w1 G)=w2 G S:=by unfold w1 w2; rw [bZ (by decide +kernel)]; rfl
theorem pw3 (G S N:Addr):putF "numbers" (.ref N) (w2 G S)=w3 G S N:=by unfold w2 w3; rw [bZ (by decide +kernel),bZ (by decide +kernel)]; rfl
theorem pw4 (G S N:Addr) (b:Nat):putF "left" (.int (b:Int)) (w3 G S N)=fW G S N b:=by unfold w3 fW; rw [bZ (by decide +kernel),bZ (by decide +kernel),bZ (by decide +kernel)]; rfl
theorem agh {ts:List T}{ys:List V}{i:Nat}{x:V} (h:TRs K H ts ys) (hx:ys.reverse[i]?=some x):∃ t,ts.reverse[i]?=some t∧TR K H t x:=by
 obtain⟨hi,hx'⟩:=SwR.acN hx
 obtain⟨t,et,ht⟩:=h.get hx'
 have hl:=h.length
 refine⟨t,?_,ht⟩
 rw [List.getElem?_reverse (by lia),← hl]
 exact et
end
theorem bump {num:List Nat}{k:Nat} (h:num.length=15) (hk:k<15):eX num (ev0 k)=num.set k (num.getD k 0+1):=by
 unfold eX ev0
 refine List.ext_getElem? fun i=>?_
 rw [List.getElem?_zipWith,List.getElem?_set,List.getElem?_set,List.getElem?_replicate,List.length_replicate]
 by_cases e:k=i
 ·subst e
  rw [if_pos rfl,if_pos hk,if_pos rfl,if_pos (by lia),List.getElem?_eq_getElem (by lia),List.getD_eq_getElem?_getD,List.getElem?_eq_getElem (by lia)]
  rfl
 ·rw [if_neg e,if_neg e]
  by_cases hi:i<15
  ·rw [if_pos hi,List.getElem?_eq_getElem (by lia)]
   rfl
  ·rw [if_neg hi,List.getElem?_eq_none (by lia)]
theorem af2 {num:List Nat}{k j c:Nat} (h:num.length=15) (hk:k<15) (hj:j<15) (hkj:k≠j):eX num ((ev0 k).set j c)=(num.set k (num.getD k 0+1)).set j ((num.set k (num.getD k 0+1)).getD j 0+c):=by
 unfold eX ev0
 refine List.ext_getElem? fun i=>?_
 have hg:(num.set k (num.getD k 0+1)).getD j 0=num.getD j 0:=by
  rw [List.getD_eq_getElem?_getD,List.getElem?_set,if_neg hkj,← List.getD_eq_getElem?_getD]
 rw [hg,List.getElem?_zipWith,List.getElem?_set,List.getElem?_set,List.getElem?_set,List.getElem?_set,List.getElem?_replicate,List.length_set,List.length_set,List.length_replicate]
 by_cases e:j=i
 ·subst e
  rw [if_pos rfl,if_pos hj,if_pos rfl,if_pos (by lia),List.getElem?_eq_getElem (by lia),List.getD_eq_getElem?_getD,List.getElem?_eq_getElem (by lia)]
  rfl
 ·rw [if_neg e,if_neg e]
  by_cases e2:k=i
  ·subst e2
   rw [if_pos rfl,if_pos hk,if_pos rfl,if_pos (by lia),List.getElem?_eq_getElem (by lia),List.getD_eq_getElem?_getD,List.getElem?_eq_getElem (by lia)]
   rfl
  ·rw [if_neg e2,if_neg e2]
   by_cases hi:i<15
   ·rw [if_pos hi,List.getElem?_eq_getElem (by lia)]
    rfl
   ·rw [if_neg hi,List.getElem?_eq_none (by lia)]
end Sw
namespace Sw
open PySem PySem.Spec PyProof.Rows L2
theorem abY {num:List Nat}{k:Nat} (h:num.length=15) (hk:k<15):atI (num.map nv) (k:Int)=some (nv (num.getD k 0)):=by
 refine atI_nat ?_
 rw [List.getElem?_map,List.getElem?_eq_getElem (by lia),List.getD_eq_getElem?_getD,List.getElem?_eq_getElem (by lia)]
 rfl
theorem aaL {p:T}{rest s:List T}{w:T}{ws:List T} (h:p.kids=w::ws):stepT (p::rest) s=sX (aH w) (ats s 0):=by
 have hk:(ats (p::rest) 0).kids=w::ws:=h
 unfold stepT sX
 have h9:=BR w
 by_cases e7:aH w=7
 ·rw [if_pos e7]
  by_cases d:(ats s 0).kids=[]
  ·rw [if_pos d,aaY hk e7 d]
  ·rw [if_neg d,Wg hk e7 d]
 rw [if_neg e7]
 by_cases e8:aH w=8
 ·rw [if_pos e8]
  by_cases d:(ats s 0).kids=[]
  ·rw [if_pos d,Rg hk e8 d]
  ·rw [if_neg d,Ri hk e8 d]
 rw [if_neg e8]
 by_cases e9:aH w=9
 ·rw [if_pos e9,Rh hk e9]
 ·rw [if_neg e9,Rf hk (by lia)]
def DN (k c:Nat) (num:List Nat):List Nat:=if k=2 then (num.set 2 (num.getD 2 0+1)).set 13 ((num.set 2 (num.getD 2 0+1)).getD 13 0+c) else num.set k (num.getD k 0+1)
theorem xH {tx s:List T}{num:List Nat} (h:num.length=15) (h9:stepT tx s≠9):eX num (mH tx s)=DN (stepT tx s) (bM tx s) num:=by
 have h12:=wZ (tx:=tx) (s:=s)
 unfold mH DN bM
 by_cases h2:stepT tx s=2
 ·rw [if_pos h2,if_pos h2,if_pos h2,af2 h (by lia) (by lia) (by lia)]
 ·rw [if_neg h2,if_neg h9,if_neg h2,bump h (by lia)]
theorem akk {p:T}{rest s:List T}{w:T}{ws:List T}{num:List Nat} (h:p=.node (w::ws)) (hn:num.length=15) :
  MvT (stepT (p::rest) s) w ws rest (pad s (looks (stepT (p::rest) s))) (DN (stepT (p::rest) s) (bM (p::rest) s) num) (onward (p::rest) s).1 (onward (p::rest) s).2.1 (eX num (mH (p::rest) s)):=by
 subst h
 have hk:(ats (T.node (w::ws)::rest) 0).kids=w::ws:=rfl
 have h9:=BR w
 by_cases e7:aH w=7
 ·by_cases d:(ats s 0).kids=[]
  ·have o:=aaY hk e7 d
   have hs:stepT (T.node (w::ws)::rest) s=8:=by unfold stepT; rw [o]
   refine .inr (.inr (.inl ⟨hs,e7,?_,?_,?_⟩))
   ·rw [o]
    show T.node (w.kids.drop 2)::_=T.node ((w.kids.drop 1).drop 1)::_
    rw [List.drop_drop]
    rfl
   ·rw [o,hs]; rfl
   ·exact xH hn (by lia)
  ·have o:=Wg hk e7 d
   have hs:stepT (T.node (w::ws)::rest) s=7:=by unfold stepT; rw [o]
   refine .inr (.inl ⟨hs,e7,?_,?_,?_⟩)
   ·rw [o]; rfl
   ·rw [o,hs]; rfl
   ·exact xH hn (by lia)
 by_cases e8:aH w=8
 ·by_cases d:(ats s 0).kids=[]
  ·have o:=Rg hk e8 d
   have hs:stepT (T.node (w::ws)::rest) s=10:=by unfold stepT; rw [o]
   refine .inr (.inr (.inr ⟨.inr (.inl hs),?_,?_,?_⟩))
   ·rw [o]; rfl
   ·rw [hs,Qk (by lia),o]; rfl
   ·exact xH hn (by lia)
  ·have o:=Ri hk e8 d
   have hs:stepT (T.node (w::ws)::rest) s=9:=by unfold stepT; rw [o]
   refine .inl ⟨hs,e8,?_,?_,?_⟩
   ·rw [o]
   ·rw [o,hs]; rfl
   ·unfold mH
    rw [hs,if_neg (by decide),if_pos rfl,af2 hn (by lia) (by lia) (by lia)]
    rfl
 by_cases e9:aH w=9
 ·have o:=Rh (s:=s) hk e9
  have hs:stepT (T.node (w::ws)::rest) s=11:=by unfold stepT; rw [o]
  refine .inr (.inr (.inr ⟨.inr (.inr hs),?_,?_,?_⟩))
  ·rw [o]; rfl
  ·rw [hs,Qk (by lia),o]; rfl
  ·exact xH hn (by lia)
 ·have o:=Rf (s:=s) hk (show aH w≤6 by lia)
  have hs:stepT (T.node (w::ws)::rest) s=aH w:=by unfold stepT; rw [o]
  refine .inr (.inr (.inr ⟨.inl (by lia),?_,?_,?_⟩))
  ·rw [o]; rfl
  ·rw [hs,o]
  ·exact xH hn (by lia)
theorem agD {s:List T}{n m:Nat} (h:∀ t∈s,t.kids.length≤m):∀ t∈pad s n,t.kids.length≤m:=fun t ht=>by
 rcases List.mem_append.mp ht with z | z
 ·exact h t z
 ·rw [List.eq_of_mem_replicate z]
  exact Nat.zero_le _
theorem agV {s:List T}{m:Nat} (h:T.aq s≤m):∀ t∈s,t.kids.length≤m:=fun t ht=>by
 have h1:=T.kZ ht
 have h2:=T.dI t
 have h3:=T.cT t.kids
 lia
theorem ae9 {k:Nat} (h:k≤12):atI ([.int 0,.int 1,.int 1,.int 2,.int 2,.int 1,.int 3,.int 1,.int 1,.int 1,.int 1,.int 0,.int 0]:List V) (k:Int)=some (.int (looks k:Nat)):=by
 have:∀ k,k≤12→([V.int 0,.int 1,.int 1,.int 2,.int 2,.int 1,.int 3,.int 1,.int 1,.int 1,.int 1,.int 0,.int 0]:List V)[k]?=some (.int (looks k:Nat)):=by decide
 exact atI_nat (this k h)
theorem ah3 {s:List T}{i n:Nat} (h1:s.length+i≤max n s.length) (h2:n≤s.length+i):s++List.replicate i leaf=pad s n:=by
 unfold pad
 have:i=n - s.length:=by lia
 rw [this]
theorem QF (num:List Nat) (k c:Nat):(num.map nv).set k (.int ((num.getD k 0:Int)+(c:Int)))=(num.set k (num.getD k 0+c)).map nv:=by
 rw [← aij]
 congr 1
theorem drop_cons {α:Type}{xs:List α}{j:Nat}{x:α} (h:xs[j]?=some x):xs.drop j=x::xs.drop (j+1):=by
 have hj:=(List.getElem?_eq_some_iff.mp h).1
 rw [List.drop_eq_getElem_cons hj]
 rw [List.getElem?_eq_getElem hj] at h
 rw [Option.some.inj h]
end Sw
namespace Sw
open PySem PySem.Spec PyProof.Rows L2
def KH (K:PySem.W.Frag) (CF CL CD CT CG CW:Addr):Sp:=fun vs H Q _=>∃ (x:V) (tx s:List T) (b:Nat),vs=[x,.int (b:Int)]∧TR K H (aaX tx s) x∧Sane b tx s ∧
 ∀ o M' H' b',Wk K CF CL CD CT CG CW M' H H' o (goT b tx s).1 (goT b tx s).2.1 (goT b tx s).2.2 b'→Q (.ref o) H'
end Sw
namespace fH
open PySem PySem.Spec PyProof.Rows L2 Sw
def top (i:Nat):Stmt:=PySem.Challenge.pw_selfword_k74_knots_of_two.main.body.getD i (.Pass ⟨0,0,0,0⟩)
abbrev oN:Stmt:=top 1
abbrev vL:Stmt:=top 2
abbrev uE:Stmt:=top 3
abbrev pH:Stmt:=top 16
abbrev pK:Stmt:=top 17
abbrev vo:Stmt:=top 18
abbrev uD:Stmt:=top 19
abbrev qP:Stmt:=top 20
abbrev xZ:Stmt:=top 21
abbrev dG:Stmt:=top 22
abbrev jF:Stmt:=top 32
abbrev pJ:Stmt:=top 33
abbrev lF:Stmt:=top 34
abbrev pG:Stmt:=top 35
abbrev pN:Stmt:=top 36
abbrev pL:Stmt:=top 37
abbrev jE:Stmt:=top 38
abbrev gY:Stmt:=top 39
abbrev sE:Stmt:=top 51
abbrev j_:Stmt:=top 52
abbrev vM:Stmt:=top 53
abbrev sG:Stmt:=top 54
abbrev pF:Stmt:=top 58
abbrev jm:Stmt:=top 60
abbrev nj:Stmt:=top 61
abbrev uG:Stmt:=top 62
abbrev rE:Stmt:=top 63
abbrev lG:Stmt:=top 64
abbrev jG:Stmt:=top 65
abbrev jh:Stmt:=top 66
abbrev iV:Stmt:=top 67
abbrev ni:Stmt:=top 71
abbrev pI:Stmt:=top 72
abbrev uF:Stmt:=top 73
abbrev jr:Stmt:=top 74
abbrev iJ:Stmt:=top 75
abbrev pO:Stmt:=top 76
abbrev Dq:Stmt:=top 78
abbrev m_:Stmt:=top 79
abbrev pD:Stmt:=top 80
abbrev xY:Stmt:=top 85
abbrev ju:Stmt:=top 87
abbrev gQ:Stmt:=top 88
abbrev iT:Stmt:=top 89
abbrev fY:Stmt:=top 90
abbrev oO:Stmt:=top 91
abbrev jt:Stmt:=top 92
abbrev iW:Stmt:=top 93
abbrev kj:Stmt:=top 94
abbrev kI:Stmt:=top 95
abbrev jH:Stmt:=top 96
abbrev iK:Stmt:=top 97
abbrev jJ:Stmt:=top 98
abbrev vq:Stmt:=top 99
theorem aeF:FnScope ["tree"] ["tree"] (defScope oN):=⟨rfl,rfl,rfl,by decide +kernel,rfl,by decide +kernel,by decide +kernel⟩
theorem agc:FnScope ["tree"] ["tree"] (defScope vL):=⟨rfl,rfl,rfl,by decide +kernel,rfl,by decide +kernel,by decide +kernel⟩
theorem xW:FnScope ["tree","waiting","counted","part"] ["tree"] (defScope uE):=⟨rfl,rfl,rfl,by decide +kernel,rfl,by decide +kernel,by decide +kernel⟩
theorem aaN:FnScope ["word"] ["word"] (defScope pH):=⟨rfl,rfl,rfl,by decide +kernel,rfl,by decide +kernel,by decide +kernel⟩
theorem aaP:FnScope ["word"] ["word"] (defScope pK):=⟨rfl,rfl,rfl,by decide +kernel,rfl,by decide +kernel,by decide +kernel⟩
theorem ahx:FnScope ["tree"] ["tree"] (defScope vo):=⟨rfl,rfl,rfl,by decide +kernel,rfl,by decide +kernel,by decide +kernel⟩
theorem aeD:FnScope ["sort"] ["sort"] (defScope uD):=⟨rfl,rfl,rfl,by decide +kernel,rfl,by decide +kernel,by decide +kernel⟩
theorem agf:FnScope ["yes","no"] ["yes","no"] (defScope qP):=⟨rfl,rfl,rfl,by decide +kernel,rfl,by decide +kernel,by decide +kernel⟩
theorem agd:FnScope ["body"] ["body"] (defScope xZ):=⟨rfl,rfl,rfl,by decide +kernel,rfl,by decide +kernel,by decide +kernel⟩
theorem acI:FnScope ["names"] ["names"] (defScope dG):=⟨rfl,rfl,rfl,by decide +kernel,rfl,by decide +kernel,by decide +kernel⟩
theorem Ua:FnScope [] [] (defScope jF):=⟨rfl,rfl,rfl,by decide +kernel,rfl,by decide +kernel,by decide +kernel⟩
theorem Oi:FnScope ["wrapped"] [] (defScope pJ):=⟨rfl,rfl,rfl,by decide +kernel,rfl,by decide +kernel,by decide +kernel⟩
theorem VN:FnScope [] [] (defScope lF):=⟨rfl,rfl,rfl,by decide +kernel,rfl,by decide +kernel,by decide +kernel⟩
theorem Dl:FnScope ["word_gone","shut"] [] (defScope pG):=⟨rfl,rfl,rfl,by decide +kernel,rfl,by decide +kernel,by decide +kernel⟩
theorem wR:FnScope ["text","sort"] [] (defScope pN):=⟨rfl,rfl,rfl,by decide +kernel,rfl,by decide +kernel,by decide +kernel⟩
theorem Oj:FnScope ["sort","cleared"] ["sort"] (defScope pL):=⟨rfl,rfl,rfl,by decide +kernel,rfl,by decide +kernel,by decide +kernel⟩
theorem Fg:FnScope ["word_whole"] [] (defScope jE):=⟨rfl,rfl,rfl,by decide +kernel,rfl,by decide +kernel,by decide +kernel⟩
theorem KZ:FnScope [] [] (defScope gY):=⟨rfl,rfl,rfl,by decide +kernel,rfl,by decide +kernel,by decide +kernel⟩
theorem aeG:FnScope ["text","tree"] ["text","tree"] (defScope sE):=⟨rfl,rfl,rfl,by decide +kernel,rfl,by decide +kernel,by decide +kernel⟩
theorem YD:FnScope ["sort","top"] ["sort","top"] (defScope j_):=⟨rfl,rfl,rfl,by decide +kernel,rfl,by decide +kernel,by decide +kernel⟩
theorem agg:FnScope ["tally"] ["tally"] (defScope vM):=⟨rfl,rfl,rfl,by decide +kernel,rfl,by decide +kernel,by decide +kernel⟩
theorem aeH:FnScope ["one","other"] ["one","other"] (defScope sG):=⟨rfl,rfl,rfl,by decide +kernel,rfl,by decide +kernel,by decide +kernel⟩
theorem vK:FnScope ["tally","taken","times","numbers"] ["tally"] (defScope pF):=⟨rfl,rfl,rfl,by decide +kernel,rfl,by decide +kernel,by decide +kernel⟩
theorem YF:FnScope [] [] (defScope jm):=⟨rfl,rfl,rfl,by decide +kernel,rfl,by decide +kernel,by decide +kernel⟩
theorem YH:FnScope ["own_made"] ["own_made"] (defScope nj):=⟨rfl,rfl,rfl,by decide +kernel,rfl,by decide +kernel,by decide +kernel⟩
theorem K1:FnScope ["one","other","behind","base"] ["one","other"] (defScope uG):=⟨rfl,rfl,rfl,by decide +kernel,rfl,by decide +kernel,by decide +kernel⟩
theorem acJ:FnScope ["text","base","behind"] ["text","base","behind"] (defScope rE):=⟨rfl,rfl,rfl,by decide +kernel,rfl,by decide +kernel,by decide +kernel⟩
theorem Gu:FnScope ["row_begun"] [] (defScope lG):=⟨rfl,rfl,rfl,by decide +kernel,rfl,by decide +kernel,by decide +kernel⟩
theorem Uc:FnScope [] [] (defScope jG):=⟨rfl,rfl,rfl,by decide +kernel,rfl,by decide +kernel,by decide +kernel⟩
theorem QJ:FnScope [] [] (defScope jh):=⟨rfl,rfl,rfl,by decide +kernel,rfl,by decide +kernel,by decide +kernel⟩
theorem Ub:FnScope [] [] (defScope iV):=⟨rfl,rfl,rfl,by decide +kernel,rfl,by decide +kernel,by decide +kernel⟩
theorem YG:FnScope ["row"] ["row"] (defScope ni):=⟨rfl,rfl,rfl,by decide +kernel,rfl,by decide +kernel,by decide +kernel⟩
theorem aaO:FnScope ["row"] ["row"] (defScope pI):=⟨rfl,rfl,rfl,by decide +kernel,rfl,by decide +kernel,by decide +kernel⟩
theorem aeE:FnScope ["tree","place"] ["tree","place"] (defScope uF):=⟨rfl,rfl,rfl,by decide +kernel,rfl,by decide +kernel,by decide +kernel⟩
theorem VJ:FnScope ["row"] ["row"] (defScope jr):=⟨rfl,rfl,rfl,by decide +kernel,rfl,by decide +kernel,by decide +kernel⟩
theorem j9:FnScope ["row","most","waiting","counted","part"] ["row","most"] (defScope iJ):=⟨rfl,rfl,rfl,by decide +kernel,rfl,by decide +kernel,by decide +kernel⟩
theorem sU:FnScope ["row","ahead","taken","part","tree"] ["row"] (defScope pO):=⟨rfl,rfl,rfl,by decide +kernel,rfl,by decide +kernel,by decide +kernel⟩
theorem VL:FnScope ["text","tree","budget","walk","steps"] ["text","tree","budget"] (defScope Dq):=⟨rfl,rfl,rfl,by decide +kernel,rfl,by decide +kernel,by decide +kernel⟩
theorem YC:FnScope ["text","tree","budget"] ["text","tree","budget"] (defScope m_):=⟨rfl,rfl,rfl,by decide +kernel,rfl,by decide +kernel,by decide +kernel⟩
theorem TJ:FnScope ["stand","budget","walk"] ["stand","budget"] (defScope pD):=⟨rfl,rfl,rfl,by decide +kernel,rfl,by decide +kernel,by decide +kernel⟩
theorem QH:FnScope ["step","load","stack","item","row"] ["step","load","stack"] (defScope xY):=⟨rfl,rfl,rfl,by decide +kernel,rfl,by decide +kernel,by decide +kernel⟩
theorem lW:FnScope ["_law_script","_law_cells","_law_deck_here","_law_k","_law_cell"] ["_law_script"] (defScope ju):=⟨rfl,rfl,rfl,by decide +kernel,rfl,by decide +kernel,by decide +kernel⟩
theorem VP:FnScope ["_law_deck_here","_law_many"] ["_law_deck_here","_law_many"] (defScope gQ):=⟨rfl,rfl,rfl,by decide +kernel,rfl,by decide +kernel,by decide +kernel⟩
theorem Gv:FnScope ["_law_deck_here","_law_deep"] ["_law_deck_here","_law_deep"] (defScope iT):=⟨rfl,rfl,rfl,by decide +kernel,rfl,by decide +kernel,by decide +kernel⟩
theorem QK:FnScope ["_law_many"] ["_law_many"] (defScope fY):=⟨rfl,rfl,rfl,by decide +kernel,rfl,by decide +kernel,by decide +kernel⟩
theorem xX:FnScope ["_law_deck_here","_law_deep","_law_way"] ["_law_deck_here","_law_deep"] (defScope oO):=⟨rfl,rfl,rfl,by decide +kernel,rfl,by decide +kernel,by decide +kernel⟩
theorem Gw:FnScope ["_law_deck_here","_law_deep"] ["_law_deck_here","_law_deep"] (defScope jt):=⟨rfl,rfl,rfl,by decide +kernel,rfl,by decide +kernel,by decide +kernel⟩
theorem Fi:FnScope ["_law_tree_here"] ["_law_tree_here"] (defScope iW):=⟨rfl,rfl,rfl,by decide +kernel,rfl,by decide +kernel,by decide +kernel⟩
theorem YJ:FnScope ["_law_found"] ["_law_found"] (defScope kj):=⟨rfl,rfl,rfl,by decide +kernel,rfl,by decide +kernel,by decide +kernel⟩
theorem YK:FnScope ["_law_tree_here"] ["_law_tree_here"] (defScope kI):=⟨rfl,rfl,rfl,by decide +kernel,rfl,by decide +kernel,by decide +kernel⟩
theorem Ud:FnScope ["_law_sort"] ["_law_sort"] (defScope jH):=⟨rfl,rfl,rfl,by decide +kernel,rfl,by decide +kernel,by decide +kernel⟩
theorem Ol:FnScope ["_law_words"] ["_law_words"] (defScope iK):=⟨rfl,rfl,rfl,by decide +kernel,rfl,by decide +kernel,by decide +kernel⟩
theorem oE:FnScope ["_law_deck_here","_law_way","_law_text_here","_law_begun"] ["_law_deck_here","_law_way"] (defScope jJ):=⟨rfl,rfl,rfl,by decide +kernel,rfl,by decide +kernel,by decide +kernel⟩
theorem oA:FnScope ["_law_script","_law_deck_here","_law_ways","_law_makers","_law_tree_here","_law_pair","_law_at","_law_told","_law_due","_law_most","_law_found"] ["_law_script"] (defScope vq):=⟨rfl,rfl,rfl,by decide +kernel,rfl,by decide +kernel,by decide +kernel⟩
end fH
namespace fH
open PySem PySem.Spec PyProof.Rows L2 Sw
section
variable {P:Program}{w:World}{K:PySem.W.Frag}{mg:Str→Option Value}{base:Heap}{f:Addr}{fd:FuncData}
theorem aj4 (n:Nat):((List.replicate n (List.map W [1])).flatten).length=n:=by
 induction n with
 | zero=>rfl
 | succ n ih=>rw [List.replicate_succ,List.flatten_cons,List.length_append,ih]; show 1+n=n+1; lia
theorem ahu:∀ i:Nat,i≤8→(T.node ([5,3].map W++cH i)).deep≤400∧(T.node ([5,3].map W++cH i)).parts≤1000000:=by decide +kernel
theorem aiI:∀ i:Nat,i≤7→(T.node (o7 i)).deep≤400∧(T.node (o7 i)).parts≤1000000:=by decide +kernel
def afM:List T:=[W 5,bC 0 [],W 6,W 4,bC 0 [],W 6,W 4]
def Pa:List Str:=[PySem.Str.ofString "lay",PySem.Str.ofString "drop",PySem.Str.ofString "twin",PySem.Str.ofString "swap",PySem.Str.ofString "front",PySem.Str.ofString "part",PySem.Str.ofString "turn",PySem.Str.ofString "fork",PySem.Str.ofString "while"]
def aa8 (k:Nat):Str:=Pa.getD k (PySem.Str.ofString "")
theorem agM:∀ k:Nat,k≤8→Pa[k]?=some (aa8 k)∧∀ m,m<k→Pa[m]?≠some (aa8 k):=by decide +kernel
def fB (K:PySem.W.Frag) (t:List T):Sp:=fun vs H Q _=>vs=[]∧∀ y H',Same H H'→TR K H' (.node t) y→Q y H'
def gW (K:PySem.W.Frag):Sp:=fun vs H Q _=>∃ (z:Str) (ks:List Nat),vs=[.str z]∧z.length≤1000∧((Builtin.Str.spaceWords z (z.length+1)).length≤1000∧(Txt.words z).length≤1000)∧Txt.words z=ks.map aa8∧(∀ k∈ks,1≤k∧k≤6)∧∀ y H',Same H H'→TR K H' (.node (ks.map W)) y→Q y H'
def Vw (K:PySem.W.Frag):Sp:=fun vs H Q _=>∃ k:Nat,vs=[.int (k:Int)]∧k≤7∧∀ y H',Same H H'→TR K H' (.node (o7 k)) y→Q y H'
theorem U4 {K:PySem.W.Frag}{H:Hp}{Q:VK}{x y:V}{k:Int}{ts:List T} (n:Nat) (hx:TR K H (.node ts) x) (hy:y=.int k) (hk:k=(n:Int)) (hn:n≤100) (q:∀ z H',Same H H'→TR K H' (.node (List.replicate n ts).flatten) z→Q z H') (hl:ts.length≤100:=by decide):GK K x y H Q:=by
 obtain⟨a,xs,rfl,ha,ra⟩:=cN.mp hx
 have hlen:=ra.length
 refine⟨a,k,xs,rfl,hy,ha,by lia,by lia,small (by rw [hk,Int.toNat_natCast,hlen]; exact Nat.le_trans (Nat.mul_le_mul hl hn) (by decide)),fun p H' S hp=>q _ _ S (vC hp ?_)⟩
 have r2:TRs K H' ts xs:=ra.mono (.of S)
 unfold sV
 rw [hk,Int.toNat_natCast]
 clear hp hn hk hy q
 induction n with
 | zero=>exact bO.mpr rfl
 | succ n ih =>
  rw [List.replicate_succ,List.flatten_cons,List.replicate_succ,List.flatten_cons]
  exact TRs.append r2 ih
theorem ain {K:PySem.W.Frag}{H:Hp}{Q:VK}{σ:L2.St}{x y:V}{k:Int}{ts:List T} (n:Nat) (hx:TR K H (.node ts) x) (hy:y=.int k) (hk:k=(n:Int)) (hn:n≤100) (q:∀ z H',Same H H'→TR K H' (.node (List.replicate n ts).flatten) z→Q z H') (hl:ts.length≤100:=by decide):tC y σ H (fun y H2=>GK K x y H2 Q):=U4 n hx hy hk hn q hl
def bothW (m:List T):List T:=W 3::(m++(W 3::W 4::(dX++(W 4::dX))))
def TF (K:PySem.W.Frag):Sp:=fun vs H Q _=>∃ x m,vs=[x]∧TR K H (.node m) x∧m.length≤1000∧∀ y H',Same H H'→TR K H' (.node (bothW m)) y→Q y H'
def af3 (K:PySem.W.Frag) (H:Hp) (a:Addr) (rows:List (List Nat)):Prop:=∃ ys,SqT K H a ys∧aX (fun r y=>∃ b,y=V.ref b∧SqT K H b (List.map nv r)) rows ys
def Vn (K:PySem.W.Frag):Sp:=fun vs H Q _=>∃ a ns,vs=[.ref a]∧SqT K H a (List.map nv ns)∧ns.length=15∧∀ p H',Same H H'→SqT K H' p ((turnT ns).map nv)→Q (.ref p) H'
theorem agZ {K:PySem.W.Frag}{a b:Addr}{xs ys:List V}{tb:TS}{D:Ends}{σ:Sg}{H:Hp}{g:TG} (Pv:Nat→Sg→Hp→Prop) (h0:Pv 0 σ H) (he:xs.length=ys.length) (hl:∀ i σ H,i≤xs.length→Pv i σ H→SqT K H a xs∧SqT K H b ys)
  (hs:∀ i x y σ H p,xs[i]?=some x→ys[i]?=some y→Pv i σ H→H p=none→g (.ref p) σ (upd H p (.tup [x,y])) fun σ2 H2=>tb { D with nx:=Pv (i+1),ct:=Pv (i+1),bk:=D.nx } σ2 H2) (hd:∀ σ H,Pv xs.length σ H→D.nx σ H) :
  ∃ W:Nat→Nat→Sg→Hp→Prop,(∃ m,W 0 m σ H)∧∀ i m σ H,W i m σ H →
   ((Itz K a b).stop i H∧D.nx σ H)∨((Itz K a b).go i H∧∃ N:Sg→Hp→Prop,(∀ σ' H',N σ' H'→∃ m',m'<m∧W (i+1) m' σ' H')∧∀ x H',(Itz K a b).yld i H x H'→g x σ H' fun σ2 H2=>tb { D with nx:=N,ct:=N,bk:=D.nx } σ2 H2):=by
 refine⟨fun i m σ H=>m=xs.length - i∧i≤xs.length∧Pv i σ H,⟨xs.length,rfl,Nat.zero_le _,h0⟩,?_⟩
 rintro i m σ H ⟨rfl,hi,p⟩
 obtain⟨qa,qb⟩:=hl i σ H hi p
 by_cases hlt:i<xs.length
 ·have ex:xs[i]?=some xs[i]:=List.getElem?_eq_getElem hlt
  have ey:ys[i]?=some ys[i]:=List.getElem?_eq_getElem (by lia)
  refine .inr ⟨⟨_,_,_,_,qa,qb,ex,ey⟩,Pv (i+1),fun σ' H' p'=>⟨xs.length - (i+1),by lia,rfl,hlt,p'⟩,fun v H' y=>?_⟩
  obtain⟨q,x,y,rfl,hq,rfl,hx,hy⟩:=y
  exact hs i x y σ _ q (hx _ qa) (hy _ qb) p hq
 ·have e:i=xs.length:=by lia
  subst e
  exact .inl ⟨⟨_,qa,Nat.le_refl _⟩,hd σ H p⟩
theorem aiu {K:PySem.W.Frag}{a:Addr}{H1:Hp}{ns:List Nat}{f:Nat→Nat}{σ:Sg}{js:List Nat}{te:TE}{Q:VK} (hn:ns.length≤1000) (ha:SqT K H1 a (ns.map nv))
  (hte:∀ (i:Nat) (H':Hp) (R:VK),i∈ns→R (nv (f i)) H'→te (some (nv i)::frv σ js) H' R)
  (q:∀ D H',Same H1 H'→H' D=some (.lst ((ns.map f).map nv))→Q (.ref D) H'):zZ (Itt K a) js te σ Q H1:=by
 refine RB (K:=K) (xs:=ns.map nv) (fun D i ys H'=>H1 D=none∧Same H1 H'∧H' D=some (.lst ys)∧ys=((ns.take i).map f).map nv∧i≤ns.length) (small (by rw [List.length_map]; lia)) (fun D hD=>⟨hD,same_new hD _,upd_same,rfl,Nat.zero_le _⟩) (fun D i ys H' j=>⟨j.2.2.1,?_,cj (.of j.2.1) ha⟩) (fun D i x ys H' R hx j hR=>?_) (fun D ys H' j=>?_)
 ·rw [j.2.2.2.1,List.length_map,List.length_map,List.length_take]
  exact Nat.min_eq_left j.2.2.2.2
 ·obtain⟨hD,S,h1,h2,_⟩:=j
  rw [List.getElem?_map] at hx
  cases hh:ns[i]? with
  | none=>rw [hh] at hx; cases hx
  | some m =>
   rw [hh] at hx
   cases hx
   refine hte m _ _ (List.mem_of_getElem? hh) (hR _ _ h1 ⟨hD,dZ S hD,upd_same,?_,(List.getElem?_eq_some_iff.mp hh).1⟩)
   rw [h2,List.take_succ,hh,List.map_append,List.map_append]
   rfl
 ·obtain⟨hD,S,h1,h2,_⟩:=j
  rw [List.length_map,List.take_of_length_le (Nat.le_refl _)] at h2
  exact q D H' S (by rw [h1,h2])
def Vs (K:PySem.W.Frag):Sp:=fun vs H Q _=>∃ x y z g b E,vs=[x,y,z]∧TR K H (.node g) x∧TR K H (.node b) y∧TR K H (.node E) z∧B 390 900000 (.node g)∧B 390 900000 (.node b)∧E.length≤100000∧∀ v H',Same H H'→TR K H' (.node (bC 0 b::bC 0 g::E)) v→Q v H'
def ZP (K:PySem.W.Frag):Sp:=fun vs H Q _=>∃ x y f h,vs=[x,y]∧TR K H (.node f) x∧TR K H (.node h) y∧B 300 400000 (.node f)∧B 300 400000 (.node h)∧∀ v H',Same H H'→TR K H' (.node (cC f h)) v→Q v H'
theorem ac7 (cV:mg "tuple"=none) {qH:Addr} (Rw:mg "NAMES"=some (.ref qH)) (Q0:∀ H,SqT K H qH [.str (PySem.Str.ofString "lay"),.str (PySem.Str.ofString "drop"),.str (PySem.Str.ofString "twin"),.str (PySem.Str.ofString "swap"),.str (PySem.Str.ofString "front"),.str (PySem.Str.ofString "part"),.str (PySem.Str.ofString "turn"),.str (PySem.Str.ofString "fork"),.str (PySem.Str.ofString "while")])
  {SM:Addr}{R6:FuncData} (ahg:Fun K "plain" "plain" uD SM R6) (ahd:FnOk P w K mg base CX0 31 SM R6 ["sort"] (ZK K)) (ag7:Binds K R6 ["sort"] []) (agN:mg "plain"=some (.ref SM))
  (Qp:∃ ob,K.lookup qH=some ob∧ob.cls=.type "tuple"∧ob.dict=none)
  (F:Fun K "plains" "plains" dG f fd):FnOk P w K mg base CX0 32 f fd ["names"] (gW K):=by
 refine okQ F acI (fun vs H Q E h=>?_) (fun cdv A outer s H vs Q E hr h=>?_)
 ·obtain⟨z,ks,rfl,_⟩:=h
  rfl
 obtain⟨z,ks,rfl,hz1,hz2,hw,hk,q⟩:=h
 refine⟨_,(aF (aQ (mX ji rfl cV nP (aj (Du rfl (qD (fr:=[]) (js:=[]) (sc:=defScope dG) rfl rfl rfl (by decide +kernel) (by decide +kernel) (by decide +kernel) (by decide +kernel) (by exact trivial) (by decide +kernel) (fun y hy=>cell_has hy)) (Z4 (qU PySem.F.plainAttrs_str PySem.F.slot_str_split PySem.F.type_str_split adg (qv 0))) (fun _ _ _ _ _=>(aD ahd hr rfl agN ahg.kp ag7 .nil pass0 (aj (ahK (K:=K) rfl (gK PySem.F.plainAttrs_tuple PySem.F.slot_tuple_index PySem.F.type_tuple_index (aa_ (K:=K) rfl) (bB (v:=.ref qH) rfl Rw rfl) (aj (qv 0) ak))) ak)))) ak)))),?_⟩
 have hwl:(Txt.words z).length=ks.length:=by rw [hw,List.length_map]
 have hwn:(Txt.words z).length≤1000:=hz2.2
 refine⟨_,rfl,rfl,z,rfl,rfl,hz1,hz2.1,hz2.2,fun D0 g0=>?_⟩
 refine⟨D0,rfl,⟨_,SqL.of upd_same⟩,?_⟩
 have S0:=same_new g0 (.lst ((Txt.words z).map V.str))
 refine ae_ (K:=K) (xs:=(Txt.words z).map V.str) (fun D i ys H'=>D≠D0∧H D=none∧Same H H'∧H' D0=some (.lst ((Txt.words z).map V.str))∧H' D=some (.lst ys)∧TRs K H' ((ks.take i).map W) ys∧i≤ks.length) (small (by rw [List.length_map]; lia)) (fun D hD=>?_) (fun D i ys H' j=>⟨j.2.2.2.2.1,?_,SqL.of j.2.2.2.1⟩) (fun D i x ys H' R hx j hR=>?_) (fun D ys H' j=>?_)
 ·have hne:D≠D0:=fun e=>by rw [e,upd_same] at hD; cases hD
  exact⟨hne,S0.free hD,S0.trans (same_new hD _),by rw [upd_ne hne.symm]; exact upd_same,upd_same,bO.mpr rfl,Nat.zero_le _⟩
 ·rw [j.2.2.2.2.2.1.length,List.length_map,List.length_take]
  exact Nat.min_eq_left j.2.2.2.2.2.2
 ·obtain⟨hne,hD,S,h0,h1,ht,hi⟩:=j
  rw [hw,List.map_map,List.getElem?_map] at hx
  cases hh:ks[i]? with
  | none=>rw [hh] at hx; cases hx
  | some k =>
   rw [hh] at hx
   cases hx
   have hk1:=hk k (List.mem_of_getElem? hh)
   obtain⟨e1,e2⟩:=agM k (by lia)
   refine⟨.inr (.inl ⟨rfl,Qp⟩),_,rfl,qH,Pa,_,k,rfl,rfl,Q0 _,e1,e2,k,rfl,hk1.1,hk1.2,fun y H3 S3 t3=>?_⟩
   refine hR _ _ (S3 _ _ h1) ⟨hne,hD,dZ (S.trans S3) hD,by rw [upd_ne hne.symm]; exact S3 _ _ h0,upd_same,?_,(List.getElem?_eq_some_iff.mp hh).1⟩
   rw [List.take_succ,hh,List.map_append]
   exact TRs.append ((ht.mono (.of S3)).mono (Kt.lst (S3 _ _ h1))) (cI.mpr ⟨y,[],rfl,t3.mono (Kt.lst (S3 _ _ h1)),bO.mpr rfl⟩)
 ·obtain⟨hne,hD,S,h0,h1,ht,hi⟩:=j
  rw [List.length_map,hwl,List.take_of_length_le (Nat.le_refl _)] at ht
  refine⟨D,ys,rfl,.inl ⟨SqL.of h1,fun p hp=>?_⟩⟩
  obtain⟨S5,t5⟩:=cF (K:=K) hp ht
  exact q _ _ (S.trans S5) t5
theorem aa2
  {nU:Addr}{nH:FuncData} (Aa:Fun K "lay" "lay" vo nU nH) (z_:FnOk P w K mg base CX0 32 nU nH ["tree"] (Oe K)) (zX:Binds K nH ["tree"] []) (zR:mg "lay"=some (.ref nU))
  {bA:Addr}{aZ:FuncData} (bJ:Fun K "plains" "plains" dG bA aZ) (bH:FnOk P w K mg base CX0 32 bA aZ ["names"] (gW K)) (bF:Binds K aZ ["names"] []) (bD:mg "plains"=some (.ref bA))
  (F:Fun K "opening" "opening" pJ f fd):FnOk P w K mg base CX0 33 f fd [] (fB K afM):=by
 refine okQ F Oi (fun vs H Q E h=>?_) (fun cdv A outer s H vs Q E hr h=>?_)
 ·obtain⟨rfl,_⟩:=h
  rfl
 obtain⟨rfl,q⟩:=h
 refine⟨_,(aB (bU (i:=0) Oi.nd rfl (Or.inl rfl) (aU aW (aY (aj (aD z_ hr rfl zR Aa.kp zX .nil pass0 (aj (aY ak) ak)) ak)) (aD bH hr rfl bD bJ.kp bF .nil pass0 (aj cW ak))))
   (aF (aQ (aU aW (aU aW (aD bH hr rfl bD bJ.kp bF .nil pass0 (aj cW ak)) (qv 0)) (qv 0))))),?_⟩
 refine⟨Nat.zero_le _,fun p1 g1=>?_⟩
 obtain⟨S1,t1⟩:=cF (K:=K) (ts:=[]) g1 (bO.mpr rfl)
 refine⟨_,leaf,rfl,t1,by decide,by decide,fun y2 H2 S2 t2=>⟨(by show 1≤sizeLine; decide),fun p3 g3=>?_⟩⟩
 obtain⟨S3,t3⟩:=cF (K:=K) g3 (gD t2)
 refine⟨_,[6,4],rfl,by decide +kernel,by decide +kernel,by decide +kernel,by decide,fun y4 H4 S4 t4=>cB (t3.mono (.of S4)) t4 (small (by decide)) (fun y5 H5 S5 t5=>?_)⟩
 have S15:=S1.trans (S2.trans (S3.trans (S4.trans S5)))
 refine⟨_,[5],rfl,by decide +kernel,by decide +kernel,by decide +kernel,by decide,fun y6 H6 S6 t6=>⟨_,rfl,cB t6 (t5.mono (.of S6)) (small (by decide)) (fun y7 H7 S7 t7=>⟨_,rfl,cB t7 (t5.mono (.of (S6.trans S7))) (small (by decide)) (fun y8 H8 S8 t8=>?_)⟩)⟩⟩
 exact q _ _ (S15.trans (S6.trans (S7.trans S8))) t8
theorem Ln {d8:Value} (fO:mg "WHILE"=some d8) (eE:RelV (.int 8) d8)
  {bA:Addr}{aZ:FuncData} (bJ:Fun K "plains" "plains" dG bA aZ) (bH:FnOk P w K mg base CX0 32 bA aZ ["names"] (gW K)) (bF:Binds K aZ ["names"] []) (bD:mg "plains"=some (.ref bA))
  (F:Fun K "nameless_gone" "nameless_gone" gY f fd):FnOk P w K mg base CX0 33 f fd [] (fB K Gi):=by
 refine okQ F KZ (fun vs H Q E h=>?_) (fun cdv A outer s H vs Q E hr h=>?_)
 ·obtain⟨rfl,_⟩:=h
  rfl
 obtain⟨rfl,q⟩:=h
 refine⟨_,(aF (aQ (aU aW (aU pR (aD bH hr rfl bD bJ.kp bF .nil pass0 (aj cW ak)) (aU op_add (bB (v:=.int 8) rfl fO eE) aJ)) (aD bH hr rfl bD bJ.kp bF .nil pass0 (aj cW ak))))),?_⟩
 refine⟨_,[1],rfl,by decide +kernel,by decide +kernel,by decide +kernel,by decide,fun y1 H1 S1 t1=>⟨8,2,rfl,rfl,U4 10 t1 rfl rfl (by decide) (fun y2 H2 S2 t2=>?_)⟩⟩
 refine⟨_,[4],rfl,by decide +kernel,by decide +kernel,by decide +kernel,by decide,fun y3 H3 S3 t3=>cB (t2.mono (.of S3)) t3 (small (by decide)) (fun y4 H4 S4 t4=>?_)⟩
 exact q _ _ (S1.trans (S2.trans (S3.trans S4))) t4
theorem Uk {d8:Value} (fO:mg "WHILE"=some d8) (eE:RelV (.int 8) d8) {iD:Value} (jY:mg "TOP_REACHED"=some iD) (iG:RelV (.str (PySem.Str.ofString "turn turn front turn part")) iD) {qN:Value} (Ar:mg "PAST_BODY"=some qN) (qQ:RelV (.str (PySem.Str.ofString "front turn drop swap")) qN) {qO:Value} (Av:mg "INTO_BODY"=some qO) (qR:RelV (.str (PySem.Str.ofString "front swap turn part swap twin turn front turn part turn front front swap front")) qO)
  {bA:Addr}{aZ:FuncData} (bJ:Fun K "plains" "plains" dG bA aZ) (bH:FnOk P w K mg base CX0 32 bA aZ ["names"] (gW K)) (bF:Binds K aZ ["names"] []) (bD:mg "plains"=some (.ref bA))
  {jR:Addr}{jN:FuncData} (vZ:Fun K "fork" "fork" qP jR jN) (vY:FnOk P w K mg base CX0 32 jR jN ["yes","no"] (Gn K)) (vW:Binds K jN ["yes","no"] []) (vQ:mg "fork"=some (.ref jR))
  (F:Fun K "while_gone" "while_gone" jE f fd):FnOk P w K mg base CX0 33 f fd [] (fB K vJ):=by
 refine okQ F Fg (fun vs H Q E h=>?_) (fun cdv A outer s H vs Q E hr h=>?_)
 ·obtain⟨rfl,_⟩:=h
  rfl
 obtain⟨rfl,q⟩:=h
 refine⟨_,(aB (bU (i:=0) Fg.nd rfl (Or.inl rfl) (aU aW (aU pR (aD bH hr rfl bD bJ.kp bF .nil pass0 (aj cW ak)) (bB (v:=.int 8) rfl fO eE)) (aD bH hr rfl bD bJ.kp bF .nil pass0 (aj cW ak))))
   (aF (aQ (aU aW (aU aW (qv 0) (aD bH hr rfl bD bJ.kp bF .nil pass0 (aj (bB (v:=.str (PySem.Str.ofString "turn turn front turn part")) rfl jY iG) ak))) (aY (aj (aD vY hr rfl vQ vZ.kp vW .nil pass0 (aj (aD bH hr rfl bD bJ.kp bF .nil pass0 (aj (bB (v:=.str (PySem.Str.ofString "front swap turn part swap twin turn front turn part turn front front swap front")) rfl Av qR) ak)) (aj (aD bH hr rfl bD bJ.kp bF .nil pass0 (aj (bB (v:=.str (PySem.Str.ofString "front turn drop swap")) rfl Ar qQ) ak)) ak))) ak)))))),?_⟩
 refine⟨_,[3,4],rfl,by decide +kernel,by decide +kernel,by decide +kernel,by decide,fun y1 H1 S1 t1=>ain (k:=8) 8 t1 rfl rfl (by decide) (fun y2 H2 S2 t2=>?_)⟩
 refine⟨_,[4],rfl,by decide +kernel,by decide +kernel,by decide +kernel,by decide,fun y3 H3 S3 t3=>cB (t2.mono (.of S3)) t3 (small (by decide)) (fun y4 H4 S4 t4=>?_)⟩
 have S14:=S1.trans (S2.trans (S3.trans S4))
 refine⟨_,rfl,_,[6,6,4,6,5],rfl,by decide +kernel,by decide +kernel,by decide +kernel,by decide,fun y5 H5 S5 t5=>cB (t4.mono (.of S5)) t5 (small (by decide)) (fun y6 H6 S6 t6=>?_)⟩
 refine⟨_,[4,3,6,5,3,2,6,4,6,5,6,4,4,3,4],rfl,by decide +kernel,by decide +kernel,by decide +kernel,by decide,fun y7 H7 S7 t7=>?_⟩
 refine⟨_,[4,6,1,3],rfl,by decide +kernel,by decide +kernel,by decide +kernel,by decide,fun y8 H8 S8 t8=>⟨_,_,_,_,rfl,t7.mono (.of S8),t8,⟨by decide,by decide⟩,⟨by decide,by decide⟩,fun y9 H9 S9 t9=>⟨(by show 1≤sizeLine; decide),fun p10 g10=>?_⟩⟩⟩
 obtain⟨S10,t10⟩:=cF (K:=K) g10 (gD t9)
 have Yj:=S7.trans (S8.trans (S9.trans S10))
 exact cB (t6.mono (.of Yj)) t10 (small (by decide)) (fun y11 H11 S11 t11=>q _ _ (S14.trans (S5.trans (S6.trans (Yj.trans S11)))) t11)
theorem aa4 {zM:Value} (JD:mg "LAY"=some zM) (zO:RelV (.int 0) zM) {Ge:Value} (W6:mg "LAID"=some Ge) (GF:RelV (.str (PySem.Str.ofString "turn turn front turn turn front swap")) Ge) {j8:Value} (oH:mg "FORK"=some j8) (kW:RelV (.int 7) j8) {iD:Value} (jY:mg "TOP_REACHED"=some iD) (iG:RelV (.str (PySem.Str.ofString "turn turn front turn part")) iD) {vI:Value} (Hq:mg "INTO_NO"=some vI) (vP:RelV (.str (PySem.Str.ofString "front swap turn part drop front")) vI) {sS:Value} (DW:mg "INTO_YES"=some sS) (sW:RelV (.str (PySem.Str.ofString "front swap turn part swap drop front")) sS) {lV:Value} (uK:mg "STACK_PARTED"=some lV) (lY:RelV (.str (PySem.Str.ofString "drop front swap part")) lV) {jj:Addr} (Mi:mg "WORKED"=some (.ref jj)) (pQ:∀ H,SqT K H jj [.str (PySem.Str.ofString ""),.str (PySem.Str.ofString "drop"),.str (PySem.Str.ofString "twin turn swap front swap front"),.str (PySem.Str.ofString "swap part swap turn front swap front"),.str (PySem.Str.ofString "swap part turn front front"),.str (PySem.Str.ofString "part turn turn front swap front"),.str (PySem.Str.ofString "swap part swap part swap turn front turn front swap front")])
  {bA:Addr}{aZ:FuncData} (bJ:Fun K "plains" "plains" dG bA aZ) (bH:FnOk P w K mg base CX0 33 bA aZ ["names"] (gW K)) (bF:Binds K aZ ["names"] []) (bD:mg "plains"=some (.ref bA))
  {jR:Addr}{jN:FuncData} (vZ:Fun K "fork" "fork" qP jR jN) (vY:FnOk P w K mg base CX0 33 jR jN ["yes","no"] (Gn K)) (vW:Binds K jN ["yes","no"] []) (vQ:mg "fork"=some (.ref jR))
  (F:Fun K "gone_of" "gone_of" pL f fd):FnOk P w K mg base CX0 34 f fd ["sort"] (Vw K):=by
 refine okQ F Oj (fun vs H Q E h=>?_) (fun cdv A outer s H vs Q E hr h=>?_)
 ·obtain⟨k,rfl,_⟩:=h
  rfl
 obtain⟨k,rfl,h7,q⟩:=h
 refine⟨_,(aB (bU (i:=1) Oj.nd rfl (Or.inl rfl) (aU pR (aD bH hr rfl bD bJ.kp bF .nil pass0 (aj cW ak)) (aU op_add (qv 0) aJ)))
   (aB (cA (bK op_eq (qv 0) (bB (v:=.int 0) rfl JD zO) (nomark _)) (aF (aQ (aU aW (qv 1) (aD bH hr rfl bD bJ.kp bF .nil pass0 (aj (bB (v:=.str (PySem.Str.ofString "turn turn front turn turn front swap")) rfl W6 GF) ak))))) bV)
   (aB (cA (bK op_eq (qv 0) (bB (v:=.int 7) rfl oH kW) (nomark _)) (aF (aQ (aU aW (aU aW (qv 1) (aD bH hr rfl bD bJ.kp bF .nil pass0 (aj (bB (v:=.str (PySem.Str.ofString "turn turn front turn part")) rfl jY iG) ak))) (aY (aj (aD vY hr rfl vQ vZ.kp vW .nil pass0 (aj (aD bH hr rfl bD bJ.kp bF .nil pass0 (aj (bB (v:=.str (PySem.Str.ofString "front swap turn part swap drop front")) rfl DW sW) ak)) (aj (aD bH hr rfl bD bJ.kp bF .nil pass0 (aj (bB (v:=.str (PySem.Str.ofString "front swap turn part drop front")) rfl Hq vP) ak)) ak))) ak))))) bV)
   (aF (aQ (aU aW (aU aW (aU aW (qv 1) (aD bH hr rfl bD bJ.kp bF .nil pass0 (aj (bB (v:=.str (PySem.Str.ofString "drop front swap part")) rfl uK lY) ak))) (aD bH hr rfl bD bJ.kp bF .nil pass0 (aj (cY dH (bB (v:=.ref jj) rfl Mi rfl) (qv 0) (fun _ _=>rfl)) ak))) (aD bH hr rfl bD bJ.kp bF .nil pass0 (aj cW ak)))))))),?_⟩
 refine⟨_,[1],rfl,by decide +kernel,by decide +kernel,by decide +kernel,by decide,fun y1 H1 S1 t1=>⟨_,rfl,_,_,rfl,rfl,U4 (k+1) t1 rfl rfl (by lia) (fun y2 H2 S2 t2=>?_)⟩⟩
 have S12:=S1.trans S2
 refine⟨_,rfl,rfl,_,rfl,ite2 (fun h0=>?_) (fun h0=>?_)⟩
 ·obtain rfl:k=0:=by have:=V.int.inj (of_decide_eq_true h0); lia
  refine⟨_,rfl,_,[6,6,4,6,6,4,3],rfl,by decide +kernel,by decide +kernel,by decide +kernel,by decide,fun y3 H3 S3 t3=>cB (t2.mono (.of S3)) t3 (small (by decide)) (fun y4 H4 S4 t4=>q _ _ (S12.trans (S3.trans S4)) t4)⟩
 refine⟨_,rfl,rfl,_,rfl,ite2 (fun h7=>?_) (fun h7=>?_)⟩
 ·obtain rfl:k=7:=by have:=V.int.inj (of_decide_eq_true h7); lia
  refine⟨_,rfl,_,[6,6,4,6,5],rfl,by decide +kernel,by decide +kernel,by decide +kernel,by decide,fun y5 H5 S5 t5=>cB (t2.mono (.of S5)) t5 (small (by decide)) (fun y6 H6 S6 t6=>?_)⟩
  refine⟨_,[4,3,6,5,3,1,4],rfl,by decide +kernel,by decide +kernel,by decide +kernel,by decide,fun y7 H7 S7 t7=>?_⟩
  refine⟨_,[4,3,6,5,1,4],rfl,by decide +kernel,by decide +kernel,by decide +kernel,by decide,fun y8 H8 S8 t8=>⟨_,_,_,_,rfl,t7.mono (.of S8),t8,⟨by decide,by decide⟩,⟨by decide,by decide⟩,fun y9 H9 S9 t9=>⟨(by show 1≤sizeLine; decide),fun p10 g10=>?_⟩⟩⟩
  obtain⟨S10,t10⟩:=cF (K:=K) g10 (gD t9)
  have Yj:=S7.trans (S8.trans (S9.trans S10))
  exact cB (t6.mono (.of Yj)) t10 (small (by decide)) (fun y11 H11 S11 t11=>q _ _ (S12.trans (S5.trans (S6.trans (Yj.trans S11)))) t11)
 have h0:k≠0:=fun z=>h0 (by subst z; exact decide_eq_true rfl)
 have h7:k≠7:=fun z=>h7 (by subst z; exact decide_eq_true rfl)
 refine⟨_,rfl,_,[1,4,3,5],rfl,by decide +kernel,by decide +kernel,by decide +kernel,by decide,fun y3 H3 S3 t3=>cB (t2.mono (.of S3)) t3 (small (by rw [aj4]; show _+4≤_; lia)) (fun y4 H4 S4 t4=>?_)⟩
 have S14:=S12.trans (S3.trans S4)
 rcases (by lia:k=1∨k=2∨k=3∨k=4∨k=5∨k=6) with rfl | rfl | rfl | rfl | rfl | rfl
 ·refine⟨_,rfl,jj,_,_,_,rfl,rfl,pQ _,rfl,_,[1],rfl,by decide +kernel,by decide +kernel,by decide +kernel,by decide,fun y5 H5 S5 t5=>cB (t4.mono (.of S5)) t5 (small (by decide)) (fun y6 H6 S6 t6=>?_)⟩
  refine⟨_,[3],rfl,by decide +kernel,by decide +kernel,by decide +kernel,by decide,fun y7 H7 S7 t7=>cB (t6.mono (.of S7)) t7 (small (by decide)) (fun y8 H8 S8 t8=>q _ _ (S14.trans (S5.trans (S6.trans (S7.trans S8)))) t8)⟩
 ·refine⟨_,rfl,jj,_,_,_,rfl,rfl,pQ _,rfl,_,[2,6,3,4,3,4],rfl,by decide +kernel,by decide +kernel,by decide +kernel,by decide,fun y5 H5 S5 t5=>cB (t4.mono (.of S5)) t5 (small (by decide)) (fun y6 H6 S6 t6=>?_)⟩
  refine⟨_,[3],rfl,by decide +kernel,by decide +kernel,by decide +kernel,by decide,fun y7 H7 S7 t7=>cB (t6.mono (.of S7)) t7 (small (by decide)) (fun y8 H8 S8 t8=>q _ _ (S14.trans (S5.trans (S6.trans (S7.trans S8)))) t8)⟩
 ·refine⟨_,rfl,jj,_,_,_,rfl,rfl,pQ _,rfl,_,[3,5,3,6,4,3,4],rfl,by decide +kernel,by decide +kernel,by decide +kernel,by decide,fun y5 H5 S5 t5=>cB (t4.mono (.of S5)) t5 (small (by decide)) (fun y6 H6 S6 t6=>?_)⟩
  refine⟨_,[3],rfl,by decide +kernel,by decide +kernel,by decide +kernel,by decide,fun y7 H7 S7 t7=>cB (t6.mono (.of S7)) t7 (small (by decide)) (fun y8 H8 S8 t8=>q _ _ (S14.trans (S5.trans (S6.trans (S7.trans S8)))) t8)⟩
 ·refine⟨_,rfl,jj,_,_,_,rfl,rfl,pQ _,rfl,_,[3,5,6,4,4],rfl,by decide +kernel,by decide +kernel,by decide +kernel,by decide,fun y5 H5 S5 t5=>cB (t4.mono (.of S5)) t5 (small (by decide)) (fun y6 H6 S6 t6=>?_)⟩
  refine⟨_,[3],rfl,by decide +kernel,by decide +kernel,by decide +kernel,by decide,fun y7 H7 S7 t7=>cB (t6.mono (.of S7)) t7 (small (by decide)) (fun y8 H8 S8 t8=>q _ _ (S14.trans (S5.trans (S6.trans (S7.trans S8)))) t8)⟩
 ·refine⟨_,rfl,jj,_,_,_,rfl,rfl,pQ _,rfl,_,[5,6,6,4,3,4],rfl,by decide +kernel,by decide +kernel,by decide +kernel,by decide,fun y5 H5 S5 t5=>cB (t4.mono (.of S5)) t5 (small (by decide)) (fun y6 H6 S6 t6=>?_)⟩
  refine⟨_,[3],rfl,by decide +kernel,by decide +kernel,by decide +kernel,by decide,fun y7 H7 S7 t7=>cB (t6.mono (.of S7)) t7 (small (by decide)) (fun y8 H8 S8 t8=>q _ _ (S14.trans (S5.trans (S6.trans (S7.trans S8)))) t8)⟩
 ·refine⟨_,rfl,jj,_,_,_,rfl,rfl,pQ _,rfl,_,[3,5,3,5,3,6,4,6,4,3,4],rfl,by decide +kernel,by decide +kernel,by decide +kernel,by decide,fun y5 H5 S5 t5=>cB (t4.mono (.of S5)) t5 (small (by decide)) (fun y6 H6 S6 t6=>?_)⟩
  refine⟨_,[3],rfl,by decide +kernel,by decide +kernel,by decide +kernel,by decide,fun y7 H7 S7 t7=>cB (t6.mono (.of S7)) t7 (small (by decide)) (fun y8 H8 S8 t8=>q _ _ (S14.trans (S5.trans (S6.trans (S7.trans S8)))) t8)⟩
theorem aa5 (jC:mg "range"=none) (nA:mg "reversed"=none) {d8:Value} (fO:mg "WHILE"=some d8) (eE:RelV (.int 8) d8)
  {jR:Addr}{jN:FuncData} (vZ:Fun K "fork" "fork" qP jR jN) (vY:FnOk P w K mg base CX0 34 jR jN ["yes","no"] (Gn K)) (vW:Binds K jN ["yes","no"] []) (vQ:mg "fork"=some (.ref jR))
  {zf:Addr}{yJ:FuncData} (Ys:Fun K "while_gone" "while_gone" jE zf yJ) (Ym:FnOk P w K mg base CX0 34 zf yJ [] (fB K vJ)) (X5:Binds K yJ [] []) (WM:mg "while_gone"=some (.ref zf))
  {uo:Addr}{tX:FuncData} (Qc:Fun K "nameless_gone" "nameless_gone" gY uo tX) (PN:FnOk P w K mg base CX0 34 uo tX [] (fB K Gi)) (Px:Binds K tX [] []) (Pg:mg "nameless_gone"=some (.ref uo))
  {IW:Addr}{HY:FuncData} (aed:Fun K "gone_of" "gone_of" pL IW HY) (ad6:FnOk P w K mg base CX0 34 IW HY ["sort"] (Vw K)) (adT:Binds K HY ["sort"] []) (adq:mg "gone_of"=some (.ref IW))
  {bA:Addr}{aZ:FuncData} (bJ:Fun K "plains" "plains" dG bA aZ) (bH:FnOk P w K mg base CX0 34 bA aZ ["names"] (gW K)) (bF:Binds K aZ ["names"] []) (bD:mg "plains"=some (.ref bA))
  (F:Fun K "by_sort" "by_sort" pN f fd):FnOk P w K mg base CX0 35 f fd [] (fB K (cH 8)):=by
 refine okQ F wR (fun vs H Q E h=>?_) (fun cdv A outer s H vs Q E hr h=>?_)
 ·obtain⟨rfl,_⟩:=h
  rfl
 obtain⟨rfl,q⟩:=h
 refine⟨_,(aB (bU (i:=0) wR.nd rfl (Or.inl rfl) (aY (aj (aD vY hr rfl vQ vZ.kp vW .nil pass0 (aj (fK PN hr rfl Pg Qc.kp Px .nil pass0) (aj (fK Ym hr rfl WM Ys.kp X5 .nil pass0) ak))) ak)))
   (aB (V4 PassesOwn.never rfl (ago rfl jC rfl nA (aj (bB (v:=.int 8) rfl fO eE) ak)) (Jv (i:=1) wR.nd rfl (Or.inl rfl)) (aF (bU (i:=0) wR.nd rfl (Or.inl rfl) (aY (aj (aD vY hr rfl vQ vZ.kp vW .nil pass0 (aj (aU aW (aD bH hr rfl bD bJ.kp bF .nil pass0 (aj cW ak)) (qv 0)) (aj (aD ad6 hr rfl adq aed.kp adT .nil pass0 (aj (qv 1) ak)) ak))) ak)))))
   (aF (aQ (qv 0))))),?_⟩
 refine⟨rfl,fun y1 H1 S1 t1=>⟨rfl,fun y2 H2 S2 t2=>⟨_,_,_,_,rfl,t1.mono (.of S2),t2,⟨by decide,by decide⟩,⟨by decide,by decide⟩,fun y3 H3 S3 t3=>⟨(by show 1≤sizeLine; decide),fun p4 g4=>?_⟩⟩⟩⟩
 obtain⟨S4,t4⟩:=cF (K:=K) g4 (gD t3)
 refine⟨rfl,?_⟩
 refine afn (fun i σ' H'=>∃ v o,σ'=[some v,o]∧Same H H'∧TR K H' (.node (cH i)) v) ?_ ?_ ?_
 ·exact⟨_,_,rfl,S1.trans (S2.trans (S3.trans S4)),t4⟩
 ·rintro i σ' H' hi ⟨v,o,rfl,S,ht⟩
  dsimp only [gName]
  have hl1:(cH i).length=1:=by cases i <;> rfl
  refine⟨_,[5,3],rfl,by decide +kernel,by decide +kernel,by decide +kernel,by decide,fun y5 H5 S5 t5=>⟨_,rfl,cB t5 (ht.mono (.of S5)) (small (by rw [hl1]; decide)) (fun y6 H6 S6 t6=>?_)⟩⟩
  refine⟨_,rfl,7 - i,(by show [V.int (7 - (i:Int))]=_; rw [show (((7 - i:Nat):Int))=7 - (i:Int) by lia]),by lia,fun y7 H7 S7 t7=>?_⟩
  have bi:=ahu i (by lia)
  have bg:=aiI (7 - i) (by lia)
  refine⟨_,_,_,_,rfl,t6.mono (.of S7),t7,bi,bg,fun y8 H8 S8 t8=>⟨(by show 1≤sizeLine; decide),fun p9 g9=>?_⟩⟩
  obtain⟨S9,t9⟩:=cF (K:=K) g9 (gD t8)
  exact⟨_,_,rfl,S.trans (S5.trans (S6.trans (S7.trans (S8.trans S9)))),t9⟩
 ·rintro σ' H' ⟨v,o,rfl,S,ht⟩
  exact⟨_,rfl,q _ _ S ht⟩
theorem aaZ
  {bA:Addr}{aZ:FuncData} (bJ:Fun K "plains" "plains" dG bA aZ) (bH:FnOk P w K mg base CX0 35 bA aZ ["names"] (gW K)) (bF:Binds K aZ ["names"] []) (bD:mg "plains"=some (.ref bA))
  {I_:Addr}{H_:FuncData} (aee:Fun K "by_sort" "by_sort" pN I_ H_) (ad7:FnOk P w K mg base CX0 35 I_ H_ [] (fB K (cH 8))) (adU:Binds K H_ [] []) (adt:mg "by_sort"=some (.ref I_))
  {jR:Addr}{jN:FuncData} (vZ:Fun K "fork" "fork" qP jR jN) (vY:FnOk P w K mg base CX0 35 jR jN ["yes","no"] (Gn K)) (vW:Binds K jN ["yes","no"] []) (vQ:mg "fork"=some (.ref jR))
  (F:Fun K "stepped" "stepped" pG f fd):FnOk P w K mg base CX0 36 f fd [] (fB K eF):=by
 refine okQ F Dl (fun vs H Q E h=>?_) (fun cdv A outer s H vs Q E hr h=>?_)
 ·obtain⟨rfl,_⟩:=h
  rfl
 obtain⟨rfl,q⟩:=h
 refine⟨_,(aB (bU (i:=0) Dl.nd rfl (Or.inl rfl) (aU aW (aD bH hr rfl bD bJ.kp bF .nil pass0 (aj cW ak)) (fK ad7 hr rfl adt aee.kp adU .nil pass0)))
   (aB (bU (i:=1) Dl.nd rfl (Or.inl rfl) (aD bH hr rfl bD bJ.kp bF .nil pass0 (aj cW ak)))
   (aF (aQ (aU aW (aD bH hr rfl bD bJ.kp bF .nil pass0 (aj cW ak)) (aY (aj (aD vY hr rfl vQ vZ.kp vW .nil pass0 (aj (qv 0) (aj (qv 1) ak))) ak))))))),?_⟩
 refine⟨_,[5,5],rfl,by decide +kernel,by decide +kernel,by decide +kernel,by decide,fun y1 H1 S1 t1=>⟨rfl,fun y2 H2 S2 t2=>cB (t1.mono (.of S2)) t2 (small (by decide)) (fun y3 H3 S3 t3=>?_)⟩⟩
 have S13:=S1.trans (S2.trans S3)
 refine⟨_,[1],rfl,by decide +kernel,by decide +kernel,by decide +kernel,by decide,fun y4 H4 S4 t4=>?_⟩
 refine⟨_,[5],rfl,by decide +kernel,by decide +kernel,by decide +kernel,by decide,fun y5 H5 S5 t5=>⟨_,rfl,_,rfl,_,_,_,_,rfl,t3.mono (.of (S4.trans S5)),t4.mono (.of S5),⟨by decide +kernel,by decide +kernel⟩,⟨by decide,by decide⟩,fun y6 H6 S6 t6=>⟨(by show 1≤sizeLine; decide),fun p7 g7=>?_⟩⟩⟩
 obtain⟨S7,t7⟩:=cF (K:=K) g7 (gD t6)
 exact cB (t5.mono (.of (S6.trans S7))) t7 (small (by decide)) (fun y8 H8 S8 t8=>q _ _ (S13.trans (S4.trans (S5.trans (S6.trans (S7.trans S8))))) t8)
theorem Wi
  {Yg:Addr}{XM:FuncData} (ajM:Fun K "loop" "loop" xZ Yg XM) (ajJ:FnOk P w K mg base CX0 36 Yg XM ["body"] (acF K)) (ajC:Binds K XM ["body"] []) (air:mg "loop"=some (.ref Yg))
  {Iu:Addr}{HJ:FuncData} (ad9:Fun K "stepped" "stepped" pG Iu HJ) (ad1:FnOk P w K mg base CX0 36 Iu HJ [] (fB K eF)) (adO:Binds K HJ [] []) (adk:mg "stepped"=some (.ref Iu))
  {bA:Addr}{aZ:FuncData} (bJ:Fun K "plains" "plains" dG bA aZ) (bH:FnOk P w K mg base CX0 36 bA aZ ["names"] (gW K)) (bF:Binds K aZ ["names"] []) (bD:mg "plains"=some (.ref bA))
  (F:Fun K "from_head" "from_head" lF f fd):FnOk P w K mg base CX0 37 f fd [] (fB K bN):=by
 refine okQ F VN (fun vs H Q E h=>?_) (fun cdv A outer s H vs Q E hr h=>?_)
 ·obtain⟨rfl,_⟩:=h
  rfl
 obtain⟨rfl,q⟩:=h
 refine⟨_,(aF (aQ (aU aW (aY (aj (aD ajJ hr rfl air ajM.kp ajC .nil pass0 (aj (fK ad1 hr rfl adk ad9.kp adO .nil pass0) ak)) ak)) (aD bH hr rfl bD bJ.kp bF .nil pass0 (aj cW ak))))),?_⟩
 refine⟨rfl,fun y1 H1 S1 t1=>⟨_,_,rfl,t1,by decide +kernel,by decide +kernel,fun y2 H2 S2 t2=>⟨(by show 1≤sizeLine; decide),fun p3 g3=>?_⟩⟩⟩
 obtain⟨S3,t3⟩:=cF (K:=K) g3 (gD t2)
 refine⟨_,[1,5,3,1],rfl,by decide +kernel,by decide +kernel,by decide +kernel,by decide,fun y4 H4 S4 t4=>cB (t3.mono (.of S4)) t4 (small (by decide)) (fun y5 H5 S5 t5=>q _ _ (S1.trans (S2.trans (S3.trans (S4.trans S5)))) t5)⟩
theorem Ul
  {IK:Addr}{HW:FuncData} (aeb:Fun K "opening" "opening" pJ IK HW) (ad4:FnOk P w K mg base CX0 37 IK HW [] (fB K afM)) (adR:Binds K HW [] []) (ado:mg "opening"=some (.ref IK))
  {Bq:Addr}{Bc:FuncData} (Zw:Fun K "from_head" "from_head" lF Bq Bc) (Zo:FnOk P w K mg base CX0 37 Bq Bc [] (fB K bN)) (Zg:Binds K Bc [] []) (Y9:mg "from_head"=some (.ref Bq))
  (F:Fun K "selfrunner" "selfrunner" jF f fd):FnOk P w K mg base CX0 38 f fd [] (fB K dX):=by
 refine okQ F Ua (fun vs H Q E h=>?_) (fun cdv A outer s H vs Q E hr h=>?_)
 ·obtain⟨rfl,_⟩:=h
  rfl
 obtain⟨rfl,q⟩:=h
 refine⟨_,(aF (aQ (aU aW (fK ad4 hr rfl ado aeb.kp adR .nil pass0) (fK Zo hr rfl Y9 Zw.kp Zg .nil pass0)))),?_⟩
 exact⟨rfl,fun y1 H1 S1 t1=>⟨rfl,fun y2 H2 S2 t2=>cB (t1.mono (.of S2)) t2 (small (by decide)) (fun y3 H3 S3 t3=>q _ _ (S1.trans (S2.trans S3)) t3)⟩⟩
theorem YX
  {nU:Addr}{nH:FuncData} (Aa:Fun K "lay" "lay" vo nU nH) (z_:FnOk P w K mg base CX0 32 nU nH ["tree"] (Oe K)) (zX:Binds K nH ["tree"] []) (zR:mg "lay"=some (.ref nU))
  {bA:Addr}{aZ:FuncData} (bJ:Fun K "plains" "plains" dG bA aZ) (bH:FnOk P w K mg base CX0 32 bA aZ ["names"] (gW K)) (bF:Binds K aZ ["names"] []) (bD:mg "plains"=some (.ref bA))
  (F:Fun K "lay_made" "lay_made" jm f fd):FnOk P w K mg base CX0 33 f fd [] (fB K (pB [])):=by
 refine okQ F YF (fun vs H Q E h=>?_) (fun cdv A outer s H vs Q E hr h=>?_)
 ·obtain⟨rfl,_⟩:=h
  rfl
 obtain⟨rfl,q⟩:=h
 refine⟨_,(aF (aQ (aU aW (aY (aj (aD z_ hr rfl zR Aa.kp zX .nil pass0 (aj (aY ak) ak)) ak)) (aD bH hr rfl bD bJ.kp bF .nil pass0 (aj cW ak))))),?_⟩
 refine⟨Nat.zero_le _,fun p1 g1=>?_⟩
 obtain⟨S1,t1⟩:=cF (K:=K) (ts:=[]) g1 (bO.mpr rfl)
 refine⟨_,leaf,rfl,t1,by decide,by decide,fun y2 H2 S2 t2=>⟨(by show 1≤sizeLine; decide),fun p3 g3=>?_⟩⟩
 obtain⟨S3,t3⟩:=cF (K:=K) g3 (gD t2)
 refine⟨_,[4],rfl,by decide +kernel,by decide +kernel,by decide +kernel,by decide,fun y4 H4 S4 t4=>cB (t3.mono (.of S4)) t4 (small (by decide)) (fun y5 H5 S5 t5=>q _ _ (S1.trans (S2.trans (S3.trans (S4.trans S5)))) t5)⟩
theorem Y0
  {bA:Addr}{aZ:FuncData} (bJ:Fun K "plains" "plains" dG bA aZ) (bH:FnOk P w K mg base CX0 38 bA aZ ["names"] (gW K)) (bF:Binds K aZ ["names"] []) (bD:mg "plains"=some (.ref bA))
  {zj:Addr}{yK:FuncData} (Jg:Fun K "selfrunner" "selfrunner" jF zj yK) (Jd:FnOk P w K mg base CX0 38 zj yK [] (fB K dX)) (Im:Binds K yK [] []) (Hj:mg "selfrunner"=some (.ref zj))
  (F:Fun K "both_run" "both_run" nj f fd):FnOk P w K mg base CX0 39 f fd ["own_made"] (TF K):=by
 refine okQ F YH (fun vs H Q E h=>?_) (fun cdv A outer s H vs Q E hr h=>?_)
 ·obtain⟨x,m,rfl,_⟩:=h
  rfl
 obtain⟨x,m,rfl,hx,hm,q⟩:=h
 refine⟨_,(aF (aQ (aU aW (aU aW (aU aW (aU aW (aU aW (aD bH hr rfl bD bJ.kp bF .nil pass0 (aj cW ak)) (qv 0)) (aD bH hr rfl bD bJ.kp bF .nil pass0 (aj cW ak))) (fK Jd hr rfl Hj Jg.kp Im .nil pass0)) (aD bH hr rfl bD bJ.kp bF .nil pass0 (aj cW ak))) (fK Jd hr rfl Hj Jg.kp Im .nil pass0)))),?_⟩
 have e1:(dX:List T).length=12:=by decide
 refine⟨_,[3],rfl,by decide +kernel,by decide +kernel,by decide +kernel,by decide,fun y1 H1 S1 t1=>⟨_,rfl,cB t1 (hx.mono (.of S1)) (small (by show 1+_≤_; lia)) (fun y2 H2 S2 t2=>?_)⟩⟩
 refine⟨_,[3,4],rfl,by decide +kernel,by decide +kernel,by decide +kernel,by decide,fun y3 H3 S3 t3=>cB (t2.mono (.of S3)) t3 (small (by rw [List.length_append]; show 1+_+2≤_; lia)) (fun y4 H4 S4 t4=>?_)⟩
 refine⟨rfl,fun y5 H5 S5 t5=>cB (t4.mono (.of S5)) t5 (small (by rw [List.length_append,List.length_append,e1]; show 1+_+2+_≤_; lia)) (fun y6 H6 S6 t6=>?_)⟩
 refine⟨_,[4],rfl,by decide +kernel,by decide +kernel,by decide +kernel,by decide,fun y7 H7 S7 t7=>cB (t6.mono (.of S7)) t7 (small (by rw [List.length_append,List.length_append,List.length_append,e1]; show 1+_+2+_+1≤_; lia)) (fun y8 H8 S8 t8=>?_)⟩
 refine⟨rfl,fun y9 H9 S9 t9=>cB (t8.mono (.of S9)) t9 (small (by rw [List.length_append,List.length_append,List.length_append,List.length_append,e1]; show 1+_+2+_+1+_≤_; lia)) (fun y10 H10 S10 t10=>?_)⟩
 refine q _ _ (S1.trans (S2.trans (S3.trans (S4.trans (S5.trans (S6.trans (S7.trans (S8.trans (S9.trans S10))))))))) ?_
 rw [List.append_assoc,List.append_assoc,List.append_assoc,List.append_assoc] at t10
 exact t10
theorem Um
  {iu:Addr}{ig:FuncData} (ux:Fun K "lay_made" "lay_made" jm iu ig) (uq:FnOk P w K mg base CX0 34 iu ig [] (fB K (pB []))) (uf:Binds K ig [] []) (tD:mg "lay_made"=some (.ref iu))
  {bA:Addr}{aZ:FuncData} (bJ:Fun K "plains" "plains" dG bA aZ) (bH:FnOk P w K mg base CX0 34 bA aZ ["names"] (gW K)) (bF:Binds K aZ ["names"] []) (bD:mg "plains"=some (.ref bA))
  (F:Fun K "pair_ended" "pair_ended" iV f fd):FnOk P w K mg base CX0 35 f fd [] (fB K (BP [])):=by
 refine okQ F Ub (fun vs H Q E h=>?_) (fun cdv A outer s H vs Q E hr h=>?_)
 ·obtain⟨rfl,_⟩:=h
  rfl
 obtain⟨rfl,q⟩:=h
 refine⟨_,(aF (aQ (aU aW (fK uq hr rfl tD ux.kp uf .nil pass0) (aD bH hr rfl bD bJ.kp bF .nil pass0 (aj cW ak))))),?_⟩
 refine⟨rfl,fun y1 H1 S1 t1=>?_⟩
 refine⟨_,[4,3,4],rfl,by decide +kernel,by decide +kernel,by decide +kernel,by decide,fun y2 H2 S2 t2=>cB (t1.mono (.of S2)) t2 (small (by decide)) (fun y3 H3 S3 t3=>q _ _ (S1.trans (S2.trans S3)) t3)⟩
theorem Rj
  {bA:Addr}{aZ:FuncData} (bJ:Fun K "plains" "plains" dG bA aZ) (bH:FnOk P w K mg base CX0 35 bA aZ ["names"] (gW K)) (bF:Binds K aZ ["names"] []) (bD:mg "plains"=some (.ref bA))
  {iu:Addr}{ig:FuncData} (ux:Fun K "lay_made" "lay_made" jm iu ig) (uq:FnOk P w K mg base CX0 35 iu ig [] (fB K (pB []))) (uf:Binds K ig [] []) (tD:mg "lay_made"=some (.ref iu))
  {jQ:Addr}{jM:FuncData} (zG:Fun K "pair_ended" "pair_ended" iV jQ jM) (zE:FnOk P w K mg base CX0 35 jQ jM [] (fB K (BP []))) (za:Binds K jM [] []) (yC:mg "pair_ended"=some (.ref jQ))
  (F:Fun K "second_made" "second_made" jh f fd):FnOk P w K mg base CX0 36 f fd [] (fB K (Jl [])):=by
 refine okQ F QJ (fun vs H Q E h=>?_) (fun cdv A outer s H vs Q E hr h=>?_)
 ·obtain⟨rfl,_⟩:=h
  rfl
 obtain⟨rfl,q⟩:=h
 refine⟨_,(aF (aQ (aU aW (aU aW (aU aW (aD bH hr rfl bD bJ.kp bF .nil pass0 (aj cW ak)) (fK uq hr rfl tD ux.kp uf .nil pass0)) (aD bH hr rfl bD bJ.kp bF .nil pass0 (aj cW ak))) (fK zE hr rfl yC zG.kp za .nil pass0)))),?_⟩
 refine⟨_,[2],rfl,by decide +kernel,by decide +kernel,by decide +kernel,by decide,fun y1 H1 S1 t1=>⟨rfl,fun y2 H2 S2 t2=>cB (t1.mono (.of S2)) t2 (small (by decide)) (fun y3 H3 S3 t3=>?_)⟩⟩
 refine⟨_,[3,5,1,5],rfl,by decide +kernel,by decide +kernel,by decide +kernel,by decide,fun y4 H4 S4 t4=>cB (t3.mono (.of S4)) t4 (small (by decide)) (fun y5 H5 S5 t5=>⟨rfl,fun y6 H6 S6 t6=>cB (t5.mono (.of S6)) t6 (small (by decide)) (fun y7 H7 S7 t7=>q _ _ (S1.trans (S2.trans (S3.trans (S4.trans (S5.trans (S6.trans S7)))))) t7)⟩)⟩
theorem Uo
  {bA:Addr}{aZ:FuncData} (bJ:Fun K "plains" "plains" dG bA aZ) (bH:FnOk P w K mg base CX0 35 bA aZ ["names"] (gW K)) (bF:Binds K aZ ["names"] []) (bD:mg "plains"=some (.ref bA))
  {iu:Addr}{ig:FuncData} (ux:Fun K "lay_made" "lay_made" jm iu ig) (uq:FnOk P w K mg base CX0 35 iu ig [] (fB K (pB []))) (uf:Binds K ig [] []) (tD:mg "lay_made"=some (.ref iu))
  {jQ:Addr}{jM:FuncData} (zG:Fun K "pair_ended" "pair_ended" iV jQ jM) (zE:FnOk P w K mg base CX0 35 jQ jM [] (fB K (BP []))) (za:Binds K jM [] []) (yC:mg "pair_ended"=some (.ref jQ))
  (F:Fun K "first_made" "first_made" jG f fd):FnOk P w K mg base CX0 36 f fd [] (fB K (Oc [])):=by
 refine okQ F Uc (fun vs H Q E h=>?_) (fun cdv A outer s H vs Q E hr h=>?_)
 ·obtain⟨rfl,_⟩:=h
  rfl
 obtain⟨rfl,q⟩:=h
 refine⟨_,(aF (aQ (aU aW (aU aW (aU aW (aD bH hr rfl bD bJ.kp bF .nil pass0 (aj cW ak)) (fK uq hr rfl tD ux.kp uf .nil pass0)) (aD bH hr rfl bD bJ.kp bF .nil pass0 (aj cW ak))) (fK zE hr rfl yC zG.kp za .nil pass0)))),?_⟩
 refine⟨_,[2],rfl,by decide +kernel,by decide +kernel,by decide +kernel,by decide,fun y1 H1 S1 t1=>⟨rfl,fun y2 H2 S2 t2=>cB (t1.mono (.of S2)) t2 (small (by decide)) (fun y3 H3 S3 t3=>?_)⟩⟩
 refine⟨_,[3,5,3,5,1,3],rfl,by decide +kernel,by decide +kernel,by decide +kernel,by decide,fun y4 H4 S4 t4=>cB (t3.mono (.of S4)) t4 (small (by decide)) (fun y5 H5 S5 t5=>⟨rfl,fun y6 H6 S6 t6=>cB (t5.mono (.of S6)) t6 (small (by decide)) (fun y7 H7 S7 t7=>q _ _ (S1.trans (S2.trans (S3.trans (S4.trans (S5.trans (S6.trans S7)))))) t7)⟩)⟩
theorem Wj
  {nU:Addr}{nH:FuncData} (Aa:Fun K "lay" "lay" vo nU nH) (z_:FnOk P w K mg base CX0 36 nU nH ["tree"] (Oe K)) (zX:Binds K nH ["tree"] []) (zR:mg "lay"=some (.ref nU))
  {bA:Addr}{aZ:FuncData} (bJ:Fun K "plains" "plains" dG bA aZ) (bH:FnOk P w K mg base CX0 36 bA aZ ["names"] (gW K)) (bF:Binds K aZ ["names"] []) (bD:mg "plains"=some (.ref bA))
  {wH:Addr}{wF:FuncData} (U0:Fun K "second_made" "second_made" jh wH wF) (UW:FnOk P w K mg base CX0 36 wH wF [] (fB K (Jl []))) (UJ:Binds K wF [] []) (Uv:mg "second_made"=some (.ref wH))
  {zp:Addr}{yM:FuncData} (Yw:Fun K "first_made" "first_made" jG zp yM) (Yq:FnOk P w K mg base CX0 36 zp yM [] (fB K (Oc []))) (X_:Binds K yM [] []) (WX:mg "first_made"=some (.ref zp))
  (F:Fun K "both_made" "both_made" lG f fd):FnOk P w K mg base CX0 37 f fd [] (fB K (Gg [])):=by
 refine okQ F Gu (fun vs H Q E h=>?_) (fun cdv A outer s H vs Q E hr h=>?_)
 ·obtain⟨rfl,_⟩:=h
  rfl
 obtain⟨rfl,q⟩:=h
 refine⟨_,(aB (bU (i:=0) Gu.nd rfl (Or.inl rfl) (aU aW (aY (aj (aD z_ hr rfl zR Aa.kp zX .nil pass0 (aj (aY ak) ak)) ak)) (aD bH hr rfl bD bJ.kp bF .nil pass0 (aj cW ak))))
   (aF (aQ (aU aW (aU aW (aU aW (aU aW (aD bH hr rfl bD bJ.kp bF .nil pass0 (aj cW ak)) (fK UW hr rfl Uv U0.kp UJ .nil pass0)) (qv 0)) (fK Yq hr rfl WX Yw.kp X_ .nil pass0)) (aD bH hr rfl bD bJ.kp bF .nil pass0 (aj cW ak)))))),?_⟩
 refine jl (fun v=>[some v]) (fun _=>rfl) (fun v H'=>Same H H'∧TR K H' (.node [bC 0 [],W 3,W 4,W 3]) v) (fun R r=>⟨Nat.zero_le _,fun p1 g1=>?_⟩) (fun v0 H0 h0=>?_)
 ·obtain⟨S1,t1⟩:=cF (K:=K) (ts:=[]) g1 (bO.mpr rfl)
  refine⟨_,leaf,rfl,t1,by decide,by decide,fun y2 H2 S2 t2=>⟨(by show 1≤sizeLine; decide),fun p3 g3=>?_⟩⟩
  obtain⟨S3,t3⟩:=cF (K:=K) g3 (gD t2)
  refine⟨_,[3,4,3],rfl,by decide +kernel,by decide +kernel,by decide +kernel,by decide,fun y4 H4 S4 t4=>cB (t3.mono (.of S4)) t4 (small (by decide)) (fun y5 H5 S5 t5=>r _ _ ⟨S1.trans (S2.trans (S3.trans (S4.trans S5))),t5⟩)⟩
 obtain⟨S0,t0⟩:=h0
 refine⟨_,[2],rfl,by decide +kernel,by decide +kernel,by decide +kernel,by decide,fun y1 H1 S1 t1=>⟨rfl,fun y2 H2 S2 t2=>cB (t1.mono (.of S2)) t2 (small (by decide)) (fun y3 H3 S3 t3=>?_)⟩⟩
 have S13:=S1.trans (S2.trans S3)
 refine⟨_,rfl,cB t3 (t0.mono (.of S13)) (small (by decide)) (fun y4 H4 S4 t4=>⟨rfl,fun y5 H5 S5 t5=>cB (t4.mono (.of S5)) t5 (small (by decide)) (fun y6 H6 S6 t6=>?_)⟩)⟩
 refine⟨_,[4],rfl,by decide +kernel,by decide +kernel,by decide +kernel,by decide,fun y7 H7 S7 t7=>cB (t6.mono (.of S7)) t7 (small (by decide)) (fun y8 H8 S8 t8=>q _ _ (S0.trans (S13.trans (S4.trans (S5.trans (S6.trans (S7.trans S8)))))) t8)⟩
theorem ac8
  {nU:Addr}{nH:FuncData} (Aa:Fun K "lay" "lay" vo nU nH) (z_:FnOk P w K mg base CX0 31 nU nH ["tree"] (Oe K)) (zX:Binds K nH ["tree"] []) (zR:mg "lay"=some (.ref nU))
  (F:Fun K "paired" "paired" rE f fd):FnOk P w K mg base CX0 32 f fd ["text","base","behind"] (Vs K):=by
 refine okQ F acJ (fun vs H Q E h=>?_) (fun cdv A outer s H vs Q E hr h=>?_)
 ·obtain⟨x,y,z,g,b,E,rfl,_⟩:=h
  rfl
 obtain⟨x,y,z,g,b,E,rfl,hx,hy,hz,hg,hb,hE,q⟩:=h
 refine⟨_,(aF (aQ (aU aW (aY (aj (aD z_ hr rfl zR Aa.kp zX .nil pass0 (aj (qv 1) ak)) (aj (aD z_ hr rfl zR Aa.kp zX .nil pass0 (aj (qv 0) ak)) ak))) (qv 2)))),?_⟩
 refine⟨_,rfl,y,.node b,rfl,hy,by have:=hb.1; lia,by have:=hb.2; lia,fun y1 H1 S1 t1=>⟨_,rfl,x,.node g,rfl,hx.mono (.of S1),by have:=hg.1; lia,by have:=hg.2; lia,fun y2 H2 S2 t2=>⟨(by show 2≤sizeLine; decide),fun p3 g3=>?_⟩⟩⟩
 obtain⟨S3,t3⟩:=cF (K:=K) g3 (xU (t1.mono (.of S2)) t2)
 have S13:=S1.trans (S2.trans S3)
 exact⟨_,rfl,cB t3 (hz.mono (.of S13)) (small (by show 2+_≤_; lia)) (fun v H4 S4 t4=>q _ _ (S13.trans S4) t4)⟩
theorem ae1
  {Ey:Addr}{Em:FuncData} (ace:Fun K "both_run" "both_run" nj Ey Em) (ab8:FnOk P w K mg base CX0 41 Ey Em ["own_made"] (TF K)) (abW:Binds K Em ["own_made"] []) (abh:mg "both_run"=some (.ref Ey))
  {Br:Addr}{Bd:FuncData} (Zx:Fun K "both_made" "both_made" lG Br Bd) (Zq:FnOk P w K mg base CX0 41 Br Bd [] (fB K (Gg []))) (Zh:Binds K Bd [] []) (Y_:mg "both_made"=some (.ref Br))
  {NP:Addr}{Ni:FuncData} (Yv:Fun K "paired" "paired" rE NP Ni) (Yp:FnOk P w K mg base CX0 41 NP Ni ["text","base","behind"] (Vs K)) (X8:Binds K Ni ["text","base","behind"] []) (WT:mg "paired"=some (.ref NP))
  (F:Fun K "knots" "knots" uG f fd):FnOk P w K mg base CX0 42 f fd ["one","other"] (ZP K):=by
 refine okQ F K1 (fun vs H Q E h=>?_) (fun cdv A outer s H vs Q E hr h=>?_)
 ·obtain⟨x,y,f0,h0,rfl,_⟩:=h
  rfl
 obtain⟨x,y,f0,h0,rfl,hx,hy,hf,hh,q⟩:=h
 refine⟨_,(aB (bU (i:=2) K1.nd rfl (Or.inl rfl) (aD ab8 hr rfl abh ace.kp abW .nil pass0 (aj (fK Zq hr rfl Y_ Zx.kp Zh .nil pass0) ak)))
   (aB (bU (i:=3) K1.nd rfl (Or.inl rfl) (aU aW (aY (aj (qv 0) (aj (qv 1) ak))) (qv 2)))
   (aF (aQ (aY (aj (aD Yp hr rfl WT Yv.kp X8 .nil pass0 (aj (qv 0) (aj (qv 3) (aj (qv 2) ak)))) (aj (aD Yp hr rfl WT Yv.kp X8 .nil pass0 (aj (qv 1) (aj (qv 3) (aj (qv 2) ak)))) ak))))))),?_⟩
 obtain⟨u1,u2⟩:=Il
 have hfl:=hf.len
 have hhl:=hh.len
 have e40:(Af:List T).length≤100:=by decide
 have bb:B 390 900000 (.node (lB f0 h0)):=by
  have e:=Es f0 h0
  have h1:=hf.2
  have h2:=hh.2
  have h3:=hf.1
  have h4:=hh.1
  rw [T.aK] at h1 h2
  refine⟨?_,by lia⟩
  unfold lB
  rw [T.aP,T.aN,T.aN]
  lia
 refine jl (fun v=>[some x,some y,some v,none]) (fun _=>rfl) (fun v H'=>Same H H'∧TR K H' (.node Af) v) (fun R r=>⟨rfl,fun y1 H1 S1 t1=>⟨y1,Gg [],rfl,t1,by decide,fun y2 H2 S2 t2=>r _ _ ⟨S1.trans S2,t2⟩⟩⟩) (fun v2 H2 h2=>?_)
 obtain⟨S2,t2⟩:=h2
 have hx2:=hx.mono (K:=K) (.of S2)
 have hy2:=hy.mono (K:=K) (.of S2)
 refine jl (fun v=>[some x,some y,some v2,some v]) (fun _=>rfl) (fun v H'=>Same H2 H'∧TR K H' (.node (lB f0 h0)) v) (fun R r=>⟨_,rfl,_,rfl,(by show 2≤sizeLine; decide),fun p3 g3=>?_⟩) (fun v3 H3 h3=>?_)
 ·obtain⟨S3,t3⟩:=cF (K:=K) g3 (xU hx2 hy2)
  exact⟨_,rfl,cB t3 (t2.mono (.of S3)) (small (by show 2+_≤_; lia)) (fun v4 H4 S4 t4=>r _ _ ⟨S3.trans S4,t4⟩)⟩
 obtain⟨S3,t3⟩:=h3
 have t23:=t2.mono (K:=K) (.of S3)
 refine⟨_,rfl,_,rfl,_,rfl,x,v3,v2,f0,lB f0 h0,Af,rfl,hx2.mono (.of S3),t3,t23,hf.le (by lia) (by lia),bb,by lia,fun y4 H4 S4 t4=>?_⟩
 refine⟨_,rfl,_,rfl,_,rfl,y,v3,v2,h0,lB f0 h0,Af,rfl,hy2.mono (.of (S3.trans S4)),t3.mono (.of S4),t23.mono (.of S4),hh.le (by lia) (by lia),bb,by lia,fun y5 H5 S5 t5=>⟨(by show 2≤sizeLine; decide),fun p6 g6=>?_⟩⟩
 obtain⟨S6,t6⟩:=cF (K:=K) g6 (xU (t4.mono (.of S5)) t5)
 exact q _ _ (S2.trans (S3.trans (S4.trans (S5.trans S6)))) t6
theorem ae4 (cV:mg "tuple"=none) (JB:mg "zip"=none)
  (F:Fun K "added" "added" sG f fd):FnOk P w K mg base CX0 31 f fd ["one","other"] (ZR K):=by
 refine okQ F aeH (fun vs H Q E h=>?_) (fun cdv A outer s H vs Q E hr h=>?_)
 ·obtain⟨a,b,ns,ms,rfl,_⟩:=h
  rfl
 obtain⟨a,b,ns,ms,rfl,ha,hb,hn,hm,q⟩:=h
 refine⟨_,(aF (aQ (mX ji rfl cV nP (aj (ahJ rfl (qD (fr:=[]) (js:=[]) (sc:=defScope sG) rfl rfl rfl (by decide +kernel) (by decide +kernel) (by decide +kernel) (by decide +kernel) (by exact trivial) (by decide +kernel) (fun y hy=>cell_has hy)) rfl (by decide) (acR rfl JB (aj (qv 0) (aj (qv 1) ak))) (fun _ _ _ _ _=>(aU op_add (qv 0) (qv 1)))) ak)))),?_⟩
 refine⟨_,rfl,_,rfl,a,b,_,_,rfl,ha,hb,aiv (K:=K) (by lia) (by lia) ha hb (fun i j H' R r=>⟨_,rfl,_,rfl,_,_,rfl,rfl,r⟩) (fun D H' S hD=>?_)⟩
 exact⟨D,_,rfl,.inl ⟨SqL.of hD,fun l hl=>q _ _ (S.trans (same_new hl _)) (SqT.of upd_same)⟩⟩
theorem ac6 (JB:mg "zip"=none) (cV:mg "tuple"=none) {qm:Addr} (Mq:mg "ALWAYS"=some (.ref qm)) (K9:∀ H,SqT K H qm [.int 2,.int 2,.int 0,.int 1,.int 2,.int 2,.int 2,.int 0,.int 0,.int 0,.int 1,.int 0,.int 1,.int 0,.int 0]) {vX:Addr} (W_:mg "EACH"=some (.ref vX)) (GR:∀ H,af3 K H vX wW)
  {S_:Addr}{R_:FuncData} (ahi:Fun K "added" "added" sG S_ R_) (ahf:FnOk P w K mg base CX0 31 S_ R_ ["one","other"] (ZR K)) (ag9:Binds K R_ ["one","other"] []) (agP:mg "added"=some (.ref S_))
  (F:Fun K "turned" "turned" pF f fd):FnOk P w K mg base CX0 32 f fd ["tally"] (Vn K):=by
 refine okQ F vK (fun vs H Q E h=>?_) (fun cdv A outer s H vs Q E hr h=>?_)
 ·obtain⟨a,ns,rfl,_⟩:=h
  rfl
 obtain⟨a,ns,rfl,ha,hn,q⟩:=h
 refine⟨_,(aB (bU (i:=1) vK.nd rfl (Or.inl rfl) (bB (v:=.ref qm) rfl Mq rfl))
   (aB (V4 PassesOwn.never rfl (acR rfl JB (aj (qv 0) (aj (bB (v:=.ref vX) rfl W_ rfl) ak))) (ahH rfl (V6 (Jv (i:=2) vK.nd rfl (Or.inr rfl)) (V6 (Jv (i:=3) vK.nd rfl (Or.inl rfl)) agp))) (aF (bU (i:=1) vK.nd rfl (Or.inl rfl) (aD ahf hr rfl agP ahi.kp ag9 .nil pass0 (aj (qv 1) (aj (mX ji rfl cV nP (aj (Du rfl (qD (fr:=["times"]) (js:=[2]) (sc:=defScope pF) rfl rfl rfl (by decide +kernel) (by decide +kernel) (by decide +kernel) (by decide +kernel) (by exact⟨⟨rfl,rfl,rfl⟩,trivial⟩) (by decide +kernel) (fun y hy=>cell_has hy)) (V5 (qv 3)) (fun _ _ _ _ _=>(aU sY (qv 1) (qv 0)))) ak)) ak))))))
   (aF (aQ (qv 1))))),?_⟩
 obtain⟨ys,hy,hr2⟩:=GR H
 have hyl:=hr2.length
 have e15:wW.length=15:=rfl
 refine⟨_,rfl,a,vX,_,_,rfl,ha,hy,?_⟩
 refine agZ (K:=K) (xs:=ns.map nv) (ys:=ys) (fun i σ' H'=>∃ p o2 o3,σ'=[some (.ref a),some (.ref p),o2,o3]∧Same H H'∧SqT K H' p ((Ag (ns.take i) wW xJ).map nv)) ?_ (by rw [List.length_map]; lia) ?_ ?_ ?_
 ·exact⟨qm,_,_,rfl,Same.refl _,(show SqT K H qm (xJ.map nv) from K9 _)⟩
 ·rintro i σ' H' _ ⟨p,o2,o3,rfl,S,hp⟩
  exact⟨cj (.of S) ha,cj (.of S) hy⟩
 ·rintro i x y σ' H' p2 hx hyi ⟨p,o2,o3,rfl,S,hp⟩ g2
  have S2:=same_new g2 (.tup [x,y])
  have hi:i<ns.length:=by have:=(List.getElem?_eq_some_iff.mp hx).1; rw [List.length_map] at this; exact this
  have en:ns[i]?=some ns[i]:=List.getElem?_eq_getElem hi
  rw [List.getElem?_map,en] at hx
  cases hx
  obtain⟨r,er,b,rfl,hb⟩:=hr2.get hyi
  refine⟨p2,_,rfl,SqT.of upd_same,rfl,_,_,rfl,_,_,rfl,rfl,?_⟩
  have hrl:=Ed r (List.mem_of_getElem? er)
  have hb':=cj (.of (S.trans S2)) hb
  refine⟨_,rfl,_,rfl,b,rfl,⟨_,hb'⟩,aiu (K:=K) (ns:=r) (f:=(ns[i] * ·)) (by lia) hb' (fun j H3 R hj r1=>?_) (fun D H3 S3 hD=>?_)⟩
  ·have hle:=ag4 r (List.mem_of_getElem? er) j hj
   have big:(2 ^ 64:Int)=18446744073709551616:=by decide
   refine⟨_,rfl,_,rfl,_,_,rfl,rfl,.inr ⟨by lia,by lia⟩,?_⟩
   show R (V.int ((ns[i]:Int) * (j:Int))) H3
   rw [show V.int ((ns[i]:Int) * (j:Int))=nv (ns[i] * j) from congrArg V.int (Int.natCast_mul _ _).symm]
   exact r1
  ·refine⟨D,_,rfl,.inl ⟨SqL.of hD,fun l hl=>⟨p,l,_,_,rfl,cj (.of (S2.trans (S3.trans (same_new hl _)))) hp,SqT.of upd_same,KD Ed rfl,by rw [List.length_map]; exact hrl,fun p4 H4 S4 hp4=>?_⟩⟩⟩
   exact⟨p4,_,_,rfl,S.trans (S2.trans (S3.trans ((same_new hl _).trans S4))),by rw [Tv en er]; exact hp4⟩
 ·rintro σ' H' ⟨p,o2,o3,rfl,S,hp⟩
  rw [List.length_map,List.take_of_length_le (Nat.le_refl _)] at hp
  exact⟨_,rfl,q p H' S hp⟩
end
end fH
namespace fH
open PySem PySem.Spec PyProof.Rows L2 Sw
section
variable {P:Program}{w:World}{K:PySem.W.Frag}{mg:Str→Option Value}{base:Heap}{f:Addr}{fd:FuncData}
theorem Xf {c:Bool}{A B:Prop} (h:c=false) (k:B):if c=true then A else B:=by subst h; exact k
theorem abm {c:Bool}{A B:Prop} (h:c=true) (k:A):if c=true then A else B:=by subst h; exact k
theorem aiz {tc:TT}{tb te:TS}{u:TS}{D:Ends}{σ:L2.St}{H:Hp} (P:L2.St→Hp→Prop) (k:∀ σ' H',P σ' H'→u D σ' H') (h:∀ N:L2.St→Hp→Prop,(∀ σ' H',P σ' H'→N σ' H')→tIfS tc tb te { D with nx:=N } σ H):tSeq (tIfS tc tb te) u D σ H:=h _ k
theorem UG {X:Cx}{K:PySem.W.Frag} (hK:X.K=K):CallR X (.builtin "isinstance") (fun xs H Q=>∃ a ys T b,xs=[.ref a,.ty T]∧SqT K H a ys∧PySem.W.kitOne K (.type "tuple") (.type T)=some b∧Q (.bl b) H):=by subst hK; exact Ij
def afR (K:PySem.W.Frag):Sp:=fun vs H Q _=>∃ x t,vs=[x]∧TR K H t x∧t.parts≤1000000∧∀ H',Same H H'→Q (.bl true) H'
inductive Few:T→Prop
 | mk {t:T} (h:t.kids.length≤3) (g:∀ w∈t.kids,Few w):Few t
theorem Xk:Few (.node []):=.mk (by decide) fun w hw=>by cases hw
theorem Few.sort {t:T} (h:Few t):aH t≤3:=by
 rw [VD]
 cases h with
 | mk h1 g =>
  cases hk:t.kids with
  | nil=>show min 9 (leaf.kids.length)≤3; decide
  | cons a b =>
   have ga:=g a (by rw [hk]; exact List.mem_cons_self)
   cases ga with
   | mk h2 _=>show min 9 a.kids.length≤3; lia
def WD (t:T):Prop:=aH t≠7∧aH t≠8
theorem Js (c:Nat) (l:List T):aH (.node ([oV c]++l))=min 9 c:=by
 show min 9 (oV c).kids.length=_
 unfold oV
 show min 9 (List.replicate c (T.node [])).length=_
 rw [List.length_replicate]
def ajG (d:Nat) (t:T):Prop:=ShT d t∧Few t
def ajF (d:Nat) (t:T):Prop:=ShW d t∧(d=0→WD t)
def aq4 (d:Nat) (t:T):Prop:=ShX d t∧(d=0→∀ w∈t.kids,WD w∧B 20 100 w)
def Qx (K:PySem.W.Frag) (n:Nat):Sp:=fun vs H Q _=>∃ (p:Addr) (d:Nat),vs=[.ref p,.int (d:Int)]∧d≤n∧zK H p∧∀ y t H',Dr p H H'→TR K H' t y→ajG d t→Q y H'
def ZD (K:PySem.W.Frag) (n:Nat):Sp:=fun vs H Q _=>∃ (p:Addr) (d:Nat),vs=[.ref p,.int (d:Int)]∧d<n∧zK H p∧∀ y t H',Dr p H H'→TR K H' t y→ajF d t→Q y H'
def ZF (K:PySem.W.Frag) (n:Nat):Sp:=fun vs H Q _=>∃ (p:Addr) (d:Nat),vs=[.ref p,.int (d:Int)]∧d<n∧zK H p∧∀ y t H',Dr p H H'→TR K H' t y→aq4 d t→Q y H'
def Vu (K:PySem.W.Frag):Sp:=fun vs H Q _=>∃ x us,vs=[x]∧TR K H (.node us) x∧us.length≤100000∧∀ y H',Same H H'→TR K H' (bC 0 us) y→Q y H'
def Vp (K:PySem.W.Frag):Sp:=fun vs H Q _=>∃ n:Nat,vs=[.int (n:Int)]∧n≤100∧∀ y H',Same H H'→TR K H' (W n) y→Q y H'
def Vx (K:PySem.W.Frag):Sp:=fun vs H Q _=>∃ x ws,vs=[x]∧TR K H (.node ws) x∧ws.length≤1000∧∀ y H',Same H H'→TR K H' (.node (cO ws)) y→Q y H'
def Mk4 (way:Int) (ts:List T):Prop:=(way=8→∃ ws,ts=cO ws∧(∀ w∈ws,WD w∧B 20 100 w)∧ws.length≤4)∧(way=9→∃ ws,ts=[bC 0 (cO ws)]∧(∀ w∈ws,WD w∧B 20 100 w)∧ws.length≤4)
def Vt (K:PySem.W.Frag):Sp:=fun vs H Q _=>∃ (p:Addr) (way:Int),vs=[.ref p,.int way]∧0≤way∧way≤9∧zK H p∧∀ y ts H',Dr p H H'→TR K H' (.node ts) y→B 12 2240 (.node ts)→Mk4 way ts→Q y H'
theorem Vd {a b:Nat}{us:List T} (h:B a b (.node us)):B (max 2 a) (1+b) (bC 0 us):=(cP (su 0) h).le (by lia) (by lia)
theorem B_W (n:Nat):B 2 (2+n) (W n):=(jU (su n)).le (by lia) (by lia)
theorem aeg {a b:Nat}{ws:List T} (h:B a b (.node ws)):B (max a 3) (b+14) (.node (cO ws)):=(rD (show B 3 14 (.node [bC 0 [leaf],bC 8 []]) from ⟨by decide,by decide⟩) h).le (by lia) (by lia)
theorem Wn (jC:mg "range"=none) (gM:mg "len"=none)
  (F:Fun K "_law_deck" "_law_deck" ju f fd):FnOk P w K mg base CX0 32 f fd ["_law_script"] (acG K):=by
 refine okQ F lW (fun vs H Q E h=>?_) (fun cdv A outer s H vs Q E hr h=>?_)
 ·obtain⟨a,ns,rfl,_⟩:=h
  rfl
 obtain⟨a,ns,rfl,hl,h63,q⟩:=h
 refine⟨_,(aB (aeM (i:=1) lW.nd rfl (Or.inl rfl) rfl (qD (fr:=[]) (js:=[]) (sc:=defScope ju) rfl rfl rfl (by decide +kernel) (by decide +kernel) (by decide +kernel) (by decide +kernel) (by exact trivial) (by decide +kernel) (fun y hy=>cell_has hy)) (Z4 (uH aga (qv 0) xr (xq aJ))) (fun _ _ _ _ _=>(aU op_mod (qv 0) aJ)))
   (aB (bU (i:=2) lW.nd rfl (Or.inl rfl) (qT ak))
   (aB (V4 PassesOwn.never rfl (GQ rfl jC (aj aJ ak)) (Jv (i:=3) lW.nd rfl (Or.inl rfl)) (aB (bU (i:=4) lW.nd rfl (Or.inl rfl) (aU op_add (aU sY aJ (qv 3)) aJ))
   (aB (cA (bK Ov (cR call_len_seq rfl gM rm (aj (qv 1) ak)) aJ (nomark _)) (aF (bU (i:=4) lW.nd rfl (Or.inl rfl) (aU op_add (aU sY (cY ix_list (qv 1) (aU op_mod (qv 3) (cR call_len_seq rfl gM rm (aj (qv 1) ak))) (fun _ _=>rfl)) (aU op_add aJ (aU sY aJ (aU op_fdiv (qv 3) (cR call_len_seq rfl gM rm (aj (qv 1) ak)))))) (aU sY aJ (qv 3))))) bV)
   (aF (cX (gK PySem.F.plainAttrs_list PySem.F.slot_list_append PySem.F.type_list_append cU (qv 2) (aj (aU op_fdiv (aU op_mod (aU op_add (aU op_add (aU sY (qv 4) aJ) (aU sY (aU sY aJ (qv 3)) (qv 3))) aJ) aJ) aJ) ak)))))))
   (aF (aQ (qv 2)))))),?_⟩
 have aoC:(ns.take 63).length≤63:=by rw [List.length_take]; lia
 have aiN:qe (ns.map V.int) none (some 63)=(ns.take 63).map V.int:=by
  rw [show (some (63:Int))=some ((63:Nat):Int) from rfl,adF,List.map_take]
 generalize ns.take 63=ms at aoC aiN
 have big:(2 ^ 64:Int)=18446744073709551616:=by decide
 refine⟨_,rfl,63,rfl,a,_,rfl,hl,fun p1 hp1=>?_⟩
 have h1:upd H p1 (.lst (qe (ns.map V.int) none (some 63))) p1=some (.lst (ms.map V.int)):=by rw [upd_same,aiN]
 have S1:Same H (upd H p1 (.lst (qe (ns.map V.int) none (some 63)))):=same_new hp1 _
 generalize upd H p1 (.lst (qe (ns.map V.int) none (some 63)))=H1 at h1 S1
 refine⟨p1,rfl,⟨_,SqL.of h1⟩,agR (fun i y=>∃ n:Int,y=.int n∧0≤n∧n<2147483647) (SqL.of h1) (small (by rw [List.length_map]; lia)) (fun i x H' R hx S hR=>?_) (fun D ys hD ly py=>?_)⟩
 ·obtain⟨z,rfl⟩:∃ z,x=.int z:=by
   rw [List.getElem?_map] at hx
   cases hh:ms[i]? with
   | none=>rw [hh] at hx; cases hx
   | some z=>rw [hh] at hx; exact⟨z,(Option.some.inj hx).symm⟩
  exact⟨_,rfl,_,_,rfl,rfl,(by show (0:Int)<1000000007; decide),hR _ ⟨_,rfl,Int.emod_nonneg _ (by decide),Int.lt_trans (Int.emod_lt_of_pos _ (by decide)) (by decide)⟩⟩
 obtain⟨cs,rfl,hcs⟩:=aai py
 rw [List.length_map,List.length_map] at ly
 have hDl:upd H1 D (.lst (cs.map V.int)) D=some (.lst (cs.map V.int)):=upd_same
 have S2:=S1.trans (same_new hD (.lst (cs.map V.int)))
 generalize upd H1 D (.lst (cs.map V.int))=H2 at hDl S2
 refine⟨Nat.zero_le _,fun p3 hp3=>?_⟩
 have aiD:H p3=none:=S2.free hp3
 have n3:D≠p3:=ne_of_none hDl hp3
 refine⟨140,rfl,by decide,by decide,?_⟩
 refine adw (n:=140) (fun i σ' H'=>∃ (ds:List Int) (o3 o4:Option V),σ'=[some (.ref a),some (.ref D),some (.ref p3),o3,o4]∧Same H H'∧H' D=some (.lst (cs.map V.int))∧H' p3=some (.lst (ds.map V.int))∧ds.length=i) ?_ ?_ ?_
 ·exact⟨[],_,_,rfl,S2.trans (same_new hp3 _),by rw [upd_ne n3]; exact hDl,upd_same,rfl⟩
 ·rintro i σ' H' hi ⟨ds,o3,o4,rfl,S,hd,h3,hlen⟩
  have hi2:(0:Int)+(i:Int)<140:=by lia
  have app:∀ z:Int,∃ (es:List Int) (o3 o4:Option V),[some (.ref a),some (.ref D),some (.ref p3),some (.int (0+(i:Int))),some (.int z)]=[some (.ref a),some (.ref D),some (.ref p3),o3,o4]∧Same H (upd H' p3 (.lst (ds.map V.int++[.int ((z * 16807+7907 * (0+(i:Int)) * (0+(i:Int))+29) % 2147483647 / 3)]))) ∧
    upd H' p3 (.lst (ds.map V.int++[.int ((z * 16807+7907 * (0+(i:Int)) * (0+(i:Int))+29) % 2147483647 / 3)])) D=some (.lst (cs.map V.int))∧upd H' p3 (.lst (ds.map V.int++[.int ((z * 16807+7907 * (0+(i:Int)) * (0+(i:Int))+29) % 2147483647 / 3)])) p3=some (.lst (es.map V.int))∧es.length=i+1:=fun z =>
   ⟨ds++[(z * 16807+7907 * (0+(i:Int)) * (0+(i:Int))+29) % 2147483647 / 3],_,_,rfl,dZ S aiD,by rw [upd_ne n3]; exact hd,by rw [upd_same,List.map_append]; rfl,by rw [List.length_append,hlen]; rfl⟩
  have tail:∀ z:Int,-(2 ^ 60)<z→z<2 ^ 60→∀ R:Prop,((-(2 ^ 64)<z∧z<2 ^ 64)→(-(2 ^ 64)<(7907:Int)∧(7907:Int)<2 ^ 64)→(-(2 ^ 64)<7907 * (0+(i:Int))∧7907 * (0+(i:Int))<2 ^ 64)→R)→R:=fun z h1 h2 R k =>
   k ⟨by have:(2:Int) ^ 60=1152921504606846976:=(by decide); lia,by have:(2:Int) ^ 60=1152921504606846976:=(by decide); lia⟩ ⟨by decide,by decide⟩ ⟨by lia,by lia⟩
  refine⟨_,rfl,_,_,rfl,rfl,.inl ⟨by decide,by decide⟩,_,_,rfl,rfl,?_⟩
  refine⟨_,rfl,D,_,rfl,.inl (SqL.of hd),_,_,rfl,rfl,_,rfl,?_⟩
  refine ite2 (fun hb=>?_) (fun _=>?_)
  ·have hpos:0<cs.length:=by
    have:=of_decide_eq_true hb
    rw [List.length_map] at this
    lia
   have hpos':(0:Int)<((cs.map V.int).length:Int):=by rw [List.length_map]; lia
   have hj0:0≤(0+(i:Int)) % ((cs.map V.int).length:Int):=Int.emod_nonneg _ (by lia)
   have hj1:(0+(i:Int)) % ((cs.map V.int).length:Int)<((cs.map V.int).length:Int):=Int.emod_lt_of_pos _ hpos'
   obtain⟨c,hc,ec⟩:∃ c∈cs,atI (cs.map V.int) ((0+(i:Int)) % ((cs.map V.int).length:Int))=some (.int c):=by
    generalize (0+(i:Int)) % ((cs.map V.int).length:Int)=j at hj0 hj1
    have hk:j.toNat<cs.length:=by rw [List.length_map] at hj1; lia
    have e:(cs.map V.int)[j.toNat]?=some (.int cs[j.toNat]):=by rw [List.getElem?_map,List.getElem?_eq_getElem hk]; rfl
    have:=atI_nat e
    rw [show ((j.toNat:Nat):Int)=j by lia] at this
    exact⟨_,List.getElem_mem hk,this⟩
   obtain⟨c0,c1⟩:=hcs c hc
   refine⟨_,rfl,_,rfl,_,rfl,D,_,rfl,.inl (SqL.of hd),_,_,rfl,rfl,hpos',D,_,_,_,rfl,rfl,SqL.of hd,ec,?_⟩
   refine⟨_,rfl,_,rfl,D,_,rfl,.inl (SqL.of hd),_,_,rfl,rfl,⟨hpos',by rw [List.length_map]; lia⟩,_,_,rfl,rfl,.inl ⟨by decide,by decide⟩,_,_,rfl,rfl,_,_,rfl,rfl,.inl ⟨by lia,by lia⟩,_,rfl,_,_,rfl,rfl,.inl ⟨by decide,by decide⟩,_,_,rfl,rfl,?_⟩
   have hq0:0≤(0+(i:Int)) / ((cs.map V.int).length:Int):=Int.ediv_nonneg (by lia) (by lia)
   have hq1:(0+(i:Int)) / ((cs.map V.int).length:Int)≤0+(i:Int):=Int.ediv_le_self _ (by lia)
   have hz0:0≤c * (1+2 * ((0+(i:Int)) / ((cs.map V.int).length:Int))):=Int.mul_nonneg c0 (by lia)
   have hz1:c * (1+2 * ((0+(i:Int)) / ((cs.map V.int).length:Int)))≤2147483647 * 281:=Int.mul_le_mul (by lia) (by lia) (by lia) (by decide)
   have z60:(2:Int) ^ 60=1152921504606846976:=by decide
   generalize ez:c * (1+2 * ((0+(i:Int)) / ((cs.map V.int).length:Int)))=zc at hz0 hz1
   have hz2:-(2 ^ 60)<zc+17 * (0+(i:Int)):=by lia
   have hz3:zc+17 * (0+(i:Int))<2 ^ 60:=by lia
   refine tail (zc+17 * (0+(i:Int))) hz2 hz3 _ fun t1 t2 t3=>?_
   refine⟨_,rfl,.inl ⟨rfl,_,SqL.of h3⟩,_,rfl,_,_,rfl,rfl,.inl t1,_,rfl,_,_,rfl,rfl,.inl t2,_,rfl,_,_,rfl,rfl,.inl t3,_,_,rfl,rfl,_,_,rfl,rfl,_,_,rfl,rfl,(by show (0:Int)<2147483647; decide),_,_,rfl,rfl,⟨by decide,by decide⟩,p3,_,_,rfl,rfl,h3,acH (by rw [List.length_map]; lia),?_⟩
   exact app (zc+17 * (0+(i:Int)))
  ·have z60:(2:Int) ^ 60=1152921504606846976:=by decide
   refine tail (41 * (0+(i:Int))+3) (by lia) (by lia) _ fun t1 t2 t3=>?_
   refine⟨_,rfl,.inl ⟨rfl,_,SqL.of h3⟩,_,rfl,_,_,rfl,rfl,.inl t1,_,rfl,_,_,rfl,rfl,.inl t2,_,rfl,_,_,rfl,rfl,.inl t3,_,_,rfl,rfl,_,_,rfl,rfl,_,_,rfl,rfl,(by show (0:Int)<2147483647; decide),_,_,rfl,rfl,⟨by decide,by decide⟩,p3,_,_,rfl,rfl,h3,acH (by rw [List.length_map]; lia),?_⟩
   exact app (41 * (0+(i:Int))+3)
 ·rintro σ' H' ⟨ds,o3,o4,rfl,S,hd,h3,hlen⟩
  exact⟨_,rfl,q p3 H' S aiD ⟨ds,h3⟩⟩
theorem Wm (gM:mg "len"=none)
  (F:Fun K "_law_next" "_law_next" gQ f fd):FnOk P w K mg base CX0 31 f fd ["_law_deck_here","_law_many"] Gm:=by
 refine okQ F VP (fun vs H Q E h=>?_) (fun cdv A outer s H vs Q E hr h=>?_)
 ·obtain⟨p,m,rfl,_⟩:=h
  rfl
 obtain⟨p,m,rfl,hm,hd,q⟩:=h
 refine⟨_,(aB (cA (bK op_eq (cR call_len_seq rfl gM rm (aj (qv 0) ak)) aJ (nomark _)) (aF (aQ aJ)) bV)
   (aF (aQ (aU op_mod (gK PySem.F.plainAttrs_list PySem.F.slot_list_pop PySem.F.type_list_pop L_ (qv 0) (aj aJ ak)) (qv 1))))),?_⟩
 obtain⟨ns,hp⟩:=hd
 refine⟨_,rfl,p,_,rfl,.inl (SqL.of hp),rfl,_,rfl,?_⟩
 refine ite2 (fun _=>?_) (fun hb=>?_)
 ·exact q 0 H (by lia) hm (Dr.refl ⟨ns,hp⟩)
 ·cases ns with
  | nil=>exact absurd (decide_eq_true rfl) hb
  | cons n ns =>
   refine⟨_,rfl,.inl ⟨rfl,_,SqL.of hp⟩,p,_,0,0,_,rfl,rfl,hp,by decide,by decide,?_,rfl,?_⟩
   ·rw [seqIndex_of (by decide) (by rw [List.length_map,List.length_cons]; lia)]
    rfl
   ·refine⟨_,rfl,_,_,rfl,rfl,hm,q _ _ (Int.emod_nonneg _ (by lia)) (Int.emod_lt_of_pos _ hm) ⟨fun b o nb e=>?_,⟨ns,?_⟩⟩⟩
    ·rw [upd_ne nb]; exact e
    ·rw [upd_same]; rfl
theorem Rk
  (F:Fun K "_law_leaves" "_law_leaves" fY f fd):FnOk P w K mg base CX0 31 f fd ["_law_many"] (Dj K):=by
 refine okQ F QK (fun vs H Q E h=>?_) (fun cdv A outer s H vs Q E hr h=>?_)
 ·obtain⟨n,rfl,_⟩:=h
  rfl
 obtain⟨n,rfl,hn,q⟩:=h
 refine⟨_,(aF (aQ (aU pR (aY (aj (aY ak) ak)) (qv 0)))),?_⟩
 refine⟨Nat.zero_le _,fun p1 hp1=>⟨(by show 1≤sizeLine; decide),fun p2 hp2=>?_⟩⟩
 have k1:upd (upd H p1 (.tup [])) p2 (.tup [.ref p1]) p1=some (.tup []):=(same_new hp2 _) _ _ upd_same
 have hbig:(2:Int) ^ 62=4611686018427387904:=by decide
 refine⟨_,rfl,p2,_,_,rfl,rfl,SqT.of upd_same,by lia,by lia,?_,fun p3 H3 S3 h3=>?_⟩
 ·rw [Int.toNat_natCast,List.length_singleton]
  exact small (by lia)
 ·rw [agi] at h3
  exact q _ _ (((same_new hp1 _).trans (same_new hp2 _)).trans S3) (vC h3 (Qn (Cp (S3 _ _ k1)) n))
theorem ae5 (cV:mg "tuple"=none) (jC:mg "range"=none)
  {dj:Addr}{dh:FuncData} (fu:Fun K "_law_next" "_law_next" gQ dj dh) (uw:FnOk P w K mg base CX0 31 dj dh ["_law_deck_here","_law_many"] Gm) (fj:Binds K dh ["_law_deck_here","_law_many"] []) (eZ:mg "_law_next"=some (.ref dj))
  {a_t:Addr}{d_t:FuncData} (gR:Fun K "_law_tree" "_law_tree" iT a_t d_t) (jy:Binds K d_t ["_law_deck_here","_law_deep"] []) (jx:mg "_law_tree"=some (.ref a_t)) :
  ∀ n:Nat,FnOk P w K mg base CX0 (32+n) a_t d_t ["_law_deck_here","_law_deep"] (Qx K n):=by
 intro n
 induction n with
 | zero =>
  refine okQ (k:=31) gR Gv (fun vs H Q E h=>?_) (fun cdv A outer s H vs Q E hr h=>?_)
  ·obtain⟨p,d,rfl,_⟩:=h
   rfl
  obtain⟨p,d,rfl,hd,hk,q⟩:=h
  refine⟨_,aB (cA (bK op_eq (qv 1) aJ (nomark _)) (aF (aQ (aY ak))) bV) (aF aeN),?_⟩
  have e:d=0:=by lia
  subst e
  refine⟨_,rfl,rfl,_,rfl,ite2 (fun _=>⟨Nat.zero_le _,fun p1 hp1=>?_⟩) (fun hb=>absurd (decide_eq_true rfl) hb)⟩
  exact q _ _ _ ((Dr.refl hk).same (same_new hp1 _)) (Cp upd_same) ⟨⟨by rw [T.aP,T.bQ]; lia,by rw [T.aK,T.aR]; decide⟩,Xk⟩
 | succ n ih =>
  have jz:=ih
  have dY:=uw.mono (show 31≤32+n by lia)
  refine okQ (k:=32+n) gR Gv (fun vs H Q E h=>?_) (fun cdv A outer s H vs Q E hr h=>?_)
  ·obtain⟨p,d,rfl,_⟩:=h
   rfl
  obtain⟨p,d,rfl,hd,hk,q⟩:=h
  refine⟨_,(aB (cA (bK op_eq (qv 1) aJ (nomark _)) (aF (aQ (aY ak))) bV)
   (aF (aQ (mX ji rfl cV nP (aj (Du rfl (qD (fr:=["_law_deck_here","_law_deep"]) (js:=[0,1]) (sc:=defScope iT) rfl rfl rfl (by decide +kernel) (by decide +kernel) (by decide +kernel) (by decide +kernel) (by exact⟨⟨rfl,rfl,rfl⟩,⟨⟨rfl,rfl,rfl⟩,trivial⟩⟩) (by decide +kernel) (fun y hy=>cell_has hy)) (GQ rfl jC (aj (aD dY hr rfl eZ fu.kp fj .nil pass0 (aj (qv 0) (aj aJ ak))) ak)) (fun _ _ _ _ _=>(aD jz hr rfl jx gR.kp jy .nil pass0 (aj (qv 1) (aj (aU op_sub (qv 2) aJ) ak))))) ak))))),?_⟩
  refine⟨_,rfl,rfl,_,rfl,ite2 (fun hb=>?_) (fun hb=>?_)⟩
  ·have e:d=0:=by
    have:=of_decide_eq_true hb
    have:=V.int.inj this
    lia
   subst e
   refine⟨Nat.zero_le _,fun p1 hp1=>?_⟩
   exact q _ _ _ ((Dr.refl hk).same (same_new hp1 _)) (Cp upd_same) ⟨⟨by rw [T.aP,T.bQ]; lia,by rw [T.aK,T.aR]; decide⟩,Xk⟩
  ·have hd0:d≠0:=fun z=>hb (by subst z; exact decide_eq_true rfl)
   obtain⟨e,rfl⟩:∃ e,d=e+1:=⟨d - 1,by lia⟩
   refine⟨_,rfl,p,4,rfl,by decide,hk,fun m H1 hm0 hm1 D1=>?_⟩
   refine⟨m,rfl,by lia,by lia,?_⟩
   have hk1:=D1.dJ
   refine TY (fun D i ys H'=>D≠p∧H1 D=none∧Dr p H1 H'∧H' D=some (.lst ys)∧ys.length=i∧∃ ts,TRs K H' ts ys∧∀ t∈ts,ajG e t) (small (by lia)) (fun D hD=>?_) (fun D i ys H' j=>⟨j.2.2.2.1,j.2.2.2.2.1⟩) (fun D i ys H' R hi j hR=>?_) (fun D ys H' j=>?_)
   ·have hne:D≠p:=fun z=>by
     obtain⟨ns,e1⟩:=hk1
     rw [z,e1] at hD; cases hD
    exact⟨hne,hD,(Dr.refl hk1).upd hD hne,upd_same,rfl,[],bO.mpr rfl,fun _ h=>by simp at h⟩
   ·obtain⟨hne,hD,Dh,h1,hl,ts,htr,hsh⟩:=j
    refine⟨_,rfl,_,rfl,_,_,rfl,rfl,p,e,(by show [V.ref p,V.int (((e+1:Nat):Int) - 1)]=_; rw [show ((e+1:Nat):Int) - 1=(e:Int) by lia]),by lia,Dh.dJ,fun y t H3 D3 ht hs=>?_⟩
    have h3:=D3.keep D _ hne h1
    refine hR y H3 h3 ⟨hne,hD,(Dh.trans D3).upd hD hne,upd_same,by rw [List.length_append,hl]; rfl,ts++[t],?_,fun u hu=>?_⟩
    ·exact TRs.append ((htr.mono (D3.kt Dh.dJ)).mono (Kt.lst h3)) (cI.mpr ⟨y,[],rfl,ht.mono (Kt.lst h3),bO.mpr rfl⟩)
    ·rcases List.mem_append.mp hu with z | z
     ·exact hsh u z
     ·rw [List.mem_singleton.mp z]; exact hs
   ·obtain⟨hne,hD,Dh,h1,hl,ts,htr,hsh⟩:=j
    refine⟨D,ys,rfl,.inl ⟨SqL.of h1,fun p5 hp5=>?_⟩⟩
    have hlt:ts.length≤3:=by rw [← htr.length,hl]; lia
    refine q _ (.node ts) _ ((D1.trans Dh).same (same_new hp5 _)) (vC (SqT.of upd_same) (htr.mono (Kt.new hp5))) ⟨⟨?_,?_⟩,.mk (by show ts.length≤3; lia) fun w hw=>(hsh w hw).2⟩
    ·rw [T.aP]
     exact T.Bb fun u hu=>by have:=(hsh u hu).1.1; lia
    ·rw [T.aK]
     have:=acZ (b:=pbT e) hlt fun u hu=>(hsh u hu).1.2
     show _≤1+3 * pbT e
     lia
theorem ac9 (jC:mg "range"=none) (cV:mg "tuple"=none)
  {dj:Addr}{dh:FuncData} (fu:Fun K "_law_next" "_law_next" gQ dj dh) (uw:FnOk P w K mg base CX0 31 dj dh ["_law_deck_here","_law_many"] Gm) (fj:Binds K dh ["_law_deck_here","_law_many"] []) (eZ:mg "_law_next"=some (.ref dj))
  {lN:Addr}{lK:FuncData} (gR:Fun K "_law_tree" "_law_tree" iT lN lK) (Yr:FnOk P w K mg base CX0 35 lN lK ["_law_deck_here","_law_deep"] (Qx K 3)) (jy:Binds K lK ["_law_deck_here","_law_deep"] []) (jx:mg "_law_tree"=some (.ref lN))
  {dW:Addr}{dU:FuncData} (gC:Fun K "_law_leaves" "_law_leaves" fY dW dU) (Tq:FnOk P w K mg base CX0 35 dW dU ["_law_many"] (Dj K)) (gk:Binds K dU ["_law_many"] []) (gb:mg "_law_leaves"=some (.ref dW))
  {a_w:Addr}{d_w:FuncData} (BJ:Fun K "_law_word" "_law_word" oO a_w d_w) (Zi:Binds K d_w ["_law_deck_here","_law_deep"] []) (Za:mg "_law_word"=some (.ref a_w))
  {a_x:Addr}{d_x:FuncData} (lO:Fun K "_law_text" "_law_text" jt a_x d_x) (rA:Binds K d_x ["_law_deck_here","_law_deep"] []) (qW:mg "_law_text"=some (.ref a_x)) :
  ∀ n:Nat,n≤4→FnOk P w K mg base CX0 (2 * n+36) a_w d_w ["_law_deck_here","_law_deep"] (ZD K n)∧FnOk P w K mg base CX0 (2 * n+37) a_x d_x ["_law_deck_here","_law_deep"] (ZF K n):=by
 intro n
 induction n with
 | zero =>
  intro _
  refine⟨okQ (k:=35) BJ xX (fun vs H Q E h=>?_) (fun cdv A outer s H vs Q E hr h=>?_),okQ (k:=36) lO Gw (fun vs H Q E h=>?_) (fun cdv A outer s H vs Q E hr h=>?_)⟩
  ·obtain⟨p,d,rfl,_⟩:=h
   rfl
  ·obtain⟨p,d,rfl,hd,_⟩:=h
   exact absurd hd (Nat.not_lt_zero _)
  ·obtain⟨p,d,rfl,_⟩:=h
   rfl
  ·obtain⟨p,d,rfl,hd,_⟩:=h
   exact absurd hd (Nat.not_lt_zero _)
 | succ n ih =>
  intro hn4
  obtain⟨_,rB⟩:=ih (by lia)
  have p1:pbT 1=4:=rfl
  have p2:pbT 2=13:=rfl
  have p3:pbT 3=40:=rfl
  have wd:FnOk P w K mg base CX0 (2 * n+38) a_w d_w ["_law_deck_here","_law_deep"] (ZD K (n+1)):=by
   have dY:=uw.mono (show 31≤2 * n+37 by lia)
   have jz:=Yr.mono (show 35≤2 * n+37 by lia)
   have gB:=Tq.mono (show 35≤2 * n+37 by lia)
   refine okQ (k:=2 * n+37) BJ xX (fun vs H Q E h=>?_) (fun cdv A outer s H vs Q E hr h=>?_)
   ·obtain⟨p,d,rfl,_⟩:=h
    rfl
   obtain⟨p,d,rfl,hd,hk,q⟩:=h
   refine⟨_,(aB (bU (i:=2) xX.nd rfl (Or.inl rfl) (aD dY hr rfl eZ fu.kp fj .nil pass0 (aj (qv 0) (aj aJ ak))))
   (aB (cA (bK DG (qv 2) aJ (nomark _)) (aF (aQ (aU aW (aY (aj (aY ak) ak)) (aD jz hr rfl jx gR.kp jy .nil pass0 (aj (qv 0) (aj aJ ak)))))) bV)
   (aB (cA (bK DG (qv 2) aJ (nomark _)) (aF (aQ (aU aW (aY (aj (aD gB hr rfl gb gC.kp gk .nil pass0 (aj (cY ix_list (qT (aj aJ (aj aJ (aj aJ (aj aJ (aj aJ (aj aJ (aj aJ (aj aJ ak))))))))) (aU op_sub (qv 2) aJ) (fun _ _=>rfl)) ak)) ak)) (aU pR (aD jz hr rfl jx gR.kp jy .nil pass0 (aj (qv 0) (aj aJ ak))) (aU op_fdiv (aD dY hr rfl eZ fu.kp fj .nil pass0 (aj (qv 0) (aj aJ ak))) aJ))))) bV)
   (aB (cA (QW.pt (Oo (bK op_eq (qv 2) aJ (nomark _)) (Ju (bK Ov (qv 1) aJ (nomark _))))) (aF (aQ (aU aW (aY (aj (aD gB hr rfl gb gC.kp gk .nil pass0 (aj aJ ak)) (aj (aD rB hr rfl qW lO.kp rA .nil pass0 (aj (qv 0) (aj (aU op_sub (qv 1) aJ) ak))) ak))) (aD rB hr rfl qW lO.kp rA .nil pass0 (aj (qv 0) (aj (aU op_sub (qv 1) aJ) ak)))))) bV)
   (aB (cA (QW.pt (Oo (bK op_eq (qv 2) aJ (nomark _)) (Ju (bK Ov (qv 1) aJ (nomark _))))) (aF (aQ (aU aW (aY (aj (aD gB hr rfl gb gC.kp gk .nil pass0 (aj aJ ak)) (aj (aY (aj (aD gB hr rfl gb gC.kp gk .nil pass0 (aj aJ ak)) ak)) ak))) (aD rB hr rfl qW lO.kp rA .nil pass0 (aj (qv 0) (aj (aU op_sub (qv 1) aJ) ak)))))) bV)
   (aB (cA (bK op_eq (qv 2) aJ (nomark _)) (aF (aQ (aU aW (aY (aj (aD gB hr rfl gb gC.kp gk .nil pass0 (aj (aU op_add aJ (aD dY hr rfl eZ fu.kp fj .nil pass0 (aj (qv 0) (aj aJ ak)))) ak)) ak)) (aD jz hr rfl jx gR.kp jy .nil pass0 (aj (qv 0) (aj aJ ak)))))) bV)
   (aF (aQ (aD jz hr rfl jx gR.kp jy .nil pass0 (aj (qv 0) (aj aJ ak))))))))))),?_⟩
   have pw:=ah2 d
   refine⟨_,rfl,p,17,rfl,by decide,hk,fun m H1 hm0 hm1 D1=>?_⟩
   have hk1:=D1.dJ
   refine⟨_,rfl,_,_,rfl,rfl,_,rfl,ite2 (fun hb=>?_) (fun hb4=>?_)⟩
   ·refine⟨Nat.zero_le _,fun p1 hp1=>⟨(by show 1≤sizeLine; decide),fun p2' hp2=>?_⟩⟩
    obtain⟨S1,t1⟩:=cF (K:=K) (ts:=[]) hp1 (bO.mpr rfl)
    obtain⟨S2,t2⟩:=cF (K:=K) hp2 (gD t1)
    have D2:=(D1.same S1).same S2
    refine⟨_,rfl,p,2,rfl,by decide,D2.dJ,fun y t H3 D3 ht hs=>?_⟩
    cases t with
    | node us =>
     have b:=rD hs.1.b (jU Ae)
     refine cB (t2.mono (D3.kt D2.dJ)) ht (small (by have:=hs.1.b.len; rw [List.length_singleton]; lia)) (fun z H4 S4 t4=>?_)
     exact q _ _ _ ((D2.trans D3).same S4) t4 ⟨b.le (by lia) (by lia),fun _=>⟨by show 0≠7; decide,by show 0≠8; decide⟩⟩
   refine⟨_,rfl,_,_,rfl,rfl,_,rfl,ite2 (fun hb=>?_) (fun ard=>?_)⟩
   ·have hm4:4≤m:=by
     have:¬ m<4:=fun z=>hb4 (decide_eq_true z)
     lia
    have arb:m<12:=of_decide_eq_true hb
    refine⟨(by show 8≤sizeLine; decide),fun p3' hp3=>?_⟩
    obtain⟨c,hc,ec⟩:=ait (ns:=[1,2,3,4,4,5,6,6]) (k:=(m - 4).toNat) (by show _<8; lia)
    rw [show (((m - 4).toNat:Nat):Int)=m - 4 by lia] at ec
    have hc6:c≤6:=(by decide:∀ c∈([1,2,3,4,4,5,6,6]:List Nat),c≤6) c hc
    refine⟨_,rfl,_,_,rfl,rfl,p3',_,_,_,rfl,rfl,SqL.of upd_same,ec,c,rfl,by lia,fun y H4 S4 t4=>⟨(by show 1≤sizeLine; decide),fun p5 hp5=>?_⟩⟩
    obtain⟨S5,t5⟩:=cF (K:=K) hp5 (gD t4)
    have D5:=((D1.same (same_new hp3 _)).same S4).same S5
    refine⟨_,rfl,p,1,rfl,by decide,D5.dJ,fun y6 u6 H6 D6 t6 s6=>?_⟩
    refine⟨_,rfl,p,5,rfl,by decide,D6.dJ,fun i7 H7 i70 i71 D7=>⟨_,_,rfl,rfl,⟨by decide,by decide⟩,?_⟩⟩
    have D67:=D6.trans D7
    cases u6 with
    | node us =>
     have b6:B 1 4 (.node us):=s6.1.b.le (by lia) (by lia)
     have hul:=b6.len
     obtain⟨j,ej,hj⟩:∃ j:Nat,i7 / 4=(j:Int)∧j≤1:=⟨(i7 / 4).toNat,by lia,by lia⟩
     refine U4 j (t6.mono (D7.kt D6.dJ)) rfl ej (by lia) (fun z8 H8 S8 t8=>?_) (by lia)
     have b8:B 1 4 (.node (List.replicate j us).flatten):=by
      rcases (by lia:j=0∨j=1) with rfl | rfl
      ·exact Ae.le (by lia) (by lia)
      ·rw [show (List.replicate 1 us).flatten=us by simp]; exact b6
     have b:=rD b8 (jU (su c))
     refine cB (t5.mono ((D67.kt D5.dJ).trans (.of S8))) t8 (small (by have:=b8.len; rw [List.length_singleton]; lia)) (fun z H9 S9 t9=>?_)
     exact q _ _ _ (((D5.trans D67).same S8).same S9) t9 ⟨b.le (by lia) (by lia),fun _=>⟨by rw [Js]; lia,by rw [Js]; lia⟩⟩
   try dsimp only [tNext,tSeq,tIfS]
   refine acB (fun R r=>⟨_,rfl,rfl,_,rfl,r⟩) (fun R r=>⟨_,rfl,_,_,rfl,rfl,_,rfl,r⟩) ?_
   refine ite2 (fun hb=>?_) (fun _=>?_)
   ·have hd0:0<d:=by
     have:=of_decide_eq_true (Bool.and_eq_true _ _ ▸ hb).2
     lia
    obtain⟨e,rfl⟩:∃ e,d=e+1:=⟨d - 1,by lia⟩
    have pe:pbW (e+1)=60+2 * (1+4 * pbW e):=rfl
    refine⟨7,rfl,by decide,fun y1 H2 S2 t2=>?_⟩
    have D2:=D1.same S2
    refine⟨_,rfl,_,rfl,_,_,rfl,rfl,p,e,XD p e,by lia,D2.dJ,fun y3 u3 H3 D3 t3 s3=>⟨(by show 2≤sizeLine; decide),fun p4 hp4=>?_⟩⟩
    obtain⟨S4,t4⟩:=cF (K:=K) hp4 (xU (t2.mono (D3.kt D2.dJ)) t3)
    have D4:=(D2.trans D3).same S4
    refine⟨_,rfl,_,rfl,_,_,rfl,rfl,p,e,XD p e,by lia,D4.dJ,fun y5 u5 H5 D5 t5 s5=>?_⟩
    cases u5 with
    | node us =>
     have b:=rD s5.1.1 (cP (su 7) (jU s3.1.1))
     have hl:us.length≤4:=s5.1.2
     refine cB (t4.mono (D5.kt D4.dJ)) t5 (small (by show 2+us.length≤_; lia)) (fun z H6 S6 t6=>?_)
     exact q _ _ _ ((D4.trans D5).same S6) t6 ⟨b.le (by lia) (by lia),fun z=>absurd z (by lia)⟩
   try dsimp only [tNext,tSeq,tIfS]
   refine acB (fun R r=>⟨_,rfl,rfl,_,rfl,r⟩) (fun R r=>⟨_,rfl,_,_,rfl,rfl,_,rfl,r⟩) ?_
   refine ite2 (fun hb=>?_) (fun _=>?_)
   ·have hd0:0<d:=by
     have:=of_decide_eq_true (Bool.and_eq_true _ _ ▸ hb).2
     lia
    obtain⟨e,rfl⟩:∃ e,d=e+1:=⟨d - 1,by lia⟩
    have pe:pbW (e+1)=60+2 * (1+4 * pbW e):=rfl
    refine⟨8,rfl,by decide,fun y1 H2 S2 t2=>⟨1,rfl,by decide,fun y3 H3 S3 t3=>⟨(by show 1≤sizeLine; decide),fun p4 hp4=>⟨(by show 2≤sizeLine; decide),fun p5 hp5=>?_⟩⟩⟩⟩
    obtain⟨S4,t4⟩:=cF (K:=K) hp4 (gD t3)
    obtain⟨S5,t5⟩:=cF (K:=K) hp5 (xU (t2.mono (.of (S3.trans S4))) t4)
    have D5:=(((D1.same S2).same S3).same S4).same S5
    refine⟨_,rfl,_,rfl,_,_,rfl,rfl,p,e,XD p e,by lia,D5.dJ,fun y6 u6 H6 D6 t6 s6=>?_⟩
    cases u6 with
    | node us =>
     have b:=rD s6.1.1 (cP (su 8) (jU (jU (su 1))))
     have hl:us.length≤4:=s6.1.2
     refine cB (t5.mono (D6.kt D5.dJ)) t6 (small (by show 2+us.length≤_; lia)) (fun z H7 S7 t7=>?_)
     exact q _ _ _ ((D5.trans D6).same S7) t7 ⟨b.le (by lia) (by lia),fun z=>absurd z (by lia)⟩
   refine⟨_,rfl,rfl,_,rfl,ite2 (fun hb=>?_) (fun _=>?_)⟩
   ·refine⟨_,rfl,p,4,rfl,by decide,hk1,fun i2 H2 i20 i21 D2=>⟨_,_,rfl,rfl,?_⟩⟩
    obtain⟨j,ej,hj⟩:∃ j:Nat,(9:Int)+i2=(j:Int)∧j≤12:=⟨(9+i2).toNat,by lia,by lia⟩
    refine⟨j,(by show [V.int ((9:Int)+i2)]=_; rw [ej]),by lia,fun y3 H3 S3 t3=>⟨(by show 1≤sizeLine; decide),fun p4 hp4=>?_⟩⟩
    obtain⟨S4,t4⟩:=cF (K:=K) hp4 (gD t3)
    have D4:=((D1.trans D2).same S3).same S4
    refine⟨_,rfl,p,1,rfl,by decide,D4.dJ,fun y5 u5 H5 D5 t5 s5=>?_⟩
    cases u5 with
    | node us =>
     have b:=rD s5.1.b (jU (su j))
     refine cB (t4.mono (D5.kt D4.dJ)) t5 (small (by have:=s5.1.b.len; rw [List.length_singleton]; lia)) (fun z H6 S6 t6=>?_)
     exact q _ _ _ ((D4.trans D5).same S6) t6 ⟨b.le (by lia) (by lia),fun _=>⟨by rw [Js]; lia,by rw [Js]; lia⟩⟩
   exact⟨_,rfl,p,3,rfl,by decide,hk1,fun y t H3 D3 ht hs=>q _ _ _ (D1.trans D3) ht ⟨hs.1.b.le (by lia) (by lia),fun _=>⟨by have:=hs.2.sort; lia,by have:=hs.2.sort; lia⟩⟩⟩
  refine⟨wd,?_⟩
  have Zr:=wd
  have dY:=uw.mono (show 31≤2 * n+38 by lia)
  refine okQ (k:=2 * n+38) lO Gw (fun vs H Q E h=>?_) (fun cdv A outer s H vs Q E hr h=>?_)
  ·obtain⟨p,d,rfl,_⟩:=h
   rfl
  obtain⟨p,d,rfl,hd,hk,q⟩:=h
  refine⟨_,(aF (aQ (mX ji rfl cV nP (aj (Du rfl (qD (fr:=["_law_deck_here","_law_deep"]) (js:=[0,1]) (sc:=defScope jt) rfl rfl rfl (by decide +kernel) (by decide +kernel) (by decide +kernel) (by decide +kernel) (by exact⟨⟨rfl,rfl,rfl⟩,⟨⟨rfl,rfl,rfl⟩,trivial⟩⟩) (by decide +kernel) (fun y hy=>cell_has hy)) (GQ rfl jC (aj (aD dY hr rfl eZ fu.kp fj .nil pass0 (aj (qv 0) (aj aJ ak))) ak)) (fun _ _ _ _ _=>(aD Zr hr rfl Za BJ.kp Zi .nil pass0 (aj (qv 1) (aj (qv 2) ak))))) ak)))),?_⟩
  refine⟨_,rfl,p,5,rfl,by decide,hk,fun m H1 hm0 hm1 D1=>⟨m,rfl,by lia,by lia,?_⟩⟩
  refine agS (K:=K) (ajF d) D1.dJ (small (by lia)) (fun i H' R hi Dh hR=>?_) (fun D ys ts H' Dh hl hlen htr hsh=>?_)
  ·exact⟨_,rfl,_,rfl,p,d,rfl,hd,Dh.dJ,fun y t H3 D3 ht hs=>hR y t H3 D3 ht hs⟩
  refine⟨D,ys,rfl,.inl ⟨SqL.of hl,fun p5 hp5=>?_⟩⟩
  obtain⟨S5,t5⟩:=cF (K:=K) hp5 htr
  exact q _ _ _ ((D1.trans Dh).same S5) t5 ⟨⟨(Vc (n:=4) (fun t ht=>(hsh t ht).1) (by lia)).le (by lia) (by lia),by show ts.length≤4; lia⟩,fun z w hw=>⟨(hsh w hw).2 z,by subst z; exact (hsh w hw).1.le (by decide) (by decide)⟩⟩
def Di (K:PySem.W.Frag) (n:Nat):Sp:=fun vs H Q _=>∃ x t,vs=[x]∧TR K H t x∧t.deep≤n∧t.parts≤1000000∧∀ H',Same H H'→Q (.int (t.parts:Nat)) H'
theorem acY (ts:List T):(ts.map fun t:T=>((t.parts:Nat):Int)).sum=(T.aq ts:Nat):=by
 induction ts with
 | nil=>rfl
 | cons t ts ih=>rw [List.map_cons,List.sum_cons,ih,T.aA]; lia
theorem ac_ (JC:mg "sum"=none)
  {a_t:Addr}{d_t:FuncData} (mU:Fun K "_law_parts" "_law_parts" iW a_t d_t) (ug:Binds K d_t ["_law_tree_here"] []) (tE:mg "_law_parts"=some (.ref a_t)) :
  ∀ n:Nat,FnOk P w K mg base CX0 (32+n) a_t d_t ["_law_tree_here"] (Di K n):=by
 have step:∀ n:Nat,∀ (sp:Sp),FnOk P w K mg base CX0 (31+n) a_t d_t ["_law_tree_here"] sp→(∀ x t H Q E,TR K H t x→t.deep+1≤n→t.parts≤1000000→(∀ H',Same H H'→Q (.int (t.parts:Nat)) H')→sp [x] H Q E)→FnOk P w K mg base CX0 (32+n) a_t d_t ["_law_tree_here"] (Di K n):=by
  intro n sp ur hsp
  have e32:32+n=(31+n)+1:=by lia
  rw [e32]
  refine okQ (k:=31+n) mU Fi (fun vs H Q E h=>?_) (fun cdv A outer s H vs Q E hr h=>?_)
  ·obtain⟨x,t,rfl,_⟩:=h
   rfl
  obtain⟨x,t,rfl,ht,hd,hp,q⟩:=h
  refine⟨_,(aF (aQ (aU op_add aJ (cR (afv rfl) rfl JC adM (aj (Du rfl (qD (fr:=[]) (js:=[]) (sc:=defScope iW) rfl rfl rfl (by decide +kernel) (by decide +kernel) (by decide +kernel) (by decide +kernel) (by exact trivial) (by decide +kernel) (fun y hy=>cell_has hy)) (V5 (qv 0)) (fun _ _ _ _ _=>(aD ur hr rfl tE mU.kp ug .nil pass0 (aj (qv 0) ak)))) ak))))),?_⟩
  cases t with
  | node ts =>
  obtain⟨a,xs,rfl,ha,ra⟩:=cN.mp ht
  have hl:=ra.length
  have hlp:=T.cT ts
  rw [T.aK] at hp
  refine⟨_,rfl,a,rfl,⟨xs,ha⟩,?_⟩
  refine RB (K:=K) (xs:=xs) (fun D i ys H'=>H D=none∧Same H H'∧H' D=some (.lst ys)∧ys=((ts.take i).map fun t:T=>((t.parts:Nat):Int)).map V.int∧i≤ts.length) (small (by lia)) (fun D hD=>⟨hD,same_new hD _,upd_same,rfl,Nat.zero_le _⟩) (fun D i ys H' j=>⟨j.2.2.1,?_,cj (.of j.2.1) ha⟩) (fun D i x ys H' R hx j hR=>?_) (fun D ys H' j=>?_)
  ·rw [j.2.2.2.1,List.length_map,List.length_map,List.length_take]
   exact Nat.min_eq_left j.2.2.2.2
  ·obtain⟨hD,S,h1,h2,_⟩:=j
   obtain⟨u,hu,hxu⟩:=ra.get hx
   have hm:=List.mem_of_getElem? hu
   have hud:=T.lH hm
   have hup:=T.kZ hm
   rw [T.aP] at hd
   refine⟨_,rfl,hsp x u H' _ _ (hxu.mono (.of S)) (by lia) (by lia) fun H3 S3=>?_⟩
   refine hR _ _ (S3 _ _ h1) ⟨hD,dZ (S.trans S3) hD,upd_same,?_,(List.getElem?_eq_some_iff.mp hu).1⟩
   rw [h2,List.take_succ,hu,List.map_append,List.map_append]
   rfl
  ·obtain⟨hD,S,h1,h2,_⟩:=j
   rw [List.take_of_length_le (by lia)] at h2
   refine⟨D,_,rfl,SqL.of (by rw [h1,h2]),_,_,rfl,rfl,?_⟩
   rw [acY]
   show Q (V.int ((1:Int)+((T.aq ts:Nat):Int))) H'
   rw [show (1:Int)+((T.aq ts:Nat):Int)=(((T.node ts).parts:Nat):Int) by rw [T.aK]; lia]
   exact q _ S
 intro n
 induction n with
 | zero =>
  refine step 0 (fun _ _ _ _=>False) ?_ (fun x t H Q E _ h=>absurd h (by lia))
  refine okQ (k:=30) mU Fi (fun vs H Q E h=>h.elim) (fun cdv A outer s H vs Q E hr h=>h.elim)
 | succ n ih =>
  refine step (n+1) (Di K n) ?_ (fun x t H Q E h1 h2 h3 h4=>⟨x,t,rfl,h1,by lia,h3,h4⟩)
  have e:31+(n+1)=32+n:=by lia
  rw [e]
  exact ih
theorem Y4 (abj:mg "all"=none) (cu:mg "isinstance"=none) (cV:mg "tuple"=none)
  (F:Fun K "_law_row" "_law_row" kj f fd):FnOk P w K mg base CX0 31 f fd ["_law_found"] (afR K):=by
 refine okQ F YJ (fun vs H Q E h=>?_) (fun cdv A outer s H vs Q E hr h=>?_)
 ·obtain⟨x,t,rfl,_⟩:=h
  rfl
 obtain⟨x,t,rfl,ht,hp,q⟩:=h
 refine⟨_,(aF (aQ (acT (cR Ij rfl cu gj (aj (qv 0) (aj (Z6 (v:=.ty "tuple") rfl cV nP rfl) ak))) (acS (cR (afw rfl) rfl abj ajA (aj (Du rfl (qD (fr:=[]) (js:=[]) (sc:=defScope kj) rfl rfl rfl (by decide +kernel) (by decide +kernel) (by decide +kernel) (by decide +kernel) (by exact trivial) (by decide +kernel) (fun y hy=>cell_has hy)) (V5 (qv 0)) (fun _ _ _ _ _=>(cR (UG (K:=K) rfl) rfl cu gj (aj (qv 0) (aj (Z6 (v:=.ty "tuple") rfl cV nP rfl) ak))))) ak)))))),?_⟩
 cases t with
 | node ts =>
 obtain⟨a,xs,rfl,ha,ra⟩:=cN.mp ht
 have hl:=ra.length
 have hlp:=T.cT ts
 rw [T.aK] at hp
 refine⟨_,rfl,a,xs,"tuple",true,rfl,ha,by rfl,_,rfl,iteT ?_⟩
 refine⟨_,rfl,a,rfl,⟨xs,ha⟩,?_⟩
 refine RB (K:=K) (xs:=xs) (fun D i ys H'=>H D=none∧Same H H'∧H' D=some (.lst ys)∧ys=List.replicate i (.bl true)) (small (by lia)) (fun D hD=>⟨hD,same_new hD _,upd_same,rfl⟩) (fun D i ys H' j=>⟨j.2.2.1,by rw [j.2.2.2,List.length_replicate],cj (.of j.2.1) ha⟩) (fun D i x ys H' R hx j hR=>?_) (fun D ys H' j=>?_)
 ·obtain⟨hD,S,h1,h2⟩:=j
  obtain⟨u,hu,hxu⟩:=ra.get hx
  obtain⟨a',xs',rfl,ha',ra'⟩:=JN hxu
  refine⟨_,rfl,a',xs',"tuple",true,rfl,cj (.of S) ha',by rfl,?_⟩
  refine hR _ _ h1 ⟨hD,dZ S hD,upd_same,?_⟩
  rw [h2,← List.replicate_succ']
 ·obtain⟨hD,S,h1,h2⟩:=j
  refine⟨D,List.replicate xs.length true,rfl,SqL.of (by rw [h1,h2,List.map_replicate]),?_⟩
  rw [show (List.replicate xs.length true).all id=true from by rw [List.all_eq_true]; intro b hb; rw [List.eq_of_mem_replicate hb]; rfl]
  exact q _ S
theorem Y5
  (F:Fun K "_law_lay" "_law_lay" kI f fd):FnOk P w K mg base CX0 31 f fd ["_law_tree_here"] (Vu K):=by
 refine okQ F YK (fun vs H Q E h=>?_) (fun cdv A outer s H vs Q E hr h=>?_)
 ·obtain⟨x,us,rfl,_⟩:=h
  rfl
 obtain⟨x,us,rfl,hx,hu,q⟩:=h
 refine⟨_,(aF (aQ (aU aW (aY (aj (aY ak) ak)) (qv 0)))),?_⟩
 refine⟨Nat.zero_le _,fun p1 g1=>⟨(by show 1≤sizeLine; decide),fun p2 g2=>?_⟩⟩
 obtain⟨S1,t1⟩:=cF (K:=K) (ts:=[]) g1 (bO.mpr rfl)
 obtain⟨S2,t2⟩:=cF (K:=K) g2 (gD t1)
 exact⟨_,rfl,cB t2 (hx.mono (.of (S1.trans S2))) (small (by show 1+us.length≤_; lia)) (fun z H3 S3 t3=>q _ _ (S1.trans (S2.trans S3)) t3)⟩
theorem Uq
  {dW:Addr}{dU:FuncData} (gC:Fun K "_law_leaves" "_law_leaves" fY dW dU) (gB:FnOk P w K mg base CX0 31 dW dU ["_law_many"] (Dj K)) (gk:Binds K dU ["_law_many"] []) (gb:mg "_law_leaves"=some (.ref dW))
  (F:Fun K "_law_plain" "_law_plain" jH f fd):FnOk P w K mg base CX0 32 f fd ["_law_sort"] (Vp K):=by
 refine okQ F Ud (fun vs H Q E h=>?_) (fun cdv A outer s H vs Q E hr h=>?_)
 ·obtain⟨n,rfl,_⟩:=h
  rfl
 obtain⟨n,rfl,hn,q⟩:=h
 refine⟨_,(aF (aQ (aY (aj (aD gB hr rfl gb gC.kp gk .nil pass0 (aj (qv 0) ak)) ak)))),?_⟩
 refine⟨_,rfl,n,rfl,by lia,fun y1 H1 S1 t1=>⟨(by show 1≤sizeLine; decide),fun p2 g2=>?_⟩⟩
 obtain⟨S2,t2⟩:=cF (K:=K) g2 (gD t1)
 exact q _ _ (S1.trans S2) t2
theorem Ox
  {dW:Addr}{dU:FuncData} (gC:Fun K "_law_leaves" "_law_leaves" fY dW dU) (gB:FnOk P w K mg base CX0 32 dW dU ["_law_many"] (Dj K)) (gk:Binds K dU ["_law_many"] []) (gb:mg "_law_leaves"=some (.ref dW))
  {nY:Addr}{nJ:FuncData} (n_:Fun K "_law_lay" "_law_lay" kI nY nJ) (n8:FnOk P w K mg base CX0 32 nY nJ ["_law_tree_here"] (Vu K)) (nQ:Binds K nJ ["_law_tree_here"] []) (nD:mg "_law_lay"=some (.ref nY))
  (F:Fun K "_law_goes_on" "_law_goes_on" iK f fd):FnOk P w K mg base CX0 33 f fd ["_law_words"] (Vx K):=by
 refine okQ F Ol (fun vs H Q E h=>?_) (fun cdv A outer s H vs Q E hr h=>?_)
 ·obtain⟨x,ws,rfl,_⟩:=h
  rfl
 obtain⟨x,ws,rfl,hx,hl,q⟩:=h
 refine⟨_,(aF (aQ (aU aW (qv 0) (aY (aj (aD n8 hr rfl nD n_.kp nQ .nil pass0 (aj (aY (aj (aY ak) ak)) ak)) (aj (aY (aj (aD gB hr rfl gb gC.kp gk .nil pass0 (aj aJ ak)) ak)) ak)))))),?_⟩
 refine⟨_,rfl,Nat.zero_le _,fun p1 g1=>⟨(by show 1≤sizeLine; decide),fun p2 g2=>?_⟩⟩
 obtain⟨S1,t1⟩:=cF (K:=K) (ts:=[]) g1 (bO.mpr rfl)
 obtain⟨S2,t2⟩:=cF (K:=K) g2 (gD t1)
 refine⟨_,_,rfl,t2,by show 1≤100000; decide,fun y3 H3 S3 t3=>⟨8,rfl,by decide,fun y4 H4 S4 t4=>⟨(by show 1≤sizeLine; decide),fun p5 g5=>⟨(by show 2≤sizeLine; decide),fun p6 g6=>?_⟩⟩⟩⟩
 obtain⟨S5,t5⟩:=cF (K:=K) g5 (gD t4)
 obtain⟨S6,t6⟩:=cF (K:=K) g6 (xU (t3.mono (.of (S4.trans S5))) t5)
 have S16:=S1.trans (S2.trans (S3.trans (S4.trans (S5.trans S6))))
 exact cB (hx.mono (.of S16)) t6 (small (by show _+2≤_; lia)) (fun z H7 S7 t7=>q _ _ (S16.trans S7) t7)
theorem Ur (abf:mg "int"=none)
  {Bs:Addr}{Bf:FuncData} (lO:Fun K "_law_text" "_law_text" jt Bs Bf) (rB:FnOk P w K mg base CX0 44 Bs Bf ["_law_deck_here","_law_deep"] (ZF K 3)) (rA:Binds K Bf ["_law_deck_here","_law_deep"] []) (qW:mg "_law_text"=some (.ref Bs))
  {uZ:Addr}{uR:FuncData} (CK:Fun K "_law_goes_on" "_law_goes_on" iK uZ uR) (Cz:FnOk P w K mg base CX0 44 uZ uR ["_law_words"] (Vx K)) (Cv:Binds K uR ["_law_words"] []) (Ck:mg "_law_goes_on"=some (.ref uZ))
  {nY:Addr}{nJ:FuncData} (n_:Fun K "_law_lay" "_law_lay" kI nY nJ) (n8:FnOk P w K mg base CX0 44 nY nJ ["_law_tree_here"] (Vu K)) (nQ:Binds K nJ ["_law_tree_here"] []) (nD:mg "_law_lay"=some (.ref nY))
  {zu:Addr}{yO:FuncData} (fX:Fun K "_law_plain" "_law_plain" jH zu yO) (fV:FnOk P w K mg base CX0 44 zu yO ["_law_sort"] (Vp K)) (fU:Binds K yO ["_law_sort"] []) (fQ:mg "_law_plain"=some (.ref zu))
  {dj:Addr}{dh:FuncData} (fu:Fun K "_law_next" "_law_next" gQ dj dh) (dY:FnOk P w K mg base CX0 44 dj dh ["_law_deck_here","_law_many"] Gm) (fj:Binds K dh ["_law_deck_here","_law_many"] []) (eZ:mg "_law_next"=some (.ref dj))
  (F:Fun K "_law_maker" "_law_maker" jJ f fd):FnOk P w K mg base CX0 45 f fd ["_law_deck_here","_law_way"] (Vt K):=by
 refine okQ F oE (fun vs H Q E h=>?_) (fun cdv A outer s H vs Q E hr h=>?_)
 ·obtain⟨p,way,rfl,_⟩:=h
  rfl
 obtain⟨p,way,rfl,hw0,hw9,hk,q⟩:=h
 refine⟨_,(aB (bU (i:=2) oE.nd rfl (Or.inl rfl) (aD rB hr rfl qW lO.kp rA .nil pass0 (aj (qv 0) (aj (mX adK rfl abf ajz (aj (Jw DG (qv 1) aJ (nomark _)) ak)) ak))))
   (aB (cA (bK op_eq (qv 1) aJ (nomark _)) (aF (aQ (aD Cz hr rfl Ck CK.kp Cv .nil pass0 (aj (qv 2) ak)))) bV)
   (aB (cA (bK op_eq (qv 1) aJ (nomark _)) (aF (aQ (aY (aj (aD n8 hr rfl nD n_.kp nQ .nil pass0 (aj (aD Cz hr rfl Ck CK.kp Cv .nil pass0 (aj (qv 2) ak)) ak)) ak)))) bV)
   (aB (bU (i:=3) oE.nd rfl (Or.inl rfl) (aY (aj (aD fV hr rfl fQ fX.kp fU .nil pass0 (aj aJ ak)) ak)))
   (aB (cA (bK op_eq (aD dY hr rfl eZ fu.kp fj .nil pass0 (aj (qv 0) (aj aJ ak))) aJ (nomark _)) (aF (bU (i:=3) oE.nd rfl (Or.inl rfl) (aY (aj (aD fV hr rfl fQ fX.kp fU .nil pass0 (aj aJ ak)) (aj (aD fV hr rfl fQ fX.kp fU .nil pass0 (aj aJ ak)) (aj (aD fV hr rfl fQ fX.kp fU .nil pass0 (aj aJ ak)) ak)))))) bV)
   (aB (bU (i:=3) oE.nd rfl (Or.inl rfl) (aU aW (qv 3) (aY (aj (aD n8 hr rfl nD n_.kp nQ .nil pass0 (aj (aY ak) ak)) (aj (aD fV hr rfl fQ fX.kp fU .nil pass0 (aj aJ ak)) ak)))))
   (aB (cA (bK DG (qv 1) aJ (nomark _)) (aF (aQ (aU aW (qv 3) (aY (aj (aD n8 hr rfl nD n_.kp nQ .nil pass0 (aj (aU aW (aY (aj (aD fV hr rfl fQ fX.kp fU .nil pass0 (aj aJ ak)) ak)) (qv 2)) ak)) (aj (aD fV hr rfl fQ fX.kp fU .nil pass0 (aj aJ ak)) (aj (aD fV hr rfl fQ fX.kp fU .nil pass0 (aj aJ ak)) ak))))))) bV)
   (aB (cA (bK DG (qv 1) aJ (nomark _)) (aF (aQ (aU aW (qv 3) (aY (aj (aD n8 hr rfl nD n_.kp nQ .nil pass0 (aj (aY ak) ak)) (aj (aD fV hr rfl fQ fX.kp fU .nil pass0 (aj aJ ak)) (aj (aD fV hr rfl fQ fX.kp fU .nil pass0 (aj aJ ak)) ak))))))) bV)
   (aB (cA (bK op_eq (qv 1) aJ (nomark _)) (aF (aQ (qv 2))) bV)
   (aF (aQ (aY (aj (aD n8 hr rfl nD n_.kp nQ .nil pass0 (aj (qv 2) ak)) ak))))))))))))),?_⟩
 refine jl (fun v=>[some (.ref p),some (.int way),some v,none]) (fun _=>rfl) (fun v H'=>∃ ts,Dr p H H'∧TR K H' (.node ts) v∧B 6 2169 (.node ts)∧ts.length≤4∧(8≤way→∀ w∈ts,WD w∧B 20 100 w)) (fun R r=>?_) (fun v2 H2 h2=>?_)
 ·refine⟨_,rfl,_,rfl,_,_,rfl,rfl,.inr ⟨_,rfl,?_⟩⟩
  by_cases hw8:way<8
  ·rw [if_pos (decide_eq_true hw8)]
   refine⟨p,1,rfl,by decide,hk,fun y t H2 D2 t2 s2=>r _ _ ?_⟩
   cases t with
   | node ts=>exact⟨ts,D2,t2,s2.1.1.le (by decide) (by decide),s2.1.2,fun z=>by lia⟩
  ·rw [if_neg (by rw [decide_eq_true_eq]; exact hw8)]
   refine⟨p,0,rfl,by decide,hk,fun y t H2 D2 t2 s2=>r _ _ ?_⟩
   cases t with
   | node ts=>exact⟨ts,D2,t2,s2.1.1.le (by decide) (by decide),s2.1.2,fun _ w hw=>s2.2 rfl w hw⟩
 obtain⟨ts,D2,t2,b2,l2,g2⟩:=h2
 by_cases w8:way=8
 ·refine⟨_,rfl,rfl,_,rfl,abm (decide_eq_true (congrArg V.int w8)) ?_⟩
  exact⟨_,rfl,v2,ts,rfl,t2,by lia,fun y3 H3 S3 t3=>q _ _ _ (D2.same S3) t3 ((aeg b2).le (by lia) (by lia)) ⟨fun _=>⟨ts,rfl,g2 (by lia),l2⟩,fun z=>by lia⟩⟩
 refine⟨_,rfl,rfl,_,rfl,Xf (decide_eq_false (fun z=>w8 (V.int.inj z))) ?_⟩
 by_cases w9:way=9
 ·refine⟨_,rfl,rfl,_,rfl,abm (decide_eq_true (congrArg V.int w9)) ?_⟩
  refine⟨_,rfl,v2,ts,rfl,t2,by lia,fun y3 H3 S3 t3=>⟨y3,_,rfl,t3,by unfold cO; rw [List.length_append]; show _+2≤_; lia,fun y4 H4 S4 t4=>⟨(by show 1≤sizeLine; decide),fun p5 g5=>?_⟩⟩⟩
  obtain⟨S5,t5⟩:=cF (K:=K) g5 (gD t4)
  exact q _ _ _ (((D2.same S3).same S4).same S5) t5 ((jU (Vd (aeg b2))).le (by lia) (by lia)) ⟨fun z=>absurd z w8,fun _=>⟨ts,rfl,g2 (by lia),l2⟩⟩
 refine⟨_,rfl,rfl,_,rfl,Xf (decide_eq_false (fun z=>w9 (V.int.inj z))) ?_⟩
 have mk:∀ us,Mk4 way us:=fun us=>⟨fun z=>absurd z w8,fun z=>absurd z w9⟩
 dsimp only [tNext]
 refine jl (fun v=>[some (.ref p),some (.int way),some v2,some v]) (fun _=>rfl) (fun v H'=>Dr p H H'∧TR K H' (.node ts) v2∧TR K H' (.node [W 5]) v) (fun R r=>⟨5,rfl,by decide,fun y3 H3 S3 t3=>⟨(by show 1≤sizeLine; decide),fun p4 g4=>?_⟩⟩) (fun v3 H3 h3=>?_)
 ·obtain⟨S4,t4⟩:=cF (K:=K) g4 (gD t3)
  exact r _ _ ⟨(D2.same S3).same S4,t2.mono (.of (S3.trans S4)),t4⟩
 obtain⟨D3,t23,t3⟩:=h3
 refine aiz (fun σ' H'=>∃ (v:V) (as:List T),σ'=[some (.ref p),some (.int way),some v2,some v]∧Dr p H H'∧TR K H' (.node ts) v2∧TR K H' (.node as) v∧B 3 25 (.node as)∧as.length≤3) (fun σ4 H4 h4=>?_) (fun N hN=>?_)
 rotate_left
 ·refine⟨_,rfl,p,2,rfl,by decide,D3.dJ,fun i H4 i0 i1 D4=>⟨rfl,_,rfl,ite2 (fun _=>?_) (fun _=>?_)⟩⟩
  rotate_left
  ·exact hN _ _ ⟨v3,[W 5],rfl,D3.trans D4,t23.mono (D4.kt D3.dJ),t3.mono (D4.kt D3.dJ),(jU (B_W 5)).le (by lia) (by lia),by decide⟩
  refine⟨5,rfl,by decide,fun y5 H5 S5 t5=>⟨1,rfl,by decide,fun y6 H6 S6 t6=>⟨5,rfl,by decide,fun y7 H7 S7 t7=>⟨(by show 3≤sizeLine; decide),fun p8 g8=>?_⟩⟩⟩⟩
  obtain⟨S8,t8⟩:=cF (K:=K) g8 (aep (t5.mono (.of (S6.trans S7))) (t6.mono (.of S7)) t7)
  have S58:=S5.trans (S6.trans (S7.trans S8))
  exact hN _ _ ⟨_,_,rfl,(D3.trans D4).same S58,(t23.mono (D4.kt D3.dJ)).mono (.of S58),t8,(cP (B_W 5) (cP (B_W 1) (jU (B_W 5)))).le (by lia) (by lia),by decide⟩
 obtain⟨v4,as,rfl,D4,t24,t4,b4,l4⟩:=h4
 refine jl (fun v=>[some (.ref p),some (.int way),some v2,some v]) (fun _=>rfl) (fun v H'=>Dr p H H'∧TR K H' (.node ts) v2∧TR K H' (.node (as++[bC 0 [],W 4])) v) (fun R r=>⟨_,rfl,Nat.zero_le _,fun p1 g1=>?_⟩) (fun v5 H5 h5=>?_)
 ·obtain⟨S1,t1⟩:=cF (K:=K) (ts:=[]) g1 (bO.mpr rfl)
  refine⟨_,[],rfl,t1,by decide,fun y3 H3 S3 t3=>⟨4,rfl,by decide,fun y4 H4 S4 t4'=>⟨(by show 2≤sizeLine; decide),fun p5 g5=>?_⟩⟩⟩
  obtain⟨S5,t5⟩:=cF (K:=K) g5 (xU (t3.mono (.of S4)) t4')
  have S15:=S1.trans (S3.trans (S4.trans S5))
  exact cB (t4.mono (.of S15)) t5 (small (by show _+2≤_; lia)) (fun z H6 S6 t6=>r _ _ ⟨D4.same (S15.trans S6),t24.mono (.of (S15.trans S6)),t6⟩)
 obtain⟨D5,t25,t5⟩:=h5
 have b5:B 3 35 (.node (as++[bC 0 [],W 4])):=(rD (show B 3 10 (.node [bC 0 [],W 4]) from ⟨by decide +kernel,by decide +kernel⟩) b4).le (by lia) (by lia)
 have l5:(as++[bC 0 [],W 4]).length≤5:=by rw [List.length_append]; show _+2≤5; lia
 have hlt:=b2.len
 refine⟨_,rfl,_,_,rfl,rfl,_,rfl,ite2 (fun _=>?_) (fun _=>?_)⟩
 ·refine⟨_,rfl,4,rfl,by decide,fun y6 H6 S6 t6=>⟨(by show 1≤sizeLine; decide),fun p7 g7=>?_⟩⟩
  obtain⟨S7,t7⟩:=cF (K:=K) g7 (gD t6)
  refine⟨_,rfl,cB t7 (t25.mono (.of (S6.trans S7))) (small (by show 1+ts.length≤_; lia)) (fun y8 H8 S8 t8=>⟨y8,_,rfl,t8,by show ts.length+1≤_; lia,fun y9 H9 S9 t9=>⟨3,rfl,by decide,fun y10 H10 S10 t10=>⟨4,rfl,by decide,fun y11 H11 S11 t11=>⟨(by show 3≤sizeLine; decide),fun p12 g12=>?_⟩⟩⟩⟩)⟩
  obtain⟨S12,t12⟩:=cF (K:=K) g12 (aep (t9.mono (.of (S10.trans S11))) (t10.mono (.of S11)) t11)
  have Yi:=S6.trans (S7.trans (S8.trans (S9.trans (S10.trans (S11.trans S12)))))
  refine cB (t5.mono (.of Yi)) t12 (small (by show _+3≤_; lia)) (fun z H13 S13 t13=>q _ _ _ (D5.same (Yi.trans S13)) t13 ?_ (mk _))
  exact (rD (cP (Vd (rD b2 (jU (B_W 4)))) (cP (B_W 3) (jU (B_W 4)))) b5).le (by lia) (by lia)
 refine⟨_,rfl,_,_,rfl,rfl,_,rfl,ite2 (fun _=>?_) (fun _=>?_)⟩
 ·refine⟨_,rfl,Nat.zero_le _,fun p6 g6=>?_⟩
  obtain⟨S6,t6⟩:=cF (K:=K) (ts:=[]) g6 (bO.mpr rfl)
  refine⟨_,[],rfl,t6,by decide,fun y9 H9 S9 t9=>⟨3,rfl,by decide,fun y10 H10 S10 t10=>⟨4,rfl,by decide,fun y11 H11 S11 t11=>⟨(by show 3≤sizeLine; decide),fun p12 g12=>?_⟩⟩⟩⟩
  obtain⟨S12,t12⟩:=cF (K:=K) g12 (aep (t9.mono (.of (S10.trans S11))) (t10.mono (.of S11)) t11)
  have Yi:=S6.trans (S9.trans (S10.trans (S11.trans S12)))
  refine cB (t5.mono (.of Yi)) t12 (small (by show _+3≤_; lia)) (fun z H13 S13 t13=>q _ _ _ (D5.same (Yi.trans S13)) t13 ?_ (mk _))
  exact (rD (cP (Vd Ae) (cP (B_W 3) (jU (B_W 4)))) b5).le (by lia) (by lia)
 refine⟨_,rfl,rfl,_,rfl,ite2 (fun _=>?_) (fun _=>?_)⟩
 ·exact⟨_,rfl,q _ _ _ D5 t25 (b2.le (by lia) (by lia)) (mk _)⟩
 refine⟨_,rfl,v2,ts,rfl,t25,by lia,fun y6 H6 S6 t6=>⟨(by show 1≤sizeLine; decide),fun p7 g7=>?_⟩⟩
 obtain⟨S7,t7⟩:=cF (K:=K) g7 (gD t6)
 exact q _ _ _ ((D5.same S6).same S7) t7 ((jU (Vd b2)).le (by lia) (by lia)) (mk _)
end
end fH
namespace fH
open PySem PySem.Spec PyProof.Rows L2 Sw
section
variable {P:Program}{w:World}{K:PySem.W.Frag}{mg:Str→Option Value}{base:Heap}{f:Addr}{fd:FuncData}
theorem ajE {K:PySem.W.Frag}{H:Hp}{t u:T}{x:V} (h:TR K H (.node [t,u]) x):∃ a y z,x=.ref a∧SqT K H a [y,z]∧TR K H t y∧TR K H u z:=by
 obtain⟨a,xs,rfl,ha,ra⟩:=cN.mp h
 obtain⟨y,ys,rfl,hy,r2⟩:=cI.mp ra
 obtain⟨z,zs,rfl,hz,r3⟩:=cI.mp r2
 obtain rfl:=bO.mp r3
 exact⟨a,y,z,rfl,ha,hy,hz⟩
theorem adB {a:Nat}{st:Std} (ha:4≤a) (h:mJ a st):∀ n,mJ (a+n) (stN n st)
 | 0=>h
 | n+1=>adA (a:=a+n) (by lia) (adB ha h n)
theorem ZX {M b a:Nat}{tx s:List T} (ha:4≤a) (he:(goT b tx s).1=[]) (hM:Wds M tx) (hd:mJ a (tx,s)):∃ N,stN N (tx,s)=([],(goT b tx s).2.1)∧T.aq (goT b tx s).2.1≤T.aq s+b+b * (M+3) ∧
  ∀ i,i≤N→In (a+b) (T.aq tx+b * M+(T.aq s+b+b * (M+3))) (stN i (tx,s))∧iH (stN i (tx,s)).1 (stN i (tx,s)).2≤b+M:=by
 obtain⟨N,hN,hst,h⟩:=aeI b tx s he hM
 refine⟨N,hst,?_,fun i hi=>?_⟩
 ·obtain⟨_,_,h3,_⟩:=h N (Nat.le_refl _)
  rw [hst] at h3
  have e2:N * (M+3)≤b * (M+3):=Nat.mul_le_mul_right _ hN
  have h3:T.aq (goT b tx s).2.1≤T.aq s+b+N * (M+3):=h3
  lia
 ·obtain⟨_,h2,h3,h4⟩:=h i hi
  have e1:i * M≤b * M:=Nat.mul_le_mul_right M (by lia)
  have e2:i * (M+3)≤b * (M+3):=Nat.mul_le_mul_right _ (by lia)
  exact⟨⟨(adB ha hd i).le (by lia),by show T.aq _+T.aq _≤_; lia⟩,h4⟩
theorem Yx {g f h:List T} (bg:B 12 2240 (.node g)) (bf:B 12 2240 (.node f)) (bh:B 12 2240 (.node h)):B 92 12400 (.node (fZ g f h)):=by
 obtain⟨p1,p2⟩:=Il
 have e:=aaW g f h
 have g1:=bg.1
 have g2:=bg.2
 have f1:=bf.1
 have f2:=bf.2
 have h1:=bh.1
 have h2:=bh.2
 rw [T.aP] at g1 f1 h1
 rw [T.aK] at g2 f2 h2
 refine⟨?_,by lia⟩
 unfold fZ bC oV lB
 rw [T.aP,T.aN,T.aP,T.aN,List.replicate_zero,T.aP,T.bQ,T.aN,T.aN,T.aP,T.aP,T.aN,T.aP,T.aN,T.aP,T.bQ]
 lia
theorem ajN {f h:List T} (bf:B 12 2240 (.node f)) (bh:B 12 2240 (.node h)):B 93 24801 (.node (cC f h)):=(cP (Yx bf bf bh) (jU (Yx bh bf bh))).le (by lia) (by lia)
theorem aiJ {g:List T}{M:Nat} (h:(T.node g).parts≤M):Wds M [.node g]:=fun t ht w hw=>by
 rw [List.mem_singleton.mp ht] at hw
 have:=T.kZ (show w∈g from hw)
 rw [T.aK] at h
 lia
theorem ako {t:T}{M:Nat} (h:t.parts≤M):Wds M [t]:=fun u hu w hw=>by
 rw [List.mem_singleton.mp hu] at hw
 have:=T.kZ hw
 rw [T.dI] at h
 lia
theorem Vg {ns:List Nat} (h:ns.length=15):nO (turnT ns)=((bY (aV cZ) 0 ns+13:Nat):Int):=by
 rw [adG (Ku ns),afr cZ h,show uW cZ=13 by decide]
theorem ok_law (gM:mg "len"=none)
  {Bt:Addr}{Bg:FuncData} (Zy:Fun K "_law_deck" "_law_deck" ju Bt Bg) (Zt:FnOk P w K mg base CX0 59 Bt Bg ["_law_script"] (acG K)) (Zj:Binds K Bg ["_law_script"] []) (Zb:mg "_law_deck"=some (.ref Bt))
  {dj:Addr}{dh:FuncData} (fu:Fun K "_law_next" "_law_next" gQ dj dh) (dY:FnOk P w K mg base CX0 59 dj dh ["_law_deck_here","_law_many"] Gm) (fj:Binds K dh ["_law_deck_here","_law_many"] []) (eZ:mg "_law_next"=some (.ref dj))
  {zy:Addr}{yQ:FuncData} (Jh:Fun K "_law_maker" "_law_maker" jJ zy yQ) (Je:FnOk P w K mg base CX0 59 zy yQ ["_law_deck_here","_law_way"] (Vt K)) (Io:Binds K yQ ["_law_deck_here","_law_way"] []) (Hl:mg "_law_maker"=some (.ref zy))
  {lN:Addr}{lK:FuncData} (gR:Fun K "_law_tree" "_law_tree" iT lN lK) (jz:FnOk P w K mg base CX0 59 lN lK ["_law_deck_here","_law_deep"] (Qx K 3)) (jy:Binds K lK ["_law_deck_here","_law_deep"] []) (jx:mg "_law_tree"=some (.ref lN))
  {SX:Addr}{R9:FuncData} (aaw:Fun K "knots" "knots" uG SX R9) (aau:FnOk P w K mg base CX0 59 SX R9 ["one","other"] (ZP K)) (aaq:Binds K R9 ["one","other"] []) (aah:mg "knots"=some (.ref SX))
  {Ez:Addr}{En:FuncData} (acf:Fun K "_law_row" "_law_row" kj Ez En) (ab9:FnOk P w K mg base CX0 59 Ez En ["_law_found"] (afR K)) (abX:Binds K En ["_law_found"] []) (abk:mg "_law_row"=some (.ref Ez))
  {ab2:Addr}{abG:FuncData} (Vb:Fun K "run" "run" Dq ab2 abG) (Va:FnOk P w K mg base CX0 59 ab2 abG ["text","tree","budget"] (afQ K)) (U_:Binds K abG ["text","tree","budget"] []) (U5:mg "run"=some (.ref ab2))
  {zq:Addr}{yN:FuncData} (Qd:Fun K "cost" "cost" vM zq yN) (PX:FnOk P w K mg base CX0 59 zq yN ["tally"] (Vz K)) (Py:Binds K yN ["tally"] []) (Ph:mg "cost"=some (.ref zq))
  {NK:Addr}{Nh:FuncData} (Yt:Fun K "turned" "turned" pF NK Nh) (Yn:FnOk P w K mg base CX0 59 NK Nh ["tally"] (Vn K)) (X6:Binds K Nh ["tally"] []) (WQ:mg "turned"=some (.ref NK))
  {Et:Addr}{Ej:FuncData} (Qa:Fun K "tally_of" "tally_of" m_ Et Ej) (PL:FnOk P w K mg base CX0 59 Et Ej ["text","tree","budget"] (Tw K)) (Pu:Binds K Ej ["text","tree","budget"] []) (Pb:mg "tally_of"=some (.ref Et))
  {zx:Addr}{yP:FuncData} (mU:Fun K "_law_parts" "_law_parts" iW zx yP) (ur:FnOk P w K mg base CX0 59 zx yP ["_law_tree_here"] (Di K 20)) (ug:Binds K yP ["_law_tree_here"] []) (tE:mg "_law_parts"=some (.ref zx))
  (F:Fun K "law" "law" vq f fd):FnOk P w K mg base CX0 60 f fd ["_law_script"] (spLaw K):=by
 refine okQ F oA (fun vs H Q E h=>?_) (fun cdv A outer s H vs Q E hr h=>?_)
 ·obtain⟨a,ns,rfl,_⟩:=h
  rfl
 obtain⟨a,ns,rfl,hl,h63,q⟩:=h
 have hE:=hr.un
 have hE:(A.deeper (envOfC "law" (defScope vq) s.heap.objs.size f cdv)).units+401<cLine:=by lia
 refine⟨_,(aB (bU (i:=1) oA.nd rfl (Or.inl rfl) (aD Zt hr rfl Zb Zy.kp Zj .nil pass0 (aj (qv 0) ak)))
   (aB (bU (i:=2) oA.nd rfl (Or.inl rfl) (aY (aj (aD dY hr rfl eZ fu.kp fj .nil pass0 (aj (qv 1) (aj aJ ak))) (aj (aU op_mod (aD dY hr rfl eZ fu.kp fj .nil pass0 (aj (qv 1) (aj aJ ak))) aJ) ak))))
   (aB (bU (i:=3) oA.nd rfl (Or.inl rfl) (aY (aj (aD Je hr rfl Hl Jh.kp Io .nil pass0 (aj (qv 1) (aj (cY dH (qv 2) aJ (fun _ _=>rfl)) ak))) (aj (aD Je hr rfl Hl Jh.kp Io .nil pass0 (aj (qv 1) (aj (cY dH (qv 2) aJ (fun _ _=>rfl)) ak))) ak))))
   (aB (bU (i:=4) oA.nd rfl (Or.inl rfl) (aD jz hr rfl jx gR.kp jy .nil pass0 (aj (qv 1) (aj aJ ak))))
   (aB (bU (i:=5) oA.nd rfl (Or.inl rfl) (aD aau hr rfl aah aaw.kp aaq .nil pass0 (aj (cY dH (qv 3) aJ (fun _ _=>rfl)) (aj (cY dH (qv 3) aJ (fun _ _=>rfl)) ak))))
   (aB (cA (QW.pt (akb (V3 (oG (aD ab9 hr rfl abk acf.kp abX .nil pass0 (aj (qv 5) ak)))) (ahF (bK op_ne (cR call_len_seq rfl gM rm (aj (qv 5) ak)) aJ (nomark _))))) (aF (aQ Jx)) bV)
   (aB (bU (i:=6) oA.nd rfl (Or.inl rfl) (aD dY hr rfl eZ fu.kp fj .nil pass0 (aj (qv 1) (aj aJ ak))))
   (aB (cA (bK Ov (cY dH (qv 2) (qv 6) (fun _ _=>rfl)) aJ (nomark _)) (aF (aQ (Jw op_eq (cY dH (aD Va hr rfl U5 Vb.kp U_ .nil pass0 (aj (cY dH (qv 5) (qv 6) (fun _ _=>rfl)) (aj (qv 4) (aj aJ ak)))) aJ (fun _ _=>rfl)) cW (nomark _)))) bV)
   (aB (bU (i:=7) oA.nd rfl (Or.inl rfl) (aD Va hr rfl U5 Vb.kp U_ .nil pass0 (aj (cY dH (qv 3) (qv 6) (fun _ _=>rfl)) (aj (qv 5) (aj aJ ak)))))
   (aB (cA (bK op_ne (cY dH (qv 7) aJ (fun _ _=>rfl)) cW (nomark _)) (aF (aQ Jx)) bV)
   (aB (bU (i:=8) oA.nd rfl (Or.inl rfl) (aD Va hr rfl U5 Vb.kp U_ .nil pass0 (aj (cY dH (qv 7) aJ (fun _ _=>rfl)) (aj (qv 4) (aj aJ ak)))))
   (aB (cA (bK op_ne (cY dH (qv 8) aJ (fun _ _=>rfl)) cW (nomark _)) (aF (aQ Jx)) bV)
   (aB (bU (i:=9) oA.nd rfl (Or.inl rfl) (aU op_add (aD PX hr rfl Ph Qd.kp Py .nil pass0 (aj (aD Yn hr rfl WQ Yt.kp X6 .nil pass0 (aj (aD PL hr rfl Pb Qa.kp Pu .nil pass0 (aj (cY dH (qv 3) (qv 6) (fun _ _=>rfl)) (aj (qv 5) (aj aJ ak)))) ak)) ak)) (aD PX hr rfl Ph Qd.kp Py .nil pass0 (aj (aD Yn hr rfl WQ Yt.kp X6 .nil pass0 (aj (aD PL hr rfl Pb Qa.kp Pu .nil pass0 (aj (cY dH (qv 7) aJ (fun _ _=>rfl)) (aj (qv 4) (aj aJ ak)))) ak)) ak))))
   (aB (bU (i:=9) oA.nd rfl (Or.inl rfl) (aU op_add (aU op_add (qv 9) aJ) (aU sY aJ (aU op_add (aD ur hr rfl tE mU.kp ug .nil pass0 (aj (cY dH (qv 3) aJ (fun _ _=>rfl)) ak)) (aD ur hr rfl tE mU.kp ug .nil pass0 (aj (cY dH (qv 3) aJ (fun _ _=>rfl)) ak))))))
   (aB (bU (i:=10) oA.nd rfl (Or.inl rfl) (aD Va hr rfl U5 Vb.kp U_ .nil pass0 (aj (cY dH (qv 5) (qv 6) (fun _ _=>rfl)) (aj (qv 4) (aj (qv 9) ak)))))
   (aF (aQ (acT (Jw (ah5 hE) (uH BZ (qv 10) xr (xq aJ)) (uH BZ (qv 8) xr (xq aJ)) (nomark _)) (acS (Jw (Rc hE) (aD aau hr rfl aah aaw.kp aaq .nil pass0 (aj (cY dH (qv 3) aJ (fun _ _=>rfl)) (aj (cY dH (qv 3) aJ (fun _ _=>rfl)) ak))) (qv 5) (nomark _))))))))))))))))))))),?_⟩
 refine jl (fun v=>[some (.ref a),some (v),none,none,none,none,none,none,none,none,none]) (fun _=>rfl) (fun v H'=>∃ p,v=.ref p∧Same H H'∧H p=none∧zK H' p) (fun R r=>⟨_,rfl,a,ns,rfl,hl,h63,fun p H1 S1 hp0 hk=>r _ _ ⟨p,rfl,S1,hp0,hk⟩⟩) (fun v1 H1 h1=>?_)
 obtain⟨p,rfl,_,_,hk⟩:=h1
 refine jl (fun v=>[some (.ref a),some (.ref p),some (v),none,none,none,none,none,none,none,none]) (fun _=>rfl) (fun v H'=>∃ qw w0 w1,v=.ref qw∧Dr p H1 H'∧SqT K H' qw [.int w0,.int w1]∧0≤w0∧w0≤9∧0≤w1∧w1≤9) (fun R r=>⟨_,rfl,p,10,rfl,by decide,hk,fun w0 H2 c0 c1 D2=>⟨_,rfl,p,17,rfl,by decide,D2.dJ,fun w1 H3 d0 d1 D3=>⟨_,_,rfl,rfl,(by show (0:Int)<10; decide),(by show 2≤sizeLine; decide),fun qw gw=>?_⟩⟩⟩) (fun v2 H2 h2=>?_)
 ·have:=Int.emod_nonneg w1 (show (10:Int)≠0 by decide)
  have:=Int.emod_lt_of_pos w1 (show (0:Int)<10 by decide)
  exact r _ _ ⟨qw,w0,w1 % 10,rfl,(D2.trans D3).same (same_new gw _),SqT.of upd_same,c0,by lia,by lia,by lia⟩
 obtain⟨qw,w0,w1,rfl,D2,hqw,c0,c1,d0,d1⟩:=h2
 refine jl (fun v=>[some (.ref a),some (.ref p),some (.ref qw),some (v),none,none,none,none,none,none,none]) (fun _=>rfl) (fun v H'=>∃ am m0 m1 f2 h2,v=.ref am∧Dr p H1 H'∧SqT K H' qw [.int w0,.int w1]∧SqT K H' am [m0,m1]∧TR K H' (.node f2) m0∧TR K H' (.node h2) m1∧B 12 2240 (.node f2)∧B 12 2240 (.node h2)∧Mk4 w0 f2∧Mk4 w1 h2) (fun R r=>⟨_,rfl,_,rfl,qw,_,_,_,rfl,rfl,hqw,rfl,p,w0,rfl,c0,c1,D2.dJ,fun m0 f2 H3 D3 t3 b3 k3=>?_⟩) (fun v3 H3 h3=>?_)
 ·have abp:=cj (D3.kt D2.dJ) hqw
  refine⟨_,rfl,_,rfl,qw,_,_,_,rfl,rfl,abp,rfl,p,w1,rfl,d0,d1,D3.dJ,fun m1 h2 H4 D4 t4 b4 k4=>⟨(by show 2≤sizeLine; decide),fun am gm=>?_⟩⟩
  have Sm:=same_new gm (.tup [m0,m1])
  exact r _ _ ⟨am,m0,m1,f2,h2,rfl,(D2.trans (D3.trans D4)).same Sm,cj (.of Sm) (cj (D4.kt D3.dJ) abp),SqT.of upd_same,(t3.mono (D4.kt D3.dJ)).mono (.of Sm),t4.mono (.of Sm),b3,b4,k3,k4⟩
 obtain⟨am,m0,m1,f2,h2,rfl,D3,abp,ham,tm0,tm1,bf,bh,kf,kh⟩:=h3
 refine jl (fun v=>[some (.ref a),some (.ref p),some (.ref qw),some (.ref am),some (v),none,none,none,none,none,none]) (fun _=>rfl) (fun v H'=>∃ x,Dr p H1 H'∧Kt H3 H'∧TR K H' x v∧B 3 40 x) (fun R r=>⟨_,rfl,p,3,rfl,by decide,D3.dJ,fun y t H4 D4 t4 s4=>r _ _ ⟨t,D3.trans D4,D4.kt D3.dJ,t4,s4.1.b.le (by decide) (by decide)⟩⟩) (fun v4 H4 h4=>?_)
 obtain⟨x,D4,k4,tx4,bxx⟩:=h4
 have aoH:=cj k4 abp
 have abu:=cj k4 ham
 have aes:=tm0.mono k4
 have aer:=tm1.mono k4
 have tmk:∀ {H':Hp},Kt H4 H'→TR K H' (.node [.node f2,.node h2]) (.ref am):=fun {H'} kk=>vC (cj kk abu) (xU (aes.mono kk) (aer.mono kk))
 refine jl (fun v=>[some (.ref a),some (.ref p),some (.ref qw),some (.ref am),some (v4),some (v),none,none,none,none,none]) (fun _=>rfl) (fun v H'=>Same H4 H'∧TR K H' (.node (cC f2 h2)) v) (fun R r=>⟨_,rfl,am,_,_,_,rfl,rfl,abu,rfl,_,rfl,am,_,_,_,rfl,rfl,abu,rfl,m0,m1,f2,h2,rfl,aes,aer,bf.le (by lia) (by lia),bh.le (by lia) (by lia),fun y H5 S5 t5=>r _ _ ⟨S5,t5⟩⟩) (fun v5 H5 h5=>?_)
 obtain⟨S5,t5⟩:=h5
 have bb:=ajN bf bh
 have D5:=D4.same S5
 obtain⟨ap,z0,z1,rfl,hap,tz0,tz1⟩:=ajE t5
 refine⟨_,rfl,.ref ap,_,rfl,t5,by have:=bb.2; lia,fun H6 S6=>⟨_,rfl,iteF ?_⟩⟩
 have aoP:=cj (.of S6) hap
 refine⟨_,rfl,ap,_,rfl,.inr aoP,rfl,_,rfl,Xf (congrArg not (decide_eq_true rfl)) ?_⟩
 dsimp only [tNext]
 have D6:=D5.same S6
 refine jl (fun v=>[some (.ref a),some (.ref p),some (.ref qw),some (.ref am),some (v4),some (.ref ap),some (v),none,none,none,none]) (fun _=>rfl) (fun v H'=>∃ i6:Int,v=.int i6∧0≤i6∧i6<2∧Kt H4 H'∧Kt H5 H') (fun R r=>⟨_,rfl,p,2,rfl,by decide,D6.dJ,fun i6 H7 i60 i61 D7=>r _ _ ⟨i6,rfl,i60,i61,(Kt.of (S5.trans S6)).trans (D7.kt D6.dJ),(Kt.of S6).trans (D7.kt D6.dJ)⟩⟩) (fun v6 H7 h7=>?_)
 obtain⟨i6,rfl,i60,i61,k7,k57⟩:=h7
 have tp7:∀ {H':Hp},Kt H7 H'→SqT K H' ap [z0,z1]:=fun {H'} kk=>cj (k57.trans kk) hap
 obtain⟨g,wg,vm,vp,ew,em,ep,tgm,tgp,bg,kg,cg⟩:∃ (g:List T) (wg:Int) (vm vp:V),atI [V.int w0,V.int w1] i6=some (.int wg)∧atI [m0,m1] i6=some vm∧atI [z0,z1] i6=some vp∧TR K H7 (.node g) vm∧TR K H7 (.node (fZ g f2 h2)) vp∧B 12 2240 (.node g)∧Mk4 wg g∧wg≤9:=by
  rcases (by lia:i6=0∨i6=1) with rfl | rfl
  ·exact⟨f2,w0,m0,z0,rfl,rfl,rfl,aes.mono k7,tz0.mono k57,bf,kf,c1⟩
  ·exact⟨h2,w1,m1,z1,rfl,rfl,rfl,aer.mono k7,tz1.mono k57,bh,kh,d1⟩
 have aoG:=cj k7 aoH
 have aiH:=cj k7 abu
 have tx7:=tx4.mono k7
 have tb7:=t5.mono k57
 have aoO:=tp7 (Kt.refl _)
 have bp:=Yx bg bf bh
 obtain⟨u1,u2⟩:=Il
 have aq6:=Es f2 h2
 have hfp:=bf.2
 have hhp:=bh.2
 have hgp:=bg.2
 have hgd:=bg.1
 have hbd:=bb.1
 have hbp:=bb.2
 have hxd:=bxx.1
 have hxp:=bxx.2
 rw [T.aK] at hfp hhp
 have hbase:(T.node (lB f2 h2)).parts≤30000:=by lia
 have bxL:B 150 60000 x:=bxx.le (by lia) (by lia)
 have bpL:B 150 60000 (.node (fZ g f2 h2)):=bp.le (by lia) (by lia)
 have wg1:Wds 2240 [.node g]:=aiJ hgp
 have dg:mJ 95 ([.node g],[.node (cC f2 h2)]):=⟨by show (T.node [.node g]).deep≤95; rw [T.aP,T.aN,T.bQ]; lia,by show (T.node [.node (cC f2 h2)]).deep≤95; rw [T.aP,T.aN,T.bQ]; lia⟩
 have pg1:T.aq [.node g]≤2240:=by rw [T.aA,T.aR]; lia
 have pg2:T.aq [.node (cC f2 h2)]≤24801:=by rw [T.aA,T.aR]; lia
 have sg:Sane 40 [.node g] [.node (cC f2 h2)]:=Kh (M:=2240) 40 _ _ 95 2240 24801 (by lia) dg (by lia) wg1 pg1 pg2 (by lia)
 have one:(goT 40 [.node g] [.node (cC f2 h2)]).1=[]→∃ N1 s1,(goT 40 [.node g] [.node (cC f2 h2)]).2.1=s1∧stN N1 ([.node g],[.node (cC f2 h2)])=([],s1)∧(∀ i,i≤N1→In 200 3900000 (stN i ([.node g],[.node (cC f2 h2)]))∧iH (stN i ([.node g],[.node (cC f2 h2)])).1 (stN i ([.node g],[.node (cC f2 h2)])).2≤1000000)∧B 134 114600 (ats s1 0):=fun he=>by
  obtain⟨N1,e1,e2,e3⟩:=ZX (M:=2240) (a:=95) (by lia) he wg1 dg
  have hd:T.bR (goT 40 [.node g] [.node (cC f2 h2)]).2.1≤135:=by
   obtain⟨⟨⟨_,d2⟩,_⟩,_⟩:=e3 N1 (Nat.le_refl _)
   rw [e1] at d2
   have d2:(T.node (goT 40 [.node g] [.node (cC f2 h2)]).2.1).deep≤95+40:=d2
   rw [T.aP] at d2
   exact d2
  have q1:=qG _ 0 hd
  have q2:=Dz (goT 40 [.node g] [.node (cC f2 h2)]).2.1 0
  exact⟨N1,_,rfl,e1,fun i hi=>⟨⟨(e3 i hi).1.1.le (by lia),Nat.le_trans (e3 i hi).1.2 (by lia)⟩,Nat.le_trans (e3 i hi).2 (by lia)⟩,⟨by lia,by lia⟩⟩
 refine⟨_,rfl,_,rfl,qw,_,_,_,rfl,rfl,aoG,ew,_,_,rfl,rfl,_,rfl,ite2 (fun hb=>?_) (fun hb=>?_)⟩
 ·
  have hw7:7<wg:=of_decide_eq_true hb
  have ever:(∀ b,Sane b [.node (fZ g f2 h2)] [x])∧∀ b,(goT b [.node (fZ g f2 h2)] [x]).1≠[]:=by
   rcases (by lia:wg=8∨wg=9) with w8 | w9
   ·obtain⟨ws,eg,hw,hlw⟩:=kg.1 w8
    subst eg
    have ev:=T3 (s:=[.node (cC f2 h2)]) (fun w hw'=>⟨(hw w hw').1,(hw w hw').2⟩) hlw (by rw [T.aN,T.bQ]; lia) (by rw [T.aA,T.aR]; lia)
    exact⟨Lj bpL hbase bxL (Uj bxL ev),ac2 ev⟩
   ·obtain⟨ws,eg,hw,hlw⟩:=kg.2 w9
    subst eg
    have wl:Wlk ([.node [bC 0 (cO ws)]],[.node (cC f2 h2)]) 2 2 ([],[.node (cO ws),.node (cC f2 h2)]):=C_ (dO .nil)
    obtain⟨r1,r2,_⟩:=ahm wl rfl 40 (by decide)
    have r1:(goT 40 [.node [bC 0 (cO ws)]] [.node (cC f2 h2)]).1=[]:=r1
    have r2:(goT 40 [.node [bC 0 (cO ws)]] [.node (cC f2 h2)]).2.1=[.node (cO ws),.node (cC f2 h2)]:=r2
    obtain⟨N1,s1,es,e1,e3,b1⟩:=one r1
    have et:ats s1 0=.node (cO ws):=by rw [← es,r2]; rfl
    have w1:=Xj r1 (aV cZ)
    rw [es] at w1
    have ev:vg 200 1500000 1500010 ([ats s1 0],[x]):=by
     rw [et]
     exact T3 (s:=[x]) (fun w hw'=>⟨(hw w hw').1,(hw w hw').2⟩) hlw (by rw [T.aN,T.bQ]; lia) (by rw [T.aA,T.aR]; lia)
    exact⟨Lj bpL hbase bxL (Wb bxL e1 e3 (Wa (b1.le (by lia) (by lia)) bxL (Ui ev))),ac1 w1 ev⟩
  refine⟨_,rfl,_,rfl,ap,_,_,_,rfl,rfl,aoO,ep,_,rfl,vp,v4,.node (fZ g f2 h2),x,11500,rfl,tgp,tx7,ever.1 _,fun q8 y8 H8 S8 hp8 _=>?_⟩
  rw [show sO 11500 [.node (fZ g f2 h2)] [x]=Wd from if_neg (ever.2 _)] at hp8
  refine⟨q8,_,_,_,rfl,rfl,hp8,rfl,rfl,?_⟩
  rw [show decide (V.str Wd=V.str (PySem.Str.ofString "out"))=true from decide_eq_true rfl]
  exact q _
 dsimp only [tNext]
 refine jl (fun v=>[some (.ref a),some (.ref p),some (.ref qw),some (.ref am),some (v4),some (.ref ap),some (.int i6),some (v),none,none,none]) (fun _=>rfl) (fun v H'=>∃ q7 v',v=.ref q7∧Same H7 H'∧SqT K H' q7 [.str (sO 40 [.node g] [.node (cC f2 h2)]),v',nv (spT 40 [.node g] [.node (cC f2 h2)])]∧TR K H' (zN 40 [.node g] [.node (cC f2 h2)]) v') (fun R r=>⟨_,rfl,_,rfl,am,_,_,_,rfl,rfl,aiH,em,_,rfl,vm,.ref ap,.node g,.node (cC f2 h2),40,rfl,tgm,tb7,sg,fun q7 v' H8 S8 hp tv=>r _ _ ⟨q7,v',rfl,S8,hp,tv⟩⟩) (fun v7 H8 h8=>?_)
 obtain⟨q7,v',rfl,S8,hp8,tv8⟩:=h8
 by_cases he1:(goT 40 [.node g] [.node (cC f2 h2)]).1=[]
 rotate_left
 ·rw [show sO 40 [.node g] [.node (cC f2 h2)]=Wd from if_neg he1] at hp8
  exact⟨_,rfl,q7,_,_,_,rfl,rfl,hp8,rfl,rfl,_,rfl,abm (by decide) (q _)⟩
 obtain⟨N1,s1,es1,e1,e3,bt⟩:=one he1
 rw [show sO 40 [.node g] [.node (cC f2 h2)]=wO from if_pos he1] at hp8
 rw [show zN 40 [.node g] [.node (cC f2 h2)]=ats (goT 40 [.node g] [.node (cC f2 h2)]).2.1 0 from if_pos he1,es1] at tv8
 refine⟨_,rfl,q7,_,_,_,rfl,rfl,hp8,rfl,rfl,_,rfl,Xf (congrArg not (decide_eq_true rfl)) ?_⟩
 have l1:=yG 40 [.node g] [.node (cC f2 h2)]
 have w1:=Xj he1 (aV cZ)
 rw [es1] at w1
 generalize hn1:(goT 40 [.node g] [.node (cC f2 h2)]).2.2=n1 at *
 have wt1:Wds 114600 [ats s1 0]:=ako bt.2
 have htd:=bt.1
 have htp:=bt.2
 have dt:mJ 136 ([ats s1 0],[x]):=⟨by show (T.node [ats s1 0]).deep≤136; rw [T.aP,T.aN,T.bQ]; lia,by show (T.node [x]).deep≤136; rw [T.aP,T.aN,T.bQ]; lia⟩
 have pt1:T.aq [ats s1 0]≤114600:=by rw [T.aA,T.aR]; lia
 have pt2:T.aq [x]≤40:=by rw [T.aA,T.aR]; lia
 have st2:Sane 30 [ats s1 0] [x]:=Kh (M:=114600) 30 _ _ 136 114600 40 (by lia) dt (by lia) wt1 pt1 pt2 (by lia)
 have tx8:=tx7.mono (K:=K) (.of S8)
 dsimp only [tNext]
 refine jl (fun v=>[some (.ref a),some (.ref p),some (.ref qw),some (.ref am),some (v4),some (.ref ap),some (.int i6),some (.ref q7),some (v),none,none]) (fun _=>rfl) (fun v H'=>∃ q8 y8,v=.ref q8∧Same H8 H'∧SqT K H' q8 [.str (sO 30 [ats s1 0] [x]),y8,nv (spT 30 [ats s1 0] [x])]∧TR K H' (zN 30 [ats s1 0] [x]) y8) (fun R r=>⟨_,rfl,q7,_,_,_,rfl,rfl,hp8,rfl,_,rfl,v',v4,ats s1 0,x,30,rfl,tv8,tx8,st2,fun q8 y8 H9 S9 hp tv=>r _ _ ⟨q8,y8,rfl,S9,hp,tv⟩⟩) (fun v8 H9 h9=>?_)
 obtain⟨q8,y8,rfl,S9,hp9,tv9⟩:=h9
 by_cases he2:(goT 30 [ats s1 0] [x]).1=[]
 rotate_left
 ·rw [show sO 30 [ats s1 0] [x]=Wd from if_neg he2] at hp9
  exact⟨_,rfl,q8,_,_,_,rfl,rfl,hp9,rfl,rfl,_,rfl,abm (by decide) (q _)⟩
 obtain⟨N2,e2,ps2,i2⟩:=ZX (M:=114600) (a:=136) (by lia) he2 wt1 dt
 have l2:=yG 30 [ats s1 0] [x]
 have w2:=Xj he2 (aV cZ)
 rw [show sO 30 [ats s1 0] [x]=wO from if_pos he2] at hp9
 rw [show zN 30 [ats s1 0] [x]=ats (goT 30 [ats s1 0] [x]).2.1 0 from if_pos he2] at tv9
 generalize hs2:(goT 30 [ats s1 0] [x]).2.1=s2 at *
 generalize hn2:(goT 30 [ats s1 0] [x]).2.2=n2 at *
 refine⟨_,rfl,q8,_,_,_,rfl,rfl,hp9,rfl,rfl,_,rfl,Xf (congrArg not (decide_eq_true rfl)) ?_⟩
 have d2:T.bR s2≤166:=by
  obtain⟨⟨⟨_,d2⟩,_⟩,_⟩:=i2 N2 (Nat.le_refl _)
  rw [e2] at d2
  have d2:(T.node s2).deep≤136+30:=d2
  rw [T.aP] at d2
  exact d2
 have b2d:=qG s2 0 d2
 have b2p:=Dz s2 0
 have ajS:=Lj bpL hbase bxL (Wb bxL e1 e3 (Wa (bt.le (by lia) (by lia)) bxL (V_ e2 (fun i hi=>⟨⟨(i2 i hi).1.1.le (by lia),Nat.le_trans (i2 i hi).1.2 (by lia)⟩,Nat.le_trans (i2 i hi).2 (by lia)⟩) (show B 199 3900000 (ats s2 0) from ⟨by lia,by lia⟩))))
 obtain⟨cc,hcc,gw⟩:=ac0 w1 w2
 have S79:=S8.trans S9
 have k9:=Kt.of S79
 have aoN:=tp7 k9
 have aoQ:=cj k9 aiH
 have aky:=tgm.mono k9
 have akx:=tgp.mono k9
 have tb9:=tb7.mono k9
 have tx9:=tx7.mono k9
 have aoJ:=cj (.of S9) hp8
 have akt:=tv8.mono (K:=K) (.of S9)
 have aho:=tmk (k7.trans k9)
 have bfd:=bf.1
 have bhd:=bh.1
 dsimp only [tNext]
 refine jl (fun v=>[some (.ref a),some (.ref p),some (.ref qw),some (.ref am),some (v4),some (.ref ap),some (.int i6),some (.ref q7),some (.ref q8),some (v),none]) (fun _=>rfl) (fun v H'=>Same H9 H'∧v=.int ((bY (aV cZ) 0 n1+13+(bY (aV cZ) 0 n2+13):Nat):Int)) (fun R r=>⟨_,rfl,_,rfl,am,_,_,_,rfl,rfl,aoQ,em,_,rfl,vm,.ref ap,.node g,.node (cC f2 h2),40,rfl,aky,tb9,sg,fun c1 H10 S10 hc1=>?_⟩) (fun v9 H12 h12=>?_)
 ·rw [hn1] at hc1
  refine⟨c1,n1,rfl,hc1,l1,fun p11 H11 S11 h11=>⟨p11,_,rfl,h11,Ku n1,fun H12 S12=>?_⟩⟩
  have ab3:=S10.trans (S11.trans S12)
  refine⟨_,rfl,q7,_,_,_,rfl,rfl,cj (.of ab3) aoJ,rfl,_,rfl,v',v4,ats s1 0,x,30,rfl,akt.mono (.of ab3),tx9.mono (.of ab3),st2,fun c2 H13 S13 hc2=>?_⟩
  rw [hn2] at hc2
  refine⟨c2,n2,rfl,hc2,l2,fun p14 H14 S14 h14=>⟨p14,_,rfl,h14,Ku n2,fun H15 S15=>⟨_,_,rfl,rfl,r _ _ ⟨ab3.trans (S13.trans (S14.trans S15)),?_⟩⟩⟩⟩
  show V.int (nO (turnT n1)+nO (turnT n2))=_
  rw [Vg l1,Vg l2,← Int.natCast_add]
 obtain⟨S12,rfl⟩:=h12
 have afJ:=aho.mono (K:=K) (.of S12)
 refine jl (fun v=>[some (.ref a),some (.ref p),some (.ref qw),some (.ref am),some (v4),some (.ref ap),some (.int i6),some (.ref q7),some (.ref q8),some (v),none]) (fun _=>rfl) (fun v H'=>Same H12 H'∧v=.int ((bY (aV cZ) 0 n1+13+(bY (aV cZ) 0 n2+13)+20000+10 * ((T.node f2).parts+(T.node h2).parts):Nat):Int)) (fun R r=>⟨_,rfl,_,_,rfl,rfl,_,rfl,WK afJ 0 rfl (fun vf tf=>⟨vf,.node f2,rfl,tf,by lia,by have:=bf.2; lia,fun H13 S13=>⟨_,rfl,WK (afJ.mono (.of S13)) 1 rfl (fun vh th=>⟨vh,.node h2,rfl,th,by lia,by have:=bh.2; lia,fun H14 S14=>⟨_,_,rfl,rfl,_,_,rfl,rfl,.inl ⟨by decide,by decide⟩,_,_,rfl,rfl,r _ _ ⟨S13.trans S14,congrArg V.int (by lia)⟩⟩⟩)⟩⟩)⟩) (fun v10 H14 h14=>?_)
 obtain⟨S14,rfl⟩:=h14
 have ajH:=S12.trans S14
 have k14:=Kt.of ajH
 generalize hmo:bY (aV cZ) 0 n1+13+(bY (aV cZ) 0 n2+13)+20000+10 * ((T.node f2).parts+(T.node h2).parts)=mo at *
 have aoL:cc≤mo:=by
  have e5:=T.aK f2
  have e6:=T.aK h2
  lia
 obtain⟨hend,_⟩:=af6 gw rfl mo aoL
 have hend:(goT mo [.node (fZ g f2 h2)] [x]).1=[]:=hend
 have htl:=(aeh gw rfl mo hend).2
 have htl:(goT mo [.node (fZ g f2 h2)] [x]).2.1=[ats s2 0]:=htl
 refine jl (fun v=>[some (.ref a),some (.ref p),some (.ref qw),some (.ref am),some (v4),some (.ref ap),some (.int i6),some (.ref q7),some (.ref q8),some (.int ((mo:Nat):Int)),some (v)]) (fun _=>rfl) (fun v H'=>∃ q10 y10 n10,v=.ref q10∧Same H14 H'∧SqT K H' q10 [.str wO,y10,n10]∧TR K H' (ats s2 0) y10) (fun R r=>⟨_,rfl,_,rfl,ap,_,_,_,rfl,rfl,cj k14 aoN,ep,_,rfl,_,rfl,vp,v4,.node (fZ g f2 h2),x,mo,rfl,akx.mono k14,tx9.mono k14,ajS _,fun q10 y10 H15 S15 hp tv=>r _ _ ⟨q10,y10,nv (spT mo [.node (fZ g f2 h2)] [x]),rfl,S15,?_,?_⟩⟩) (fun v11 H15 h15=>?_)
 ·rw [show sO mo [.node (fZ g f2 h2)] [x]=wO from if_pos hend] at hp
  exact hp
 ·rw [show zN mo [.node (fZ g f2 h2)] [x]=ats (goT mo [.node (fZ g f2 h2)] [x]).2.1 0 from if_pos hend,htl] at tv
  exact tv
 obtain⟨q10,y10,n10,rfl,S15,aoK,akq⟩:=h15
 have afE:=ajH.trans S15
 refine⟨_,rfl,2,rfl,q10,_,rfl,aoK,fun a16 H16 S16 h16=>⟨_,rfl,2,rfl,q8,_,rfl,cj (.of (afE.trans S16)) hp9,fun a17 H17 S17 h17=>?_⟩⟩
 have h16:SqT K H16 a16 [.str wO,y10]:=h16
 have h17:SqT K H17 a17 [.str wO,y8]:=h17
 have dA:DR K H17 (.t [.s wO,ofT (ats s2 0)]) (.ref a16):=DR2 (cj (.of S17) h16) (zL.mpr rfl) (akq.mono (.of (S16.trans S17))).dr
 have dB:DR K H17 (.t [.s wO,ofT (ats s2 0)]) (.ref a17):=DR2 h17 (zL.mpr rfl) (tv9.mono (.of (afE.trans (S16.trans S17)))).dr
 refine⟨_,_,dA,dB,?_,_,rfl,?_⟩
 ·rw [Dt.deep,Dt.bR,Dt.bR,Dt.bR,Ws,Dt.deep]
  lia
 rw [Dt.yX]
 refine iteT ?_
 have k17:=Kt.of (afE.trans (S16.trans S17))
 have afI:=aho.mono k17
 refine⟨_,rfl,WK afI 0 rfl (fun vf tf=>⟨_,rfl,WK afI 1 rfl (fun vh th=>⟨vf,vh,f2,h2,rfl,tf,th,bf.le (by lia) (by lia),bh.le (by lia) (by lia),fun y18 H18 S18 t18=>⟨_,rfl,_,_,t18,tb9.mono (k17.trans (.of S18)),by lia,?_⟩⟩)⟩)⟩
 rw [T.yX]
 exact q _
end
end fH
namespace fH
open PySem PySem.Spec PyProof.Rows L2 Sw
abbrev gG:Stmt:=inClass (top 69) 0
abbrev iM:Stmt:=inClass (top 70) 0
abbrev jc:Stmt:=inClass (top 81) 0
abbrev iy:Stmt:=inClass (top 81) 1
abbrev jd:Stmt:=inClass (top 82) 0
abbrev jA:Stmt:=inClass (top 82) 1
abbrev iQ:Stmt:=inClass (top 83) 0
abbrev gZ:Stmt:=inClass (top 84) 0
abbrev jW:Stmt:=inClass (top 84) 1
abbrev qx:Stmt:=inClass (top 84) 2
abbrev lX:Stmt:=inClass (top 84) 3
abbrev oR:Stmt:=inClass (top 84) 5
abbrev oU:Stmt:=inClass (top 84) 6
theorem Fq:FnScope ["self","item","behind"] ["self","item","behind"] (defScope gG):=⟨rfl,rfl,rfl,by decide +kernel,rfl,by decide +kernel,by decide +kernel⟩
theorem JV:FnScope ["self","tree","place"] ["self","tree","place"] (defScope iM):=⟨rfl,rfl,rfl,by decide +kernel,rfl,by decide +kernel,by decide +kernel⟩
theorem K3:FnScope ["self","tree"] ["self","tree"] (defScope jc):=⟨rfl,rfl,rfl,by decide +kernel,rfl,by decide +kernel,by decide +kernel⟩
theorem Gy:FnScope ["self"] ["self"] (defScope iy):=⟨rfl,rfl,rfl,by decide +kernel,rfl,by decide +kernel,by decide +kernel⟩
theorem K5:FnScope ["self","tree"] ["self","tree"] (defScope jd):=⟨rfl,rfl,rfl,by decide +kernel,rfl,by decide +kernel,by decide +kernel⟩
theorem Om:FnScope ["self","place"] ["self","place"] (defScope jA):=⟨rfl,rfl,rfl,by decide +kernel,rfl,by decide +kernel,by decide +kernel⟩
theorem JW:FnScope ["self","text"] ["self","text"] (defScope iQ):=⟨rfl,rfl,rfl,by decide +kernel,rfl,by decide +kernel,by decide +kernel⟩
theorem K4:FnScope ["self","stand","budget"] ["self","stand","budget"] (defScope gZ):=⟨rfl,rfl,rfl,by decide +kernel,rfl,by decide +kernel,by decide +kernel⟩
theorem QL:FnScope ["self"] ["self"] (defScope jW):=⟨rfl,rfl,rfl,by decide +kernel,rfl,by decide +kernel,by decide +kernel⟩
theorem YL:FnScope ["self"] ["self"] (defScope qx):=⟨rfl,rfl,rfl,by decide +kernel,rfl,by decide +kernel,by decide +kernel⟩
theorem Ue:FnScope ["self"] ["self"] (defScope lX):=⟨rfl,rfl,rfl,by decide +kernel,rfl,by decide +kernel,by decide +kernel⟩
theorem pC:FnScope ["self","going","word","step","taken"] ["self"] (defScope oR):=⟨rfl,rfl,rfl,by decide +kernel,rfl,by decide +kernel,by decide +kernel⟩
theorem VR:FnScope ["self","step","going","word"] ["self","step","going","word"] (defScope oU):=⟨rfl,rfl,rfl,by decide +kernel,rfl,by decide +kernel,by decide +kernel⟩
end fH
namespace fH
open PySem PySem.Spec PyProof.Rows L2 Sw
section
variable {P:Program}{w:World}{K:PySem.W.Frag}{mg:Str→Option Value}{base:Heap}{f:Addr}{fd:FuncData}{ao au aG aM aO aL:Addr}
theorem Fv (O:Own K ao au aG aM aO aL)
  (F:Fun K "__init__" "Fronted.__init__" gG f fd):FnOk P w K mg base CX0 31 f fd ["self","item","behind"] (Vy ao):=by
 refine okQ F Fq (fun vs H Q E h=>?_) (fun cdv A outer s H vs Q E hr h=>?_)
 ·obtain⟨o,dx,y,z,rfl,_⟩:=h
  rfl
 obtain⟨o,dx,y,z,rfl,ho,q⟩:=h
 refine⟨_,(aB (fJ (qv 0) (qv 1) rfl)
   (aF (fJ (qv 0) (qv 2) rfl))),?_⟩
 refine⟨_,rfl,_,rfl,o,ao,dx,_,rfl,ho,O.rF.cl,O.fi,by show 0<1000; decide,?_⟩
 refine⟨_,rfl,_,rfl,o,ao,dx,_,rfl,upd_same,O.rF.cl,O.fb,by show 1<1000; decide,?_⟩
 have e:upd (upd H o (.ins ao dx (putF "item" y []))) o (.ins ao dx (putF "behind" z (putF "item" y [])))=upd H o (.ins ao dx (fF y z)):=by
  rw [lD,Oq (by decide +kernel)]
  rfl
 exact e ▸ q
theorem J0 (O:Own K ao au aG aM aO aL)
  (F:Fun K "__init__" "Later.__init__" iM f fd):FnOk P w K mg base CX0 31 f fd ["self","tree","place"] (Vv au):=by
 refine okQ F JV (fun vs H Q E h=>?_) (fun cdv A outer s H vs Q E hr h=>?_)
 ·obtain⟨o,dx,v,p,rfl,_⟩:=h
  rfl
 obtain⟨o,dx,v,p,rfl,ho,q⟩:=h
 refine⟨_,(aB (fJ (qv 0) (qv 1) rfl)
   (aF (fJ (qv 0) (qv 2) rfl))),?_⟩
 refine⟨_,rfl,_,rfl,o,au,dx,_,rfl,ho,O.rL.cl,O.lt,by show 0<1000; decide,?_⟩
 refine⟨_,rfl,_,rfl,o,au,dx,_,rfl,upd_same,O.rL.cl,O.lp,by show 1<1000; decide,?_⟩
 have e:upd (upd H o (.ins au dx (putF "tree" v []))) o (.ins au dx (putF "place" (.int (p:Int)) (putF "tree" v [])))=upd H o (.ins au dx (fL v p)):=by
  rw [lD,Oq (by decide +kernel)]
  rfl
 exact e ▸ q
theorem J1 (O:Own K ao au aG aM aO aL)
  (F:Fun K "__init__" "Going.__init__" iQ f fd):FnOk P w K mg base CX0 31 f fd ["self","text"] (KN aO):=by
 refine okQ F JW (fun vs H Q E h=>?_) (fun cdv A outer s H vs Q E hr h=>?_)
 ·obtain⟨o,dx,a,rfl,_⟩:=h
  rfl
 obtain⟨o,dx,a,rfl,ho,q⟩:=h
 refine⟨_,(aB (fJ (qv 0) (qv 1) rfl)
   (aF (fJ (qv 0) aJ rfl))),?_⟩
 refine⟨_,rfl,_,rfl,o,aO,dx,_,rfl,ho,O.Ik,O.gt,by show 0<1000; decide,?_⟩
 refine⟨_,rfl,o,aO,dx,_,rfl,upd_same,O.Ik,O.gp,by show 1<1000; decide,?_⟩
 have e:upd (upd H o (.ins aO dx (putF "text" (.ref a) []))) o (.ins aO dx (putF "place" (.int 0) (putF "text" (.ref a) [])))=upd H o (.ins aO dx (fG a 0)):=by
  rw [lD,Oq (by decide +kernel)]
  rfl
 exact e ▸ q
theorem Lr (O:Own K ao au aG aM aO aL)
  (F:Fun K "__init__" "Text.__init__" jd f fd):FnOk P w K mg base CX0 31 f fd ["self","tree"] (KJ aM):=by
 refine okQ F K5 (fun vs H Q E h=>?_) (fun cdv A outer s H vs Q E hr h=>?_)
 ·obtain⟨o,dx,v,rfl,_⟩:=h
  rfl
 obtain⟨o,dx,v,rfl,ho,q⟩:=h
 refine⟨_,(aB (fJ (qv 0) (qv 1) rfl)
   (aF (fJ (qv 0) (qT ak) rfl))),?_⟩
 refine⟨_,rfl,_,rfl,o,aM,dx,_,rfl,ho,O.cText,O.tt,by show 0<1000; decide,?_⟩
 refine⟨Nat.zero_le _,fun W g=>⟨_,rfl,o,aM,dx,putF "tree" v [],rfl,?_,O.cText,O.tw,by show 1<1000; decide,?_⟩⟩
 ·have nW:o≠W:=ne_of_none (h:=upd_same) g
  rw [upd_ne nW,upd_same]
 ·have nW:o≠W:=ne_of_none (h:=upd_same) g
  have hW:H W=none:=by rw [upd_ne (Ne.symm nW)] at g; exact g
  have e:upd (upd (upd H o (.ins aM dx (putF "tree" v []))) W (.lst [])) o (.ins aM dx (putF "words" (.ref W) (putF "tree" v [])))=upd (upd H W (.lst [])) o (.ins aM dx (fT v W)):=by
   rw [akp nW (H:=H),lD,Oq (by decide +kernel)]
   rfl
  exact e ▸ q W hW
theorem YZ (O:Own K ao au aG aM aO aL) (cu:mg "isinstance"=none)
  {mQ:Addr}{mL:FuncData} (CJ:Fun K "first" "first" oN mQ mL) (Cy:FnOk P w K mg base CX0 31 mQ mL ["tree"] (Jr K)) (Cu:Binds K mL ["tree"] []) (Cj:mg "first"=some (.ref mQ))
  (eU:mg "Fronted"=some (.ref ao))
  (jZ:mg "Later"=some (.ref au))
  (F:Fun K "first_of" "first_of" ni f fd):FnOk P w K mg base CX0 32 f fd ["row"] (Tz K ao au aG aM):=by
 refine okQ F YG (fun vs H Q E h=>?_) (fun cdv A outer s H vs Q E hr h=>?_)
 ·obtain⟨x,t,M,H₀,rfl,_⟩:=h
  rfl
 obtain⟨x,t,M,H₀,rfl,g,hx,hd,q⟩:=h
 refine⟨_,(aB (cA (oG (cR jP rfl cu gj (aj (qv 0) (aj (bB (v:=.ref ao) rfl eU rfl) ak)))) (aF (aQ (bW (qv 0) rfl))) bV)
   (aB (cA (oG (cR jP rfl cu gj (aj (qv 0) (aj (bB (v:=.ref au) rfl jZ rfl) ak)))) (aF (aQ (cY dH (bW (qv 0) rfl) (bW (qv 0) rfl) (fun _ _=>rfl)))) bV)
   (aF (aQ (aD Cy hr rfl Cj CJ.kp Cu .nil pass0 (aj (qv 0) ak)))))),?_⟩
 rcases hx.cases g with hu | ⟨a,dx,y,z,u,ts,rfl,ha,rfl,hy,hz⟩
 ·rcases hu with ht | ⟨a,dx,v,ts,p,rfl,ha,hv,hp,hl,rfl⟩
  ·obtain⟨b,ys,rfl,hb,_⟩:=u_ ht
   refine⟨_,rfl,_,ao,false,rfl,.inr ⟨b,ys,rfl,hb,O.iTF⟩,_,rfl,iteF ?_⟩
   refine⟨_,rfl,_,au,false,rfl,.inr ⟨b,ys,rfl,hb,O.iTL⟩,_,rfl,iteF ?_⟩
   exact⟨_,rfl,_,t,rfl,ht,hd,fun y H' S h=>q y H' S (.inl h)⟩
  ·refine⟨_,rfl,_,ao,false,rfl,.inl ⟨_,O.rL.ty ha,O.iLF⟩,_,rfl,iteF ?_⟩
   refine⟨_,rfl,_,au,true,rfl,.inl ⟨_,O.rL.ty ha,O.iLL⟩,_,rfl,iteT ?_⟩
   obtain⟨b,ys,rfl,hb,hys⟩:=cN.mp hv
   obtain⟨w',ew⟩:∃ w',ts[p]?=some w':=⟨_,List.getElem?_eq_getElem hp⟩
   obtain⟨x',ex,tx'⟩:=hys.at ew
   refine⟨_,rfl,a,au,dx,_,_,rfl,ha,O.rL.cl,O.lt,fC _ _ _,_,rfl,a,au,dx,_,_,rfl,ha,O.rL.cl,O.lp,(cJ (by decide +kernel) _ _).trans (fC _ _ _),b,ys,p,x',rfl,rfl,hb,atI_nat ex,q _ _ (Same.refl _) (.inl ?_)⟩
   have:ats (T.node (ts.drop p)).kids 0=w':=by
    show ((ts.drop p)[0]?).getD leaf=w'
    rw [List.getElem?_drop,Nat.add_zero,ew]
    rfl
   rw [this]
   exact tx'
 ·refine⟨_,rfl,_,ao,true,rfl,.inl ⟨_,O.rF.ty ha,O.iFF⟩,_,rfl,iteT ?_⟩
  exact⟨_,rfl,a,ao,dx,_,_,rfl,ha,O.rF.cl,O.fi,fC _ _ _,q _ _ (Same.refl _) hy⟩
theorem ae0 (O:Own K ao au aG aM aO aL) (gM:mg "len"=none)
  (jZ:mg "Later"=some (.ref au))
  {iR:Addr}{yR:FuncData} (N6:Mk K au iR) (N8:FnOk P w K mg base CX0 31 iR yR ["self","tree","place"] (Vv au)) (rY:Binds K yR ["self","tree","place"] [])
  (F:Fun K "later" "later" uF f fd):FnOk P w K mg base CX0 33 f fd ["tree","place"] (ZM K ao au aG aM):=by
 refine okQ F aeE (fun vs H Q E h=>?_) (fun cdv A outer s H vs Q E hr h=>?_)
 ·obtain⟨x,ts,p,M,H₀,rfl,_⟩:=h
  rfl
 obtain⟨x,ts,p,M,H₀,rfl,g,ht,hl,q⟩:=h
 refine⟨_,(aF (aQ (rG (bK DG (qv 1) (cR call_len_seq rfl gM rm (aj (qv 0) ak)) (nomark _)) (jX N6 N8 hr rfl jZ rY .nil pass0 (aj (qv 0) (aj (qv 1) ak))) (aY ak)))),?_⟩
 obtain⟨b,ys,rfl,hb,hys⟩:=cN.mp ht
 have hyl:=hys.length
 refine⟨_,rfl,_,rfl,b,ys,rfl,.inr hb,_,_,rfl,rfl,_,rfl,ite2 (fun h=>?_) (fun h=>?_)⟩
 ·have hp:p<ts.length:=by have:=of_decide_eq_true h; lia
  refine⟨_,rfl,_,rfl,fun o dx ho hd ne=>⟨o,dx,_,p,rfl,je,?_⟩⟩
  have S:=jB (C:=au) (fs:=fL (.ref b) p) ho hd ne
  have e:upd (mkO H o dx au []) o (.ins au dx (fL (.ref b) p))=mkO H o dx au (fL (.ref b) p):=adi
  have fin:Q (.ref o) (mkO H o dx au (fL (.ref b) p)):=q _ (setM M o (.row (.node (ts.drop p)))) _ S (.role g S ho ⟨_,je⟩ (.inr ⟨dx,_,ts,p,je,ht.mono (.of S),hp,hl,rfl⟩)) (.inr ⟨o,rfl,eN⟩)
  exact⟨rfl,e ▸ fin⟩
 ·have hp:ts.length≤p:=by
   have:¬ ((p:Int)<(ys.length:Int)):=fun z=>h (decide_eq_true z)
   lia
  refine⟨Nat.zero_le _,fun p1 g1=>?_⟩
  obtain⟨S1,t1⟩:=cF (K:=K) (ts:=[]) g1 (bO.mpr rfl)
  refine q _ M _ S1 (.grow g S1) (.inl ?_)
  rw [List.drop_eq_nil_of_le hp]
  exact t1
theorem aa1 (O:Own K ao au aG aM aO aL) (cu:mg "isinstance"=none)
  {SQ:Addr}{R8:FuncData} (aav:Fun K "later" "later" uF SQ R8) (aat:FnOk P w K mg base CX0 33 SQ R8 ["tree","place"] (ZM K ao au aG aM)) (aap:Binds K R8 ["tree","place"] []) (aag:mg "later"=some (.ref SQ))
  (eU:mg "Fronted"=some (.ref ao))
  (jZ:mg "Later"=some (.ref au))
  (F:Fun K "rest_of" "rest_of" pI f fd):FnOk P w K mg base CX0 34 f fd ["row"] (Vo K ao au aG aM):=by
 refine okQ F aaO (fun vs H Q E h=>?_) (fun cdv A outer s H vs Q E hr h=>?_)
 ·obtain⟨x,t,M,H₀,rfl,_⟩:=h
  rfl
 obtain⟨x,t,M,H₀,rfl,g,hx,hd,hk,q⟩:=h
 refine⟨_,(aB (cA (oG (cR jP rfl cu gj (aj (qv 0) (aj (bB (v:=.ref ao) rfl eU rfl) ak)))) (aF (aQ (bW (qv 0) rfl))) bV)
   (aB (cA (oG (cR jP rfl cu gj (aj (qv 0) (aj (bB (v:=.ref au) rfl jZ rfl) ak)))) (aF (aQ (aD aat hr rfl aag aav.kp aap .nil pass0 (aj (bW (qv 0) rfl) (aj (aU op_add (bW (qv 0) rfl) aJ) ak))))) bV)
   (aF (aQ (aD aat hr rfl aag aav.kp aap .nil pass0 (aj (qv 0) (aj aJ ak))))))),?_⟩
 rcases hx.cases g with hu | ⟨a,dx,y,z,u,ts,rfl,ha,rfl,hy,hz⟩
 ·rcases hu with ht | ⟨a,dx,v,ts,p,rfl,ha,hv,hp,hl,rfl⟩
  ·obtain⟨b,ys,rfl,hb,_⟩:=u_ ht
   refine⟨_,rfl,_,ao,false,rfl,.inr ⟨b,ys,rfl,hb,O.iTF⟩,_,rfl,iteF ?_⟩
   refine⟨_,rfl,_,au,false,rfl,.inr ⟨b,ys,rfl,hb,O.iTL⟩,_,rfl,iteF ?_⟩
   exact⟨_,rfl,_,t.kids,1,M,H₀,rfl,g,xM ht,hk,fun y M' H' S G h=>q y M' H' S G h⟩
  ·refine⟨_,rfl,_,ao,false,rfl,.inl ⟨_,O.rL.ty ha,O.iLF⟩,_,rfl,iteF ?_⟩
   refine⟨_,rfl,_,au,true,rfl,.inl ⟨_,O.rL.ty ha,O.iLL⟩,_,rfl,iteT ?_⟩
   refine⟨_,rfl,a,au,dx,_,_,rfl,ha,O.rL.cl,O.lt,fC _ _ _,_,rfl,a,au,dx,_,_,rfl,ha,O.rL.cl,O.lp,(cJ (by decide +kernel) _ _).trans (fC _ _ _),_,_,rfl,rfl,v,ts,p+1,M,H₀,rfl,g,hv,hl,fun y M' H' S G h=>q y M' H' S G ?_⟩
   have:bL (T.node (ts.drop p))=.node (ts.drop (p+1)):=by
    show T.node ((ts.drop p).drop 1)=_
    rw [List.drop_drop]
   rw [this]
   exact h
 ·refine⟨_,rfl,_,ao,true,rfl,.inl ⟨_,O.rF.ty ha,O.iFF⟩,_,rfl,iteT ?_⟩
  exact⟨_,rfl,a,ao,dx,_,_,rfl,ha,O.rF.cl,O.fb,(cJ (by decide +kernel) _ _).trans (fC _ _ _),q _ M _ (Same.refl _) (.refl g) hz⟩
theorem Wh (O:Own K ao au aG aM aO aL) (cu:mg "isinstance"=none)
  (jZ:mg "Later"=some (.ref au))
  (F:Fun K "unfronted" "unfronted" jr f fd):FnOk P w K mg base CX0 31 f fd ["row"] (Vm K au):=by
 refine okQ F VJ (fun vs H Q E h=>?_) (fun cdv A outer s H vs Q E hr h=>?_)
 ·obtain⟨x,t,rfl,_⟩:=h
  rfl
 obtain⟨x,t,rfl,hu,q⟩:=h
 refine⟨_,(aB (cA (oG (cR jP rfl cu gj (aj (qv 0) (aj (bB (v:=.ref au) rfl jZ rfl) ak)))) (aF (aQ (uH BZ (bW (qv 0) rfl) (xq (bW (qv 0) rfl)) xr))) bV)
   (aF (aQ (qv 0)))),?_⟩
 rcases hu with ht | ⟨a,dx,v,ts,p,rfl,ha,hv,hp,hl,rfl⟩
 ·obtain⟨b,ys,rfl,hb,_⟩:=u_ ht
  refine⟨_,rfl,_,au,false,rfl,.inr ⟨b,ys,rfl,hb,O.iTL⟩,_,rfl,iteF ?_⟩
  exact⟨_,rfl,q _ _ (Same.refl _) ht⟩
 ·refine⟨_,rfl,_,au,true,rfl,.inl ⟨_,O.rL.ty ha,O.iLL⟩,_,rfl,iteT ?_⟩
  obtain⟨b,ys,rfl,hb,hys⟩:=cN.mp hv
  refine⟨_,rfl,a,au,dx,_,_,rfl,ha,O.rL.cl,O.lt,fC _ _ _,_,rfl,a,au,dx,_,_,rfl,ha,O.rL.cl,O.lp,(cJ (by decide +kernel) _ _).trans (fC _ _ _),(p:Int),rfl,b,ys,rfl,hb,fun p1 H1 S1 h1=>q _ _ S1 (vC h1 ?_)⟩
  rw [XQ]
  exact (hys.drop p).mono (.of S1)
theorem Ow (O:Own K ao au aG aM aO aL) (cu:mg "isinstance"=none)
  {lM:Addr}{lJ:FuncData} (Bx:Fun K "unfronted" "unfronted" jr lM lJ) (Bw:FnOk P w K mg base CX0 31 lM lJ ["row"] (Vm K au)) (Bm:Binds K lJ ["row"] []) (Aq:mg "unfronted"=some (.ref lM))
  (eU:mg "Fronted"=some (.ref ao))
  (F:Fun K "parts_within" "parts_within" iJ f fd):FnOk P w K mg base CX0 32 f fd ["row","most"] (Vq K ao au aG aM):=by
 refine okQ F j9 (fun vs H Q E h=>?_) (fun cdv A outer s H vs Q E hr h=>?_)
 ·obtain⟨x,t,M,H₀,m,rfl,_⟩:=h
  rfl
 obtain⟨x,t,M,H₀,m,rfl,g,hx,hz,q⟩:=h
 refine⟨_,(aB (bU (i:=2) j9.nd rfl (Or.inl rfl) (qT (aj (qv 0) ak)))
   (aB (bU (i:=3) j9.nd rfl (Or.inl rfl) aJ)
   (aB (yj PassesOwn.never (QW.pt (Oo (Ds (qv 2) (fun _=>rfl)) (Ju (bK aki (qv 3) (qv 1) (nomark _))))) (aB (bU (i:=4) j9.nd rfl (Or.inl rfl) (qU PySem.F.plainAttrs_list PySem.F.slot_list_pop PySem.F.type_list_pop sZ (qv 2)))
   (aF (cA (oG (cR jP rfl cu gj (aj (qv 4) (aj (bB (v:=.ref ao) rfl eU rfl) ak)))) (aB (cX (gK PySem.F.plainAttrs_list PySem.F.slot_list_append PySem.F.type_list_append cU (qv 2) (aj (bW (qv 4) rfl) ak)))
   (aF (cX (gK PySem.F.plainAttrs_list PySem.F.slot_list_append PySem.F.type_list_append cU (qv 2) (aj (bW (qv 4) rfl) ak))))) (aB (acQ (i:=3) j9.nd rfl (Or.inl rfl) aJ Ht)
   (aF (cX (gK PySem.F.plainAttrs_list PySem.F.slot_list_extend PySem.F.type_list_extend aaf (qv 2) (aj (aD Bw hr rfl Aq Bx.kp Bm .nil pass0 (aj (qv 4) ak)) ak)))))))))
   (aF (aQ (qv 3)))))),?_⟩
 refine⟨_,rfl,(by show 1≤sizeLine; decide),fun p hp=>?_⟩
 refine⟨WPW K M H x m t.parts p,⟨_,[x],[t],0,none,rfl,same_new hp _,upd_same,aX.one (hx.mono (Kt.new hp) fun _ _ z=>z),by rw [T.aA,T.aR]; lia,rfl⟩,?_⟩
 rintro μ σ H' ⟨ys,ts,c,o,rfl,S,hl,ha,hc,rfl⟩
 refine⟨_,rfl,!ys.isEmpty,.inl ⟨ys,SqL.of hl,rfl⟩,ite2 (fun hb=>?_) (fun hb=>?_)⟩
 ·refine⟨_,rfl,_,rfl,_,_,rfl,rfl,_,rfl,ite2 (fun hle=>?_) (fun hle=>?_)⟩
  ·have hne:ys≠[]:=by rintro rfl; exact absurd hb (by decide)
   obtain⟨u,ts0,y,rfl,hy,ha0,hu⟩:=adX ha hne
   have hyl:=ha0.length
   rw [List.length_reverse] at hyl
   have hpp:=T.aA u ts0
   have hlp:=T.cT ts0
   have hup:=T.jw u
   refine⟨fun σ' H'=>∃ m',m'<2 * T.aq (u::ts0) - (u::ts0).length∧WPW K M H x m t.parts p m' σ' H',fun _ _ h=>h,?_⟩
   refine⟨_,rfl,.inl ⟨rfl,_,SqL.of hl⟩,p,ys,y,rfl,rfl,hl,hy,?_⟩
   have k1:=Ki.lst (o:=.lst ys.dropLast) hl
   have g1:=g.grow S
   rcases hu.cases g1 with hu | ⟨a,dx,y1,z1,u1,ts1,rfl,ha1,rfl,hy1,hz1⟩
   ·have hu1:=hu.mono k1
    refine⟨_,rfl,y,ao,false,rfl,hu1.aik O,_,rfl,iteF ?_⟩
    refine⟨_,rfl,_,_,rfl,rfl,?_⟩
    refine⟨_,rfl,.inl ⟨rfl,_,SqL.of upd_same⟩,_,rfl,y,u,rfl,hu1,fun y2 H2 S2 t2=>?_⟩
    obtain⟨b2,zs2,rfl,hb2,hz2⟩:=u_ t2
    have hzl:=hz2.length
    have hk:=T.dI u
    have hlk:=T.cT u.kids
    have h2:=S2 _ _ (upd_same (H:=H') (a:=p) (o:=.lst ys.dropLast))
    refine⟨p,b2,ys.dropLast,zs2,rfl,rfl,h2,hb2,BW (by lia),?_⟩
    refine⟨_,?_,ys.dropLast++zs2,u.kids.reverse++ts0,c+1,_,rfl,?_,upd_same,?_,?_,rfl⟩
    ·rw [T.cL,Dy,List.length_append,List.length_reverse,hpp]
     show _<2 * _ - (ts0.length+1)
     lia
    ·exact dZ ((dZ S hp).trans S2) hp
    ·rw [List.reverse_append,List.reverse_reverse]
     exact aX.append (iB (k1.kt.trans ((Kt.of S2).trans (Kt.lst h2))) ha0) (iB (Kt.lst h2) (Qo hz2))
    ·rw [T.cL,Dy]
     lia
   ·refine⟨_,rfl,_,ao,true,rfl,.inl ⟨_,O.rF.ty (k1.ins _ _ _ _ ha1),O.iFF⟩,_,rfl,iteT ?_⟩
    refine⟨_,rfl,.inl ⟨rfl,_,SqL.of upd_same⟩,_,rfl,a,ao,dx,_,_,rfl,k1.ins _ _ _ _ ha1,O.rF.cl,O.fi,fC _ _ _,p,_,_,rfl,rfl,upd_same,gF (by lia),?_⟩
    rw [lD]
    have k2:=Ki.lst (o:=.lst (ys.dropLast++[y1])) hl
    refine⟨_,rfl,.inl ⟨rfl,_,SqL.of upd_same⟩,_,rfl,a,ao,dx,_,_,rfl,k2.ins _ _ _ _ ha1,O.rF.cl,O.fb,(cJ (by decide +kernel) _ _).trans (fC _ _ _),p,_,_,rfl,rfl,upd_same,gF (by rw [List.length_append,List.length_singleton]; lia),?_⟩
    rw [lD]
    have k3:=Ki.lst (o:=.lst (ys.dropLast++[y1]++[z1])) hl
    have e1:=T.aK (u1::ts1)
    have e2:=T.aA u1 ts1
    have e3:=T.aK ts1
    refine⟨_,?_,ys.dropLast++[y1]++[z1],.node ts1::u1::ts0,c,_,rfl,dZ S hp,upd_same,?_,?_,rfl⟩
    ·rw [T.aA,T.aA,hpp]
     show _ - (ts0.length+1+1)<_ - (ts0.length+1)
     lia
    ·rw [List.reverse_cons,List.reverse_cons]
     exact aX.append (aX.append (iB k3.kt ha0) (aX.one (hy1.mono k3.kt fun _ _ z=>z))) (aX.one (hz1.mono k3.kt fun _ _ z=>z))
    ·rw [T.aA,T.aA]
     lia
  ·have hle':m<c:=by
    have:¬ ((c:Int)≤(m:Int)):=fun z=>hle (decide_eq_true z)
    lia
   exact⟨_,rfl,q c _ S (fun z=>by lia) (fun _=>hle')⟩
 ·have hys:ys=[]:=by
   cases ys with
   | nil=>rfl
   | cons _ _=>exact absurd rfl hb
  subst hys
  have hts:=all_nil ha
  subst hts
  rw [T.aR] at hc
  exact iteF ⟨_,rfl,q c _ S (fun _=>by lia) (fun _=>by lia)⟩
theorem aa6 (O:Own K ao au aG aM aO aL) (cu:mg "isinstance"=none) (cV:mg "tuple"=none)
  {lM:Addr}{lJ:FuncData} (Bx:Fun K "unfronted" "unfronted" jr lM lJ) (Bw:FnOk P w K mg base CX0 31 lM lJ ["row"] (Vm K au)) (Bm:Binds K lJ ["row"] []) (Aq:mg "unfronted"=some (.ref lM))
  (eU:mg "Fronted"=some (.ref ao))
  (F:Fun K "as_tree" "as_tree" pO f fd):FnOk P w K mg base CX0 32 f fd ["row"] (VB K ao au aG aM):=by
 refine okQ F sU (fun vs H Q E h=>?_) (fun cdv A outer s H vs Q E hr h=>?_)
 ·obtain⟨x,t,M,H₀,rfl,_⟩:=h
  rfl
 obtain⟨x,t,M,H₀,rfl,g,hx,hz,q⟩:=h
 refine⟨_,(aB (bU (i:=1) sU.nd rfl (Or.inl rfl) (qT (aj (qv 0) ak)))
   (aB (bU (i:=2) sU.nd rfl (Or.inl rfl) (qT (aj (qT ak) ak)))
   (aF (yj PassesOwn.never (oG Jx) (aB (bU (i:=3) sU.nd rfl (Or.inl rfl) (cY ix_list (qv 1) (zP vD aJ) (fun _ _=>rfl)))
   (aB (cA (oG (cR jP rfl cu gj (aj (qv 3) (aj (bB (v:=.ref ao) rfl eU rfl) ak)))) (aB (ahG (bW (qv 3) rfl) (ahI (qv 1) (zP vD aJ) set_list))
   (aB (cX (gK PySem.F.plainAttrs_list PySem.F.slot_list_append PySem.F.type_list_append cU (qv 1) (aj (bW (qv 3) rfl) ak)))
   (aB (cX (gK PySem.F.plainAttrs_list PySem.F.slot_list_append PySem.F.type_list_append cU (qv 2) (aj (qT ak) ak)))
   (aF YM)))) bV)
   (aB (cX (qU PySem.F.plainAttrs_list PySem.F.slot_list_pop PySem.F.type_list_pop sZ (qv 1)))
   (aB (bU (i:=4) sU.nd rfl (Or.inl rfl) (aU aW (mX ji rfl cV nP (aj (qU PySem.F.plainAttrs_list PySem.F.slot_list_pop PySem.F.type_list_pop sZ (qv 2)) ak)) (aD Bw hr rfl Aq Bx.kp Bm .nil pass0 (aj (qv 3) ak))))
   (aB (cA (V3 (Ds (qv 1) (fun _=>rfl))) (aF (aQ (qv 4))) bV)
   (aF (cX (gK PySem.F.plainAttrs_list PySem.F.slot_list_append PySem.F.type_list_append cU (cY ix_list (qv 2) (zP vD aJ) (fun _ _=>rfl)) (aj (qv 4) ak))))))))))))),?_⟩
 refine⟨_,rfl,(by show 1≤sizeLine; decide),fun pa ga=>?_⟩
 refine⟨Nat.zero_le _,fun pq gq=>⟨(by show 1≤sizeLine; decide),fun pt gt=>?_⟩⟩
 have Sa:=same_new ga (.lst [x])
 have Sq:=same_new gq (.lst [])
 have St:=same_new gt (.lst [V.ref pq])
 have n1:pa≠pq:=ne_of_none (h:=upd_same) gq
 have hpa:upd (upd H pa (.lst [x])) pq (.lst []) pa=some (.lst [x]):=by rw [upd_ne n1,upd_same]
 have n2:pa≠pt:=ne_of_none hpa gt
 have n3:pq≠pt:=ne_of_none (h:=upd_same) gt
 have a0:AsT K H (upd (upd (upd H pa (.lst [x])) pq (.lst [])) pt (.lst [V.ref pq])) pt pa [V.ref pq] [[]] [x]:=by
  have hq0:H pq=none:=Sa.free gq
  have ht0:H pt=none:=(Sa.trans Sq).free gt
  refine⟨⟨ht0,(Sa.trans Sq).trans St,upd_same,aX.one ⟨pq,[],rfl,hq0,by rw [upd_ne n3,upd_same],bO.mpr rfl⟩,?_⟩,ga,by rw [upd_ne n2]; exact hpa,?_⟩
  ·simp [Ne.symm n3]
  ·simp [n1,n2]
 have S0:=(Sa.trans Sq).trans St
 generalize upd (upd (upd H pa (.lst [x])) pq (.lst [])) pt (.lst [V.ref pq])=Hs at a0 S0
 refine⟨fun μ σ H'=>∃ (ys zs:List V) (st:List (List T)) (as:List T) (o3 o4:Option V),σ=[some x,some (.ref pa),some (.ref pt),o3,o4]∧AsT K H H' pt pa ys st zs∧aX (RV K M H') as.reverse zs∧as≠[]∧st.length=as.length∧Dc st as=t∧T.aq as+(st.map List.length).sum≤t.parts∧μ=2 * T.aq as - as.length,⟨_,[.ref pq],[x],[[]],[t],none,none,rfl,a0,aX.one (hx.mono (.of S0) fun _ _ z=>z),by simp,rfl,by show T.node ([]++t.kids)=t; cases t; rfl,by rw [T.aA,T.aR]; show _+0≤_; lia,rfl⟩,?_⟩
 rintro μ σ H1 ⟨ys,zs,st,as,o3,o4,rfl,A1,ha,hne,hlen,hval,hsum,rfl⟩
 refine⟨_,rfl,iteT ?_⟩
 have aoB:zs≠[]:=by
  rintro rfl
  exact hne (all_nil ha)
 obtain⟨u,as0,zs0,y,rfl,rfl,ha0,hu⟩:=nT ha aoB
 have hzl:=ha0.length
 rw [List.length_reverse] at hzl
 have hpp:=T.aA u as0
 have hlp:=T.cT as0
 have hup:=T.jw u
 have g1:=g.grow A1.rows.same
 refine⟨fun σ' H'=>∃ m',m'<2 * T.aq (u::as0) - (u::as0).length∧∃ (ys zs:List V) (st:List (List T)) (as:List T) (o3 o4:Option V),σ'=[some x,some (.ref pa),some (.ref pt),o3,o4]∧AsT K H H' pt pa ys st zs∧aX (RV K M H') as.reverse zs∧as≠[]∧st.length=as.length∧Dc st as=t∧T.aq as+(st.map List.length).sum≤t.parts∧m'=2 * T.aq as - as.length,fun _ _ h=>h,?_⟩
 refine⟨_,rfl,1,rfl,pa,_,_,_,rfl,rfl,SqL.of A1.at_,Cw,?_⟩
 rcases hu.cases g1 with hu | ⟨a,dx,y1,z1,u1,ts1,rfl,ha1,rfl,hy1,hz1⟩
 ·refine⟨_,rfl,y,ao,false,rfl,hu.aik O,_,rfl,iteF ?_⟩
  have hk:=T.dI u
  refine⟨_,rfl,.inl ⟨rfl,_,SqL.of A1.at_⟩,pa,_,_,rfl,rfl,A1.at_,mY _ _,?_⟩
  rw [mZ]
  have k1:=Ki.lst (o:=.lst zs0) A1.at_
  have A2:AsT K H (upd H1 pa (.lst zs0)) pt pa ys st zs0:=A1.place
  generalize upd H1 pa (.lst zs0)=H2 at k1 A2
  have hu2:=hu.mono k1
  have ha2:=iB k1.kt ha0
  obtain⟨l,st0,rfl⟩:∃ l st0,st=l::st0:=by
   cases st with
   | nil=>exact absurd hlen (by simp)
   | cons l st0=>exact⟨l,st0,rfl⟩
  obtain⟨ys0,b,xs,rfl,nRb,hb,hxs,A3⟩:=A2.shut
  refine⟨_,rfl,.inl ⟨rfl,_,SqL.of A2.rows.at_⟩,pt,_,_,rfl,rfl,A2.rows.at_,mY _ _,?_⟩
  rw [mZ]
  have k3:=Ki.lst (o:=.lst ys0) A2.rows.at_
  have hb3:upd H2 pt (.lst ys0) b=some (.lst xs):=by rw [upd_ne (Ne.symm nRb)]; exact hb
  have aiC:=hxs.mono k3.kt
  generalize upd H2 pt (.lst ys0)=H3 at k3 A3 hb3 aiC
  refine⟨b,xs,rfl,.inl ⟨SqL.of hb3,fun p4 g4=>?_⟩⟩
  obtain⟨S4,t4⟩:=cF (K:=K) g4 aiC
  have hu4:=(hu2.mono k3).mono (Ki.of S4)
  have hsl:(List.map List.length (l::st0)).sum=l.length+(List.map List.length st0).sum:=rfl
  refine⟨_,rfl,y,u,rfl,hu4,fun y5 H5 S5 t5=>?_⟩
  have t5':TR K H5 (.node u.kids) y5:=xM t5
  have hlk:=T.cT u.kids
  refine cB (t4.mono (.of S5)) t5' (BW (by lia)) (fun z6 H6 S6 t6=>?_)
  have S36:=S4.trans (S5.trans S6)
  have A6:=A3.grow S36
  refine⟨_,rfl,!zs0.isEmpty,.inl ⟨zs0,SqL.of A6.at_,rfl⟩,ite2 (fun he=>?_) (fun he=>?_)⟩
  ·have hz0:zs0=[]:=by
    cases zs0 with
    | nil=>rfl
    | cons _ _=>exact absurd he (by simp)
   subst hz0
   have:=all_nil ha0
   subst this
   have hs0:st0=[]:=by
    have:st0.length+1=0+1:=hlen
    exact List.length_eq_zero_iff.mp (by lia)
   subst hs0
   refine⟨_,rfl,q _ _ A6.rows.same ?_⟩
   rw [← hval]
   exact t6
  ·have hz0:zs0≠[]:=by rintro rfl; exact he rfl
   have afi:as0≠[]:=by
    rintro rfl
    cases ha0
    exact hz0 rfl
   obtain⟨l',st1,rfl⟩:∃ l' st1,st0=l'::st1:=by
    cases st0 with
    | nil =>
     have h1:0+1=as0.length+1:=hlen
     exact absurd (List.length_eq_zero_iff.mp (by lia)) afi
    | cons l' st1=>exact⟨l',st1,rfl⟩
   obtain⟨ys1,c,ws,rfl,hc,hwl,A7⟩:=A6.add t6
   have aq7:(List.map List.length (l'::st1)).sum=l'.length+(List.map List.length st1).sum:=rfl
   refine⟨_,rfl,1,rfl,pt,_,_,_,rfl,rfl,SqL.of A6.rows.at_,Cw,.inl ⟨rfl,_,SqL.of hc⟩,_,rfl,c,_,_,rfl,rfl,hc,gF (by lia),?_⟩
   refine⟨_,?_,_,zs0,_,as0,_,_,rfl,A7,?_,afi,?_,?_,?_,rfl⟩
   ·rw [hpp]
    show _<_ - (as0.length+1)
    lia
   ·exact iB (k3.kt.trans ((Kt.of S36).trans (Kt.lst hc))) ha2
   ·have h1:st1.length+1+1=as0.length+1:=hlen
    show st1.length+1=as0.length
    lia
   ·rw [← hval]
    cases as0 with
    | nil=>exact absurd rfl afi
    | cons _ _=>rw [Dc]
   ·show _+((l'++[_]).length+(List.map List.length st1).sum)≤_
    rw [List.length_append,List.length_singleton]
    lia
 ·have e1:=T.aK (u1::ts1)
  have e2:=T.aA u1 ts1
  have e3:=T.aK ts1
  refine⟨_,rfl,_,ao,true,rfl,.inl ⟨_,O.rF.ty ha1,O.iFF⟩,_,rfl,iteT ?_⟩
  refine⟨_,rfl,a,ao,dx,_,_,rfl,ha1,O.rF.cl,O.fb,(cJ (by decide +kernel) _ _).trans (fC _ _ _),_,rfl,1,rfl,pa,_,-1,_,rfl,rfl,A1.at_,agW _ _,?_⟩
  rw [aeB]
  have k1:=Ki.lst (o:=.lst (zs0++[z1])) A1.at_
  have A2:AsT K H (upd H1 pa (.lst (zs0++[z1]))) pt pa ys st (zs0++[z1]):=A1.place
  generalize upd H1 pa (.lst (zs0++[z1]))=H2 at k1 A2
  refine⟨_,rfl,.inl ⟨rfl,_,SqL.of A2.at_⟩,_,rfl,a,ao,dx,_,_,rfl,k1.ins _ _ _ _ ha1,O.rF.cl,O.fi,fC _ _ _,pa,_,_,rfl,rfl,A2.at_,gF (by rw [List.length_append,List.length_singleton]; lia),?_⟩
  have k2:=Ki.lst (o:=.lst (zs0++[z1]++[y1])) A2.at_
  have A3:AsT K H (upd H2 pa (.lst (zs0++[z1]++[y1]))) pt pa ys st (zs0++[z1]++[y1]):=A2.place
  generalize upd H2 pa (.lst (zs0++[z1]++[y1]))=H3 at k2 A3
  refine⟨_,rfl,.inl ⟨rfl,_,SqL.of A3.rows.at_⟩,Nat.zero_le _,fun pn gn=>⟨pt,_,_,rfl,rfl,same_new gn _ _ _ A3.rows.at_,?_,?_⟩⟩
  ·have hyl:=A3.rows.rows.length
   rw [List.length_reverse] at hyl
   exact gF (by
    have h1:st.length=as0.length+1:=hlen
    lia)
  ·have A4:=A3.enter gn
   have k4:Kt H3 (upd (upd H3 pn (.lst [])) pt (.lst (ys++[.ref pn]))):=(Kt.new gn).trans (Kt.lst (same_new gn _ _ _ A3.rows.at_))
   have k:=k1.kt.trans (k2.kt.trans k4)
   obtain⟨l,st0,rfl⟩:∃ l st0,st=l::st0:=by
    cases st with
    | nil=>exact absurd hlen (by simp)
    | cons l st0=>exact⟨l,st0,rfl⟩
   refine⟨_,?_,_,_,_,u1::.node ts1::as0,_,_,rfl,A4,?_,by simp,?_,?_,?_,rfl⟩
   ·rw [T.aA,T.aA,hpp]
    show _ - (as0.length+1+1)<_ - (as0.length+1)
    lia
   ·rw [List.reverse_cons,List.reverse_cons]
    exact aX.append (aX.append (iB k ha0) (aX.one (hz1.mono k fun _ _ z=>z))) (aX.one (hy1.mono k fun _ _ z=>z))
   ·have h1:(l::st0).length=as0.length+1:=hlen
    show (l::st0).length+1=as0.length+1+1
    rw [h1]
   ·rw [aen]
    exact hval
   ·have e9:(List.map List.length ([]::l::st0)).sum=(List.map List.length (l::st0)).sum:=by simp
    rw [T.aA,T.aA,e9]
    lia
end
end fH
namespace fH
open PySem PySem.Spec PyProof.Rows L2 Sw
section
variable {P:Program}{w:World}{K:PySem.W.Frag}{mg:Str→Option Value}{base:Heap}{f:Addr}{fd:FuncData}{ao au aG aM aO aL:Addr}
theorem YW (O:Own K ao au aG aM aO aL) {j8:Value} (oH:mg "FORK"=some j8) (kW:RelV (.int 7) j8) {mV:Value} (sI:mg "FORK_NO"=some mV) (mW:RelV (.int 8) mV) {j7:Value} (qC:mg "FORK_YES"=some j7) (kO:RelV (.int 7) j7) {d8:Value} (fO:mg "WHILE"=some d8) (eE:RelV (.int 8) d8) {o9:Value} (yD:mg "WHILE_PAST"=some o9) (pP:RelV (.int 10) o9) {iU:Value} (mq:mg "WHILE_INTO"=some iU) (iY:RelV (.int 9) iU) {j6:Value} (qz:mg "NAMELESS"=some j6) (kJ:RelV (.int 9) j6) {vH:Value} (Ho:mg "NO_WORD"=some vH) (vO:RelV (.int 11) vH)
  (F:Fun K "place_of" "place_of" j_ f fd):FnOk P w K mg base CX0 31 f fd ["sort","top"] (ZL K ao au aG aM):=by
 refine okQ F YD (fun vs H Q E h=>?_) (fun cdv A outer s H vs Q E hr h=>?_)
 ·obtain⟨k,x,t,M,H₀,rfl,_⟩:=h
  rfl
 obtain⟨k,x,t,M,H₀,rfl,g,hx,hd,q⟩:=h
 have hE:=hr.un
 have hE:(A.deeper (envOfC "place_of" (defScope j_) s.heap.objs.size f cdv)).units+401<cLine:=by lia
 refine⟨_,(aB (cA (bK op_eq (qv 0) (bB (v:=.int 7) rfl oH kW) (nomark _)) (aF (aQ (rG (bK (Wf hE) (qv 1) (aY ak) (nomark _)) (bB (v:=.int 8) rfl sI mW) (bB (v:=.int 7) rfl qC kO)))) bV)
   (aB (cA (bK op_eq (qv 0) (bB (v:=.int 8) rfl fO eE) (nomark _)) (aF (aQ (rG (bK (Wf hE) (qv 1) (aY ak) (nomark _)) (bB (v:=.int 10) rfl yD pP) (bB (v:=.int 9) rfl mq iY)))) bV)
   (aF (aQ (rG (bK op_eq (qv 0) (bB (v:=.int 9) rfl qz kJ) (nomark _)) (bB (v:=.int 11) rfl Ho vO) (qv 0)))))),?_⟩
 refine⟨_,rfl,rfl,_,rfl,ite2 (fun h7=>?_) (fun h7=>?_)⟩
 ·have h7:k=7:=by have:=V.int.inj (of_decide_eq_true h7); lia
  refine⟨_,rfl,Nat.zero_le _,fun p gp=>aak O g hx (by lia) gp ⟨_,rfl,ite2 (fun he=>?_) (fun he=>?_)⟩⟩
  ·have:=q _ (same_new gp (.tup []))
   rw [sX,if_pos h7,if_pos (of_decide_eq_true he)] at this
   exact this
  ·have:=q _ (same_new gp (.tup []))
   rw [sX,if_pos h7,if_neg (fun z=>he (decide_eq_true z))] at this
   exact this
 have h7:¬ k=7:=fun z=>h7 (decide_eq_true (by rw [z]; rfl))
 refine⟨_,rfl,rfl,_,rfl,ite2 (fun h8=>?_) (fun h8=>?_)⟩
 ·have h8:k=8:=by have:=V.int.inj (of_decide_eq_true h8); lia
  refine⟨_,rfl,Nat.zero_le _,fun p gp=>aak O g hx (by lia) gp ⟨_,rfl,ite2 (fun he=>?_) (fun he=>?_)⟩⟩
  ·have:=q _ (same_new gp (.tup []))
   rw [sX,if_neg h7,if_pos h8,if_pos (of_decide_eq_true he)] at this
   exact this
  ·have:=q _ (same_new gp (.tup []))
   rw [sX,if_neg h7,if_pos h8,if_neg (fun z=>he (decide_eq_true z))] at this
   exact this
 have h8:¬ k=8:=fun z=>h8 (decide_eq_true (by rw [z]; rfl))
 refine⟨_,rfl,rfl,_,rfl,ite2 (fun h9=>?_) (fun h9=>?_)⟩
 ·have h9:k=9:=by have:=V.int.inj (of_decide_eq_true h9); lia
  have:=q _ (Same.refl H)
  rw [sX,if_neg h7,if_neg h8,if_pos h9] at this
  exact this
 ·have h9:¬ k=9:=fun z=>h9 (decide_eq_true (by rw [z]; rfl))
  have:=q _ (Same.refl H)
  rw [sX,if_neg h7,if_neg h8,if_neg h9] at this
  exact⟨_,rfl,this⟩
theorem Lp (O:Own K ao au aG aM aO aL) {j8:Value} (oH:mg "FORK"=some j8) (kW:RelV (.int 7) j8) {d8:Value} (fO:mg "WHILE"=some d8) (eE:RelV (.int 8) d8)
  {Iw:Addr}{HN:FuncData} (ad_:Fun K "sort_of" "sort_of" pH Iw HN) (ad2:FnOk P w K mg base CX0 33 Iw HN ["word"] (ZJ K)) (adP:Binds K HN ["word"] []) (adl:mg "sort_of"=some (.ref Iw))
  {IV:Addr}{HX:FuncData} (aec:Fun K "load_of" "load_of" pK IV HX) (ad5:FnOk P w K mg base CX0 33 IV HX ["word"] (Gk K)) (adS:Binds K HX ["word"] []) (adp:mg "load_of"=some (.ref IV))
  {mQ:Addr}{mL:FuncData} (CJ:Fun K "first" "first" oN mQ mL) (Cy:FnOk P w K mg base CX0 33 mQ mL ["tree"] (Jr K)) (Cu:Binds K mL ["tree"] []) (Cj:mg "first"=some (.ref mQ))
  {zm:Addr}{yL:FuncData} (Yu:Fun K "rest" "rest" vL zm yL) (Yo:FnOk P w K mg base CX0 33 zm yL ["tree"] (Gk K)) (X7:Binds K yL ["tree"] []) (WR:mg "rest"=some (.ref zm))
  (vR:mg "Text"=some (.ref aM))
  {d7:Addr}{lu:FuncData} (sJ:Mk K aM d7) (lC:FnOk P w K mg base CX0 32 d7 lu ["self","tree"] (KJ aM)) (fM:Binds K lu ["self","tree"] [])
  (F:Fun K "__init__" "Word.__init__" jc f fd):FnOk P w K mg base CX0 34 f fd ["self","tree"] (Vl K ao au aG aM):=by
 refine okQ F K3 (fun vs H Q E h=>?_) (fun cdv A outer s H vs Q E hr h=>?_)
 ·obtain⟨o,dx,x,w',M,H₀,rfl,_⟩:=h
  rfl
 obtain⟨o,dx,x,w',M,H₀,rfl,g,hm,ho,hx,hd,q⟩:=h
 refine⟨_,(aB (fJ (qv 0) (aD ad2 hr rfl adl ad_.kp adP .nil pass0 (aj (qv 1) ak)) rfl)
   (aB (fJ (qv 0) (aD ad5 hr rfl adp aec.kp adS .nil pass0 (aj (qv 1) ak)) rfl)
   (aB (fJ (qv 0) yp rfl)
   (aB (fJ (qv 0) yp rfl)
   (aB (fJ (qv 0) yp rfl)
   (aB (fJ (qv 0) yp rfl)
   (aB (cA (bK op_eq (bW (qv 0) rfl) (bB (v:=.int 7) rfl oH kW) (nomark _)) (aB (fJ (qv 0) (jX sJ lC hr rfl vR fM .nil pass0 (aj (aD Cy hr rfl Cj CJ.kp Cu .nil pass0 (aj (bW (qv 0) rfl) ak)) ak)) rfl)
   (aF (fJ (qv 0) (jX sJ lC hr rfl vR fM .nil pass0 (aj (aD Yo hr rfl WR Yu.kp X7 .nil pass0 (aj (bW (qv 0) rfl) ak)) ak)) rfl))) bV)
   (aF (cA (bK op_eq (bW (qv 0) rfl) (bB (v:=.int 8) rfl fO eE) (nomark _)) (aF (fJ (qv 0) (jX sJ lC hr rfl vR fM .nil pass0 (aj (bW (qv 0) rfl) ak)) rfl)) bV))))))))),?_⟩
 refine⟨_,rfl,x,w',rfl,hx,hd,fun H1 S1=>⟨_,rfl,o,aG,dx,[],rfl,S1 _ _ ho,O.gP,O.wk,by show 0<1000; decide,?_⟩⟩
 rw [pd1]
 have kt {u:HO}{Ha:Hp}{fs:List (Str×V)} (h:Ha o=some (.ins aG dx fs)):Kt Ha (upd Ha o u):=Kt.ins h
 have G1:Go K ao au aG aM (fun a=>a=o) M M H₀ H (upd H1 o (.ins aG dx (d1 (.int (aH w':Nat))))):=Go.pU (.grow g S1) hm rfl (kt (S1 _ _ ho))
 have O1:∀ c u,H c=some u→c≠o→upd H1 o (.ins aG dx (d1 (.int (aH w':Nat)))) c=some u:=fun c u h n=>by rw [upd_ne n]; exact S1 _ _ h
 have h1:upd H1 o (.ins aG dx (d1 (.int (aH w':Nat)))) o=some (.ins aG dx (d1 (.int (aH w':Nat)))):=upd_same
 generalize upd H1 o (.ins aG dx (d1 (.int (aH w':Nat))))=H2 at G1 O1 h1
 refine⟨_,rfl,x,w',rfl,hx.mono G1.kt,fun v H3 S3 tv=>⟨_,rfl,o,aG,dx,_,rfl,S3 _ _ h1,O.gP,O.wl,by show 1<1000; decide,?_⟩⟩
 rw [pd2]
 have G3:Go K ao au aG aM (fun a=>a=o) M M H₀ H (upd H3 o (.ins aG dx (d2 (.int (aH w':Nat)) v))):=Go.pU (G1.trans (.grow G1.gh S3)) hm rfl (kt (S3 _ _ h1))
 have O3:∀ c u,H c=some u→c≠o→upd H3 o (.ins aG dx (d2 (.int (aH w':Nat)) v)) c=some u:=fun c u h n=>by rw [upd_ne n]; exact S3 _ _ (O1 c u h n)
 have tv3:TR K (upd H3 o (.ins aG dx (d2 (.int (aH w':Nat)) v))) (bL w') v:=tv.mono (kt (S3 _ _ h1))
 have h3:upd H3 o (.ins aG dx (d2 (.int (aH w':Nat)) v)) o=some (.ins aG dx (d2 (.int (aH w':Nat)) v)):=upd_same
 generalize upd H3 o (.ins aG dx (d2 (.int (aH w':Nat)) v))=H4 at G3 O3 tv3 h3
 refine⟨_,rfl,o,aG,dx,_,rfl,h3,O.gP,O.wy,by show 2<1000; decide,?_⟩
 rw [pd3]
 refine⟨_,rfl,o,aG,dx,_,rfl,upd_same,O.gP,O.wn,by show 3<1000; decide,?_⟩
 rw [pd4,lD]
 refine⟨_,rfl,o,aG,dx,_,rfl,upd_same,O.gP,O.wb,by show 4<1000; decide,?_⟩
 rw [pd5,lD]
 refine⟨_,rfl,o,aG,dx,_,rfl,upd_same,O.gP,O.ws,by show 5<1000; decide,?_⟩
 rw [pd6,lD]
 have G5:Go K ao au aG aM (fun a=>a=o) M M H₀ H (upd H4 o (.ins aG dx (fD (aH w') v .non .non .non .non))):=Go.pU G3 hm rfl (kt h3)
 have O5:∀ c u,H c=some u→c≠o→upd H4 o (.ins aG dx (fD (aH w') v .non .non .non .non)) c=some u:=fun c u h n=>by rw [upd_ne n]; exact O3 c u h n
 have tv5:TR K (upd H4 o (.ins aG dx (fD (aH w') v .non .non .non .non))) (bL w') v:=tv3.mono (kt h3)
 have h5:upd H4 o (.ins aG dx (fD (aH w') v .non .non .non .non)) o=some (.ins aG dx (fD (aH w') v .non .non .non .non)):=upd_same
 generalize upd H4 o (.ins aG dx (fD (aH w') v .non .non .non .non))=H5 at G5 O5 tv5 h5
 have hdl:(bL w').deep≤400:=Nat.le_trans (adE w') hd
 dsimp only
 refine abo (fun σ' H'=>σ'=[some (.ref o),some x]∧∃ M' y n,Go K ao au aG aM (fun a=>a=o) M M' H₀ H H'∧(∀ c u,H c=some u→c≠o→H' c=some u)∧H' o=some (.ins aG dx (fD (aH w') v y n .non .non))∧TR K H' (bL w') v∧W7 M' w' y n) (fun σ' H6 h6=>?_) (fun A' B' hA hB=>⟨_,rfl,o,aG,dx,_,_,rfl,h5,O.gP,O.wk,ldK,rfl,_,rfl,ite2 (fun h=>hA _ fun N hN=>?_) (fun h=>hB _ ⟨rfl,M,.non,.non,G5,O5,h5,tv5,fun z=>absurd (decide_eq_true (by rw [z]; rfl)) h⟩)⟩)
 rotate_left
 ·refine⟨_,rfl,o,aG,dx,_,_,rfl,h5,O.gP,O.wl,ldL,v,bL w',rfl,tv5,hdl,fun y1 H6 S6 t6=>fun a da ha hda ne=>⟨a,da,y1,rfl,je,fun W hW=>⟨rfl,_,rfl,o,aG,dx,fD (aH w') v .non .non .non .non,rfl,?_,O.gP,O.wy,by show 6<1000; decide,?_⟩⟩⟩
  ·obtain⟨_,S7,_⟩:=Go.newText (X:=fun a=>a=o) (G5.trans (.grow G5.gh S6)).gh t6 ha hda ne hW
   exact S7 _ _ (S6 _ _ h5)
  obtain⟨G7,S7,tx7⟩:=Go.newText (X:=fun a=>a=o) (G5.trans (.grow G5.gh S6)).gh t6 ha hda ne hW
  have h7:=S7 _ _ (S6 _ _ h5)
  have tv7:=tv5.mono (.of (S6.trans S7))
  have O7:∀ c u,H c=some u→c≠o→_:=fun c u h n=>S7 _ _ (S6 _ _ (O5 c u h n))
  have G7':=(G5.trans (.grow G5.gh S6)).trans G7
  generalize setM (setM M W (.words (ats (bL w').kids 0))) a (.text (ats (bL w').kids 0) W)=M7 at G7' tx7
  generalize upd (upd (mkO H6 a da aM []) W (.lst [])) a (.ins aM da (fT y1 W))=H7 at S7 h7 tv7 O7 G7'
  rw [pdY]
  have hm7:=G7'.ext _ _ hm
  have G8:=G7'.pU (u:=.ins aG dx (fD (aH w') v (.ref a) .non .non .non)) hm7 rfl (kt h7)
  have O8:∀ c u,H c=some u→c≠o→upd H7 o (.ins aG dx (fD (aH w') v (.ref a) .non .non .non)) c=some u:=fun c u h n=>by rw [upd_ne n]; exact O7 c u h n
  have tv8:=tv7.mono (kt (u:=.ins aG dx (fD (aH w') v (.ref a) .non .non .non)) h7)
  have h8:upd H7 o (.ins aG dx (fD (aH w') v (.ref a) .non .non .non)) o=some (.ins aG dx (fD (aH w') v (.ref a) .non .non .non)):=upd_same
  generalize upd H7 o (.ins aG dx (fD (aH w') v (.ref a) .non .non .non))=H8 at G8 O8 tv8 h8
  refine⟨_,rfl,o,aG,dx,_,_,rfl,h8,O.gP,O.wl,ldL,v,bL w',rfl,tv8,fun y9 H9 S9 t9=>fun c dc hc hdc ne9=>⟨c,dc,y9,rfl,je,fun W9 hW9=>⟨rfl,_,rfl,o,aG,dx,fD (aH w') v (.ref a) .non .non .non,rfl,?_,O.gP,O.wn,by show 6<1000; decide,?_⟩⟩⟩
  ·obtain⟨_,S10,_⟩:=Go.newText (X:=fun a=>a=o) (G8.trans (.grow G8.gh S9)).gh t9 hc hdc ne9 hW9
   exact S10 _ _ (S9 _ _ h8)
  obtain⟨G10,S10,aks⟩:=Go.newText (X:=fun a=>a=o) (G8.trans (.grow G8.gh S9)).gh t9 hc hdc ne9 hW9
  have h10:=S10 _ _ (S9 _ _ h8)
  have aku:=tv8.mono (.of (S9.trans S10))
  have ajK:=(G8.trans (.grow G8.gh S9)).trans G10
  have akr:=tx7.ext G10
  rw [pdN]
  refine hN _ _ ⟨rfl,_,.ref a,.ref c,ajK.pU (ajK.ext _ _ hm) rfl (kt h10),fun c u h n=>by rw [upd_ne n]; exact S10 _ _ (S9 _ _ (O8 c u h n)),upd_same,aku.mono (kt h10),fun _=>⟨a,c,rfl,rfl,akr,aks⟩⟩
 obtain⟨rfl,M6,y6,n6,G6,O6,h6,tv6,w7⟩:=h6
 refine⟨_,rfl,o,aG,dx,_,_,rfl,h6,O.gP,O.wk,ldK,rfl,_,rfl,ite2 (fun h=>?_) (fun h=>?_)⟩
 ·refine⟨_,rfl,o,aG,dx,_,_,rfl,h6,O.gP,O.wl,ldL,fun a da ha hda ne=>⟨a,da,v,rfl,je,fun W hW=>⟨rfl,_,rfl,o,aG,dx,fD (aH w') v y6 n6 .non .non,rfl,?_,O.gP,O.wb,by show 6<1000; decide,?_⟩⟩⟩
  ·obtain⟨_,S7,_⟩:=Go.newText (X:=fun a=>a=o) G6.gh tv6 ha hda ne hW
   exact S7 _ _ h6
  obtain⟨G7,S7,tx7⟩:=Go.newText (X:=fun a=>a=o) G6.gh tv6 ha hda ne hW
  have h7:=S7 _ _ h6
  have G7':=G6.trans G7
  rw [pdB]
  exact q _ _ v y6 n6 (.ref a) (G7'.pU (G7'.ext _ _ hm) rfl (kt h7)) (fun c u h n=>by rw [upd_ne n]; exact S7 _ _ (O6 c u h n)) upd_same ((tv6.mono (.of S7)).mono (kt h7)) (fun z=>by
   obtain⟨ay,an,e1,e2,e3,e4⟩:=w7 z
   exact⟨ay,an,e1,e2,e3.ext G7,e4.ext G7⟩) (fun _=>⟨a,rfl,tx7⟩)
 ·exact q M6 H6 v y6 n6 .non G6 O6 h6 tv6 w7 (fun z=>absurd (decide_eq_true (by rw [z]; rfl)) h)
theorem G9 (O:Own K ao au aG aM aO aL)
  {SN:Addr}{R7:FuncData} (ahh:Fun K "parts" "parts" uE SN R7) (ahe:FnOk P w K mg base CX0 32 SN R7 ["tree"] (Vr K)) (ag8:Binds K R7 ["tree"] []) (agO:mg "parts"=some (.ref SN))
  (F:Fun K "body_parts" "Word.body_parts" iy f fd):FnOk P w K mg base CX0 33 f fd ["self"] (ZQ K ao au aG aM):=by
 refine okQ F Gy (fun vs H Q E h=>?_) (fun cdv A outer s H vs Q E hr h=>?_)
 ·obtain⟨b,w',M,H₀,rfl,_⟩:=h
  rfl
 obtain⟨b,w',M,H₀,rfl,g,hm,hz,q⟩:=h
 refine⟨_,(aB (cA (bK ac3 (bW (qv 0) rfl) yp (nomark _)) (aF (fJ (qv 0) (aD ahe hr rfl agO ahh.kp ag8 .nil pass0 (aj (bW (qv 0) rfl) ak)) rfl)) bV)
   (aF (aQ (bW (qv 0) rfl)))),?_⟩
 obtain⟨dx,v,y,n,bd,sz,hb,tv,c7,c8,hs⟩:=g.ok b _ hm
 have fin:∀ H' sz',Go K ao au aG aM (fun _=>False) M M H₀ H H'→H' b=some (.ins aG dx (fD (aH w') v y n bd sz'))→sz'=.int ((bL w').parts:Nat)→tRet (tFld K (tVar 0) "size") { nx:=fun x H'=>Q .non H',rt:=Q,bk:=fun _ _=>False,ct:=fun _ _=>False } [some (.ref b)] H':=fun H' sz' G hb' e=>by
  subst e
  exact⟨_,rfl,b,aG,dx,_,_,rfl,hb',O.gP,O.ws,ldS,q _ G⟩
 refine⟨_,rfl,b,aG,dx,_,_,rfl,hb,O.gP,O.ws,ldS,rfl,_,rfl,ite2 (fun h=>?_) (fun h=>?_)⟩
 ·refine⟨_,rfl,b,aG,dx,_,_,rfl,hb,O.gP,O.wl,ldL,v,bL w',rfl,tv,hz,fun H1 S1=>⟨_,rfl,b,aG,dx,_,rfl,S1 _ _ hb,O.gP,O.ws,by show 6<1000; decide,?_⟩⟩
  rw [pdS]
  have k1:Kt H1 (upd H1 b (.ins aG dx (fD (aH w') v y n bd (.int ((bL w').parts:Nat))))):=Kt.ins (S1 _ _ hb)
  have g1:=g.grow S1
  have g2:=g1.put hm k1 ⟨dx,v,y,n,bd,_,upd_same,(tv.mono (.of S1)).mono k1,c7,c8,.inr rfl⟩
  refine fin _ _ ⟨fun _ _ z=>z,fun a ha _=>?_,(Kt.of S1).trans k1,g2,fun W t ws h1 h2=>⟨ws,?_,Nat.le_refl _⟩⟩ upd_same rfl
  ·have:a≠b:=fun z=>by rw [z,hm] at ha; cases ha
   rw [upd_ne this]
   obtain⟨u,e⟩:=g.has a _ ha
   exact (S1 _ _ e).trans e.symm
  ·have:W≠b:=fun z=>by rw [z,hm] at h1; cases h1
   rw [upd_ne this]
   exact S1 _ _ h2
 ·rcases hs with hs | hs
  ·exact absurd (by rw [hs]; rfl) h
  ·exact fin _ _ (.refl g) hb hs
theorem Oz (O:Own K ao au aG aM aO aL) (gM:mg "len"=none)
  (WY:mg "Word"=some (.ref aG))
  {jf:Addr}{zU:FuncData} (Tg:Mk K aG jf) (P0:FnOk P w K mg base CX0 34 jf zU ["self","tree"] (Vl K ao au aG aM)) (uh:Binds K zU ["self","tree"] [])
  (F:Fun K "word_at" "Text.word_at" jA f fd):FnOk P w K mg base CX0 36 f fd ["self","place"] (Vj K ao au aG aM):=by
 refine okQ F Om (fun vs H Q E h=>?_) (fun cdv A outer s H vs Q E hr h=>?_)
 ·obtain⟨a,t,W,p,M,H₀,ws,rfl,_⟩:=h
  rfl
 obtain⟨a,t,W,p,M,H₀,ws,rfl,g,hm,hW,hpw,ara,hd,hkl,q0,q⟩:=h
 refine⟨_,(aB (cA (bK op_eq (qv 1) (cR call_len_seq rfl gM rm (aj (bW (qv 0) rfl) ak)) (nomark _)) (aF (aQ yp)) bV)
   (aB (cA (bK op_eq (qv 1) (cR call_len_seq rfl gM rm (aj (bW (qv 0) rfl) ak)) (nomark _)) (aF (cX (gK PySem.F.plainAttrs_list PySem.F.slot_list_append PySem.F.type_list_append cU (bW (qv 0) rfl) (aj (jX Tg P0 hr rfl WY uh .nil pass0 (aj (cY dH (bW (qv 0) rfl) (qv 1) (fun _ _=>rfl)) ak)) ak)))) bV)
   (aF (aQ (cY ix_list (bW (qv 0) rfl) (qv 1) (fun _ _=>rfl)))))),?_⟩
 obtain⟨dx,v,ha,tv,hMW⟩:=g.ok a _ hm
 obtain⟨bt,ys,rfl,hbt,hys⟩:=u_ tv
 have hyl:=hys.length
 obtain⟨xs0,hW0,hl0,hit⟩:=g.ok W _ hMW
 have e0:xs0=ws:=by rw [hW] at hW0; cases hW0; rfl
 subst e0
 refine⟨_,rfl,_,rfl,a,aM,dx,_,_,rfl,ha,O.cText,O.tt,fC _ _ _,bt,ys,rfl,.inr hbt,rfl,_,rfl,ite2 (fun h=>?_) (fun h=>?_)⟩
 ·have h:=V.int.inj (of_decide_eq_true h)
  exact q0 (by lia)
 have hpk:p≠t.kids.length:=fun z=>h (decide_eq_true (by rw [z,← hyl]))
 obtain⟨w',ew⟩:∃ w',t.kids[p]?=some w':=⟨_,List.getElem?_eq_getElem (by lia)⟩
 obtain⟨x',ex,tx'⟩:=hys.at ew
 have lw:List.lookup ("words":Str) (fT (.ref bt) W)=some (.ref W):=(cJ (by decide +kernel) _ _).trans (fC _ _ _)
 dsimp only [tNext]
 refine abo (fun σ' H'=>σ'=[some (.ref a),some (.int (p:Int))]∧∃ M' b ws',Go K ao au aG aM (fun _=>False) M M' H₀ H H'∧M' b=some (.word w')∧H' a=some (.ins aM dx (fT (.ref bt) W))∧H' W=some (.lst ws')∧ws'[p]?=some (.ref b)) (fun σ' H6 h6=>?_) (fun A' B' hA hB=>⟨_,rfl,_,rfl,a,aM,dx,_,_,rfl,ha,O.cText,O.tw,lw,W,xs0,rfl,.inl (SqL.of hW),rfl,_,rfl,ite2 (fun h=>hA _ fun N hN=>?_) (fun h=>hB _ ⟨rfl,?_⟩)⟩)
 ·obtain⟨rfl,M',b,ws',G,hb,ha',hW',hb'⟩:=h6
  refine⟨_,rfl,a,aM,dx,_,_,rfl,ha',O.cText,O.tw,lw,_,rfl,W,ws',p,.ref b,rfl,rfl,SqL.of hW',atI_nat hb',q w' ew b M' H6 G hb fun ws2 e2=>?_⟩
  rw [hW'] at e2
  cases e2
  exact (List.getElem?_eq_some_iff.mp hb').1
 ·have hpl:p=xs0.length:=by have:=V.int.inj (of_decide_eq_true h); lia
  have dw':w'.deep≤400:=by have:=afs ew; lia
  refine⟨_,rfl,a,aM,dx,_,_,rfl,ha,O.cText,O.tw,lw,.inl ⟨rfl,_,SqL.of hW⟩,_,rfl,a,aM,dx,_,_,rfl,ha,O.cText,O.tt,fC _ _ _,_,rfl,bt,ys,p,x',rfl,rfl,hbt,atI_nat ex,fun b db hb hdb ne=>?_⟩
  have G1:=Go.made (X:=fun _=>False) (C:=aG) (fs:=[]) g hb hdb ne
  have S1:=jB (C:=aG) (fs:=[]) hb hdb ne
  refine⟨b,db,x',w',setM M b .mine,H₀,rfl,G1.gh,eN,je,tx'.mono (.of S1),dw',fun M' H' v1 y n bd G2 O2 h2 tv2 c7 c8=>⟨rfl,W,xs0,_,rfl,rfl,?_,gF (by lia),?_⟩⟩
  ·exact O2 W _ (S1 _ _ hW) (ne_of_none hW hb)
  have hbM:M' b=some .mine:=G2.ext _ _ eN
  have nbW:W≠b:=ne_of_none hW hb
  have hW2:=O2 W _ (S1 _ _ hW) nbW
  have ha2:=O2 a _ (S1 _ _ ha) (ne_of_none ha hb)
  have aoR:M' W=some (.words t):=G2.ext _ _ (G1.ext _ _ hMW)
  have nba:∀ c r,M c=some r→c≠b:=fun c r hc z=>by
   obtain⟨u,e⟩:=g.has c r hc
   rw [z,hb] at e
   cases e
  have ext':∀ c r,r≠.mine→M' c=some r→setM M' b (.word w') c=some r:=fun c r hr hc=>by
   rw [iI (fun z=>by rw [z,hbM] at hc; cases hc; exact hr rfl)]
   exact hc
  have g3:Gh K ao au aG aM (setM M' b (.word w')) H₀ H':=G2.gh.role (.inr hbM) (G2.gh.new _ _ hbM) ⟨_,h2⟩ ⟨db,v1,y,n,bd,.non,h2,tv2,fun z=>by
   obtain⟨ay,an,e1,e2,⟨W1,e3⟩,W2,e4⟩:=c7 z
   exact⟨ay,an,e1,e2,⟨W1,ext' _ _ (by simp) e3⟩,W2,ext' _ _ (by simp) e4⟩,fun z=>by
   obtain⟨ab,e1,W1,e2⟩:=c8 z
   exact⟨ab,e1,W1,ext' _ _ (by simp) e2⟩,.inl rfl⟩
  have k4:Kt H' (upd H' W (.lst (xs0++[.ref b]))):=Kt.lst hW2
  have g4:=g3.put (ext' _ _ (by simp) aoR) k4 ⟨xs0++[.ref b],upd_same,by rw [List.length_append,List.length_singleton]; lia,fun j z hz=>by
   by_cases hj:j<xs0.length
   ·rw [List.getElem?_append_left hj] at hz
    obtain⟨c,w2,e1,e2,e3⟩:=hit j z hz
    exact⟨c,w2,e1,e2,ext' _ _ (by simp) (G2.ext _ _ (G1.ext _ _ e3))⟩
   ·have hj2:j<(xs0++[V.ref b]).length:=(List.getElem?_eq_some_iff.mp hz).1
    rw [List.length_append,List.length_singleton] at hj2
    have hj3:j=xs0.length:=by lia
    subst hj3
    rw [List.getElem?_append_right (Nat.le_refl _),Nat.sub_self] at hz
    cases hz
    exact⟨b,w',rfl,by rw [← hpl]; exact ew,eN⟩⟩
  refine hN _ _ ⟨rfl,setM M' b (.word w'),b,xs0++[.ref b],⟨fun c r hc=>?_,fun c hc _=>?_,(Kt.of S1).trans (G2.kt.trans k4),g4,fun W' t' ws' e1 e2=>?_⟩,eN,by rw [upd_ne (fun z=>by rw [z,hW] at ha; cases ha)]; exact ha2,upd_same,by rw [hpl]; simp⟩
  ·rw [iI (nba c r hc)]
   exact G2.ext _ _ (G1.ext _ _ hc)
  ·obtain⟨u,e⟩:=g.has c _ hc
   have ncW:c≠W:=fun z=>by rw [z,hMW] at hc; cases hc
   rw [upd_ne ncW,O2 c u (S1 _ _ e) (nba c _ hc)]
   exact e.symm
  ·have e3:=O2 W' _ (S1 _ _ e2) (nba W' _ e1)
   by_cases hWW:W'=W
   ·subst hWW
    rw [hW] at e2
    cases e2
    exact⟨_,upd_same,by rw [List.length_append,List.length_singleton]; lia⟩
   ·exact⟨ws',by rw [upd_ne hWW]; exact e3,Nat.le_refl _⟩
 ·have hpl:p≠xs0.length:=fun z=>h (decide_eq_true (by rw [z]))
  obtain⟨z,ez⟩:∃ z,xs0[p]?=some z:=⟨_,List.getElem?_eq_getElem (by lia)⟩
  obtain⟨b,w2,rfl,e2,e3⟩:=hit p z ez
  rw [ew] at e2
  cases e2
  exact⟨M,b,xs0,.refl g,e3,ha,hW,ez⟩
end
end fH
namespace fH
open PySem PySem.Spec PyProof.Rows L2 Sw
section
variable {P:Program}{w:World}{K:PySem.W.Frag}{mg:Str→Option Value}{base:Heap}{f:Addr}{fd:FuncData}{ao au aG aM aO aL:Addr}
theorem agF (O:Own K ao au aG aM aO aL) {zM:Value} (JD:mg "LAY"=some zM) (zO:RelV (.int 0) zM) {Gf:Value} (Xa:mg "DROP"=some Gf) (GJ:RelV (.int 1) Gf) {o_:Value} (qX:mg "TWIN"=some o_) (oF:RelV (.int 2) o_) {Gb:Value} (W4:mg "SWAP"=some Gb) (GC:RelV (.int 3) Gb) {BL:Value} (Ry:mg "FRONT"=some BL) (Ca:RelV (.int 4) BL) {Gd:Value} (W5:mg "PART"=some Gd) (GD:RelV (.int 5) Gd) {Ga:Value} (W3:mg "TURN"=some Ga) (Gz:RelV (.int 6) Ga)
  {Iz:Addr}{HS:FuncData} (aea:Fun K "rest_of" "rest_of" pI Iz HS) (ad3:FnOk P w K mg base CX0 35 Iz HS ["row"] (Vo K ao au aG aM)) (adQ:Binds K HS ["row"] []) (adn:mg "rest_of"=some (.ref Iz))
  {Ew:Addr}{El:FuncData} (acd:Fun K "first_of" "first_of" ni Ew El) (ab7:FnOk P w K mg base CX0 35 Ew El ["row"] (Tz K ao au aG aM)) (abV:Binds K El ["row"] []) (abg:mg "first_of"=some (.ref Ew))
  (eU:mg "Fronted"=some (.ref ao))
  {gJ:Addr}{vU:FuncData} (Fb:Mk K ao gJ) (Jf:FnOk P w K mg base CX0 34 gJ vU ["self","item","behind"] (Vy ao)) (ql:Binds K vU ["self","item","behind"] [])
  (F:Fun K "work" "work" xY f fd):FnOk P w K mg base CX0 36 f fd ["step","load","stack"] (acD K ao au aG aM):=by
 refine okQ F QH (fun vs H Q E h=>?_) (fun cdv A outer s H vs Q E hr h=>?_)
 ·obtain⟨k,y,S,l,sk,rows,M,H₀,rfl,_⟩:=h
  rfl
 obtain⟨k,y,S,l,sk,rows,M,H₀,rfl,g,hm,hS,hrs,hy,hlk,hb,hkl,q⟩:=h
 refine⟨_,(aF (cA (bK op_eq (qv 0) (bB (v:=.int 0) rfl JD zO) (nomark _)) (aF (cX (gK PySem.F.plainAttrs_list PySem.F.slot_list_append PySem.F.type_list_append cU (qv 2) (aj (qv 1) ak)))) (aF (cA (bK op_eq (qv 0) (bB (v:=.int 1) rfl Xa GJ) (nomark _)) (aF (cX (qU PySem.F.plainAttrs_list PySem.F.slot_list_pop PySem.F.type_list_pop sZ (qv 2)))) (aF (cA (bK op_eq (qv 0) (bB (v:=.int 2) rfl qX oF) (nomark _)) (aF (cX (gK PySem.F.plainAttrs_list PySem.F.slot_list_append PySem.F.type_list_append cU (qv 2) (aj (cY ix_list (qv 2) (zP vD aJ) (fun _ _=>rfl)) ak)))) (aF (cA (bK op_eq (qv 0) (bB (v:=.int 3) rfl W4 GC) (nomark _)) (aF (cX (gK PySem.F.plainAttrs_list PySem.F.slot_list_append PySem.F.type_list_append cU (qv 2) (aj (gK PySem.F.plainAttrs_list PySem.F.slot_list_pop PySem.F.type_list_pop L_ (qv 2) (aj (zP vD aJ) ak)) ak)))) (aF (cA (bK op_eq (qv 0) (bB (v:=.int 4) rfl Ry Ca) (nomark _)) (aB (bU (i:=3) QH.nd rfl (Or.inl rfl) (qU PySem.F.plainAttrs_list PySem.F.slot_list_pop PySem.F.type_list_pop sZ (qv 2)))
   (aF (cX (gK PySem.F.plainAttrs_list PySem.F.slot_list_append PySem.F.type_list_append cU (qv 2) (aj (jX Fb Jf hr rfl eU ql .nil pass0 (aj (qv 3) (aj (qU PySem.F.plainAttrs_list PySem.F.slot_list_pop PySem.F.type_list_pop sZ (qv 2)) ak))) ak))))) (aF (cA (bK op_eq (qv 0) (bB (v:=.int 5) rfl W5 GD) (nomark _)) (aB (bU (i:=4) QH.nd rfl (Or.inl rfl) (qU PySem.F.plainAttrs_list PySem.F.slot_list_pop PySem.F.type_list_pop sZ (qv 2)))
   (aB (cX (gK PySem.F.plainAttrs_list PySem.F.slot_list_append PySem.F.type_list_append cU (qv 2) (aj (aD ad3 hr rfl adn aea.kp adQ .nil pass0 (aj (qv 4) ak)) ak)))
   (aF (cX (gK PySem.F.plainAttrs_list PySem.F.slot_list_append PySem.F.type_list_append cU (qv 2) (aj (aD ab7 hr rfl abg acd.kp abV .nil pass0 (aj (qv 4) ak)) ak)))))) (aF (cA (bK op_eq (qv 0) (bB (v:=.int 6) rfl W3 Gz) (nomark _)) (aF (cX (gK PySem.F.plainAttrs_list PySem.F.slot_list_append PySem.F.type_list_append cU (qv 2) (aj (gK PySem.F.plainAttrs_list PySem.F.slot_list_pop PySem.F.type_list_pop L_ (qv 2) (aj (zP vD aJ) ak)) ak)))) bV)))))))))))))),?_⟩
 have hrl:=hrs.length
 rw [List.length_reverse] at hrl
 have hsl:sk.length≤8000010:=by
  have h1:=hb.2
  rw [T.aK] at h1
  have:=T.cT sk
  lia
 refine⟨_,rfl,rfl,_,rfl,ite2 (fun h=>?_) (fun h0=>?_)⟩
 ·have h:k=0:=by have:=V.int.inj (of_decide_eq_true h); lia
  subst h
  refine⟨_,rfl,.inl ⟨rfl,_,SqL.of hS⟩,_,rfl,S,rows,y,rfl,rfl,hS,gF (by lia),q M _ _ (Go.list g hm hS) upd_same ?_⟩
  show aX _ (l::sk).reverse _
  rw [List.reverse_cons]
  exact aX.append (iB (Kt.lst hS) hrs) (aX.one (.inl (hy.mono (Kt.lst hS))))
 have h0:¬ k=0:=fun z=>h0 (decide_eq_true (by rw [z]; rfl))
 refine⟨_,rfl,rfl,_,rfl,ite2 (fun h=>?_) (fun h1=>?_)⟩
 ·have h:k=1:=by have:=V.int.inj (of_decide_eq_true h); lia
  subst h
  obtain⟨a,sk0,r0,ya,rfl,rfl,h0,ha⟩:=nT hrs (by rintro rfl; have h1:1≤sk.length:=hlk; simp at hrl; lia)
  refine⟨_,rfl,.inl ⟨rfl,_,SqL.of hS⟩,S,_,_,rfl,rfl,hS,mY _ _,?_⟩
  rw [mZ]
  exact q M _ _ (Go.list g hm hS) upd_same (iB (Kt.lst hS) h0)
 have h1:¬ k=1:=fun z=>h1 (decide_eq_true (by rw [z]; rfl))
 refine⟨_,rfl,rfl,_,rfl,ite2 (fun h=>?_) (fun h2=>?_)⟩
 ·have h:k=2:=by have:=V.int.inj (of_decide_eq_true h); lia
  subst h
  obtain⟨a,sk0,r0,ya,rfl,rfl,h0,ha⟩:=nT hrs (by rintro rfl; have h1:1≤sk.length:=hlk; simp at hrl; lia)
  refine⟨_,rfl,.inl ⟨rfl,_,SqL.of hS⟩,_,rfl,1,rfl,S,_,_,_,rfl,rfl,SqL.of hS,Cw,S,_,ya,rfl,rfl,hS,gF (by lia),q M _ _ (Go.list g hm hS) upd_same ?_⟩
  show aX _ (a::a::sk0).reverse _
  rw [List.reverse_cons]
  exact aX.append (iB (Kt.lst hS) hrs) (aX.one (ha.mono (Kt.lst hS) fun _ _ z=>z))
 have h2:¬ k=2:=fun z=>h2 (decide_eq_true (by rw [z]; rfl))
 refine⟨_,rfl,rfl,_,rfl,ite2 (fun h=>?_) (fun h3=>?_)⟩
 ·have h:k=3:=by have:=V.int.inj (of_decide_eq_true h); lia
  subst h
  obtain⟨a,c,sk0,r0,ya,yc,rfl,rfl,h0,ha,hc⟩:=Ir hrs hlk
  refine⟨_,rfl,.inl ⟨rfl,_,SqL.of hS⟩,_,rfl,.inl ⟨rfl,_,SqL.of hS⟩,2,rfl,S,_,-2,_,_,rfl,rfl,hS,by decide,by decide,si2 _ _ _,gt2 _ _ _,?_⟩
  rw [er2]
  refine⟨S,_,yc,rfl,rfl,upd_same,gF (by simp only [List.length_append,List.length_singleton] at hrl ⊢; lia),?_⟩
  rw [lD]
  refine q M _ _ (Go.list g hm hS) upd_same ?_
  have k:=Kt.lst (o:=.lst (r0++[ya]++[yc])) hS
  show aX _ (c::a::sk0).reverse _
  rw [List.reverse_cons,List.reverse_cons]
  exact aX.append (aX.append (iB k h0) (aX.one (ha.mono k fun _ _ z=>z))) (aX.one (hc.mono k fun _ _ z=>z))
 have h3:¬ k=3:=fun z=>h3 (decide_eq_true (by rw [z]; rfl))
 refine⟨_,rfl,rfl,_,rfl,ite2 (fun h=>?_) (fun h4=>?_)⟩
 ·have h:k=4:=by have:=V.int.inj (of_decide_eq_true h); lia
  subst h
  obtain⟨a,c,sk0,r0,ya,yc,rfl,rfl,h0,ha,hc⟩:=Ir hrs hlk
  refine⟨_,rfl,.inl ⟨rfl,_,SqL.of hS⟩,S,_,_,rfl,rfl,hS,mY _ _,?_⟩
  rw [mZ]
  refine⟨_,rfl,.inl ⟨rfl,_,SqL.of upd_same⟩,_,rfl,_,rfl,.inl ⟨rfl,_,SqL.of upd_same⟩,S,_,_,rfl,rfl,upd_same,mY _ _,?_⟩
  rw [mZ,lD]
  have G1:=Go.list (ys:=r0) g hm hS
  have k1:=Kt.lst (o:=.lst r0) hS
  have hS1:upd H S (.lst r0) S=some (.lst r0):=upd_same
  have h01:=iB k1 h0
  have ha1:=ha.mono (M':=M) k1 fun _ _ z=>z
  have hc1:=hc.mono (M':=M) k1 fun _ _ z=>z
  generalize upd H S (.lst r0)=H1 at G1 k1 hS1 h01 ha1 hc1
  refine fun o dx ho hd ne=>⟨o,dx,ya,yc,rfl,je,⟨rfl,S,r0,_,rfl,rfl,?_,gF (by simp only [List.length_append,List.length_singleton] at hrl; lia),?_⟩⟩
  ·rw [upd_ne (ne_of_none hS1 ho)]
   exact jB (C:=ao) (fs:=[]) ho hd ne _ _ hS1
  rw [adi]
  have S2:=jB (C:=ao) (fs:=fF ya yc) ho hd ne
  have nSo:S≠o:=ne_of_none hS1 ho
  have ro:∀ p t,M p=some (.row t)→setM M o (.row (.node (a::c.kids))) p=some (.row t):=fun p t e=>by
   rw [iI (fun z=>by rw [z,G1.gh.fresh ho] at e; cases e)]
   exact e
  have G2:Go K ao au aG aM (fun a=>a=S) M (setM M o (.row (.node (a::c.kids)))) H₀ H1 (mkO H1 o dx ao (fF ya yc)) :=
   Go.role G1.gh S2 ho ⟨_,je⟩ (.inl ⟨dx,ya,yc,a,c.kids,je,rfl,ha1.mono (.of S2) ro,by cases c; exact hc1.mono (.of S2) ro⟩)
  have hS2:=S2 _ _ hS1
  have h02:=h01.imp fun _ _ z=>z.mono (.of S2) ro
  have hm2:setM M o (.row (.node (a::c.kids))) S=some .mine:=by rw [iI nSo]; exact hm
  have hMo:setM M o (.row (.node (a::c.kids))) o=some (.row (.node (a::c.kids))):=eN
  generalize setM M o (.row (.node (a::c.kids)))=M2 at G2 h02 hm2 hMo
  generalize mkO H1 o dx ao (fF ya yc)=H2 at G2 hS2 h02
  refine q M2 _ _ ((G1.trans G2).pU hm2 rfl (Kt.lst hS2)) upd_same ?_
  show aX _ (T.node (a::c.kids)::sk0).reverse _
  rw [List.reverse_cons]
  exact aX.append (iB (Kt.lst hS2) h02) (aX.one (.inr ⟨o,rfl,hMo⟩))
 have h4:¬ k=4:=fun z=>h4 (decide_eq_true (by rw [z]; rfl))
 refine⟨_,rfl,rfl,_,rfl,ite2 (fun h=>?_) (fun h5=>?_)⟩
 ·have h:k=5:=by have:=V.int.inj (of_decide_eq_true h); lia
  subst h
  obtain⟨a,sk0,r0,ya,rfl,rfl,h0,ha⟩:=nT hrs (by rintro rfl; have h1:1≤sk.length:=hlk; simp at hrl; lia)
  have da:a.deep≤400:=by
   have h1:=hb.1
   rw [T.aP,T.aN] at h1
   lia
  have ka:a.kids.length≤8000000:=hkl a (by simp)
  refine⟨_,rfl,.inl ⟨rfl,_,SqL.of hS⟩,S,_,_,rfl,rfl,hS,mY _ _,?_⟩
  rw [mZ]
  have G1:=Go.list (ys:=r0) g hm hS
  have k1:=Kt.lst (o:=.lst r0) hS
  have hS1:upd H S (.lst r0) S=some (.lst r0):=upd_same
  have h01:=iB k1 h0
  have ha1:=ha.mono (M':=M) k1 fun _ _ z=>z
  generalize upd H S (.lst r0)=H1 at G1 k1 hS1 h01 ha1
  refine⟨_,rfl,.inl ⟨rfl,_,SqL.of hS1⟩,_,rfl,ya,a,M,H₀,rfl,G1.gh,ha1,da,ka,fun y2 M2 H2 S2 G2 r2=>?_⟩
  have hS2:=S2 _ _ hS1
  have hm2:=G2.ext _ _ hm
  have h02:=h01.imp fun _ _ z=>G2.rv z
  have ha2:=G2.rv ha1
  have G2':=G1.trans (G2.weak fun _ z=>z.elim)
  refine⟨S,r0,y2,rfl,rfl,hS2,gF (by simp only [List.length_append,List.length_singleton] at hrl; lia),?_⟩
  have G3:=G2'.pU (u:=.lst (r0++[y2])) hm2 rfl (Kt.lst hS2)
  have k3:=Kt.lst (o:=.lst (r0++[y2])) hS2
  have hS3:upd H2 S (.lst (r0++[y2])) S=some (.lst (r0++[y2])):=upd_same
  have h03:=iB k3 h02
  have ha3:=ha2.mono (M':=M2) k3 fun _ _ z=>z
  have r3:=r2.mono (M':=M2) k3 fun _ _ z=>z
  generalize upd H2 S (.lst (r0++[y2]))=H3 at G3 k3 hS3 h03 ha3 r3
  refine⟨_,rfl,.inl ⟨rfl,_,SqL.of hS3⟩,_,rfl,ya,a,M2,H₀,rfl,G3.gh,ha3,da,fun y4 H4 S4 r4=>?_⟩
  have hS4:=S4 _ _ hS3
  refine⟨S,_,y4,rfl,rfl,hS4,gF (by simp only [List.length_append,List.length_singleton] at hrl ⊢; lia),?_⟩
  have G4:=G3.trans (.grow G3.gh S4)
  have k5:=Kt.lst (o:=.lst (r0++[y2]++[y4])) hS4
  refine q M2 _ _ (G4.pU hm2 rfl (Kt.lst hS4)) upd_same ?_
  show aX _ (ats a.kids 0::bL a::sk0).reverse _
  rw [List.reverse_cons,List.reverse_cons]
  exact aX.append (aX.append (iB ((Kt.of S4).trans k5) h03) (aX.one (r3.mono ((Kt.of S4).trans k5) fun _ _ z=>z))) (aX.one (r4.mono k5 fun _ _ z=>z))
 have h5:¬ k=5:=fun z=>h5 (decide_eq_true (by rw [z]; rfl))
 refine⟨_,rfl,rfl,_,rfl,ite2 (fun h=>?_) (fun h6=>?_)⟩
 ·have h:k=6:=by have:=V.int.inj (of_decide_eq_true h); lia
  subst h
  obtain⟨a,c,e,sk0,r0,ya,yc,ye,rfl,rfl,h0,ha,hc,he⟩:=adY hrs hlk
  refine⟨_,rfl,.inl ⟨rfl,_,SqL.of hS⟩,_,rfl,.inl ⟨rfl,_,SqL.of hS⟩,3,rfl,S,_,-3,_,_,rfl,rfl,hS,by decide,by decide,si3 _ _ _ _,gt3 _ _ _ _,?_⟩
  rw [er3]
  refine⟨S,_,ye,rfl,rfl,upd_same,gF (by simp only [List.length_append,List.length_singleton] at hrl ⊢; lia),?_⟩
  rw [lD]
  refine q M _ _ (Go.list g hm hS) upd_same ?_
  have k:=Kt.lst (o:=.lst (r0++[yc]++[ya]++[ye])) hS
  show aX _ (e::a::c::sk0).reverse _
  rw [List.reverse_cons,List.reverse_cons,List.reverse_cons]
  exact aX.append (aX.append (aX.append (iB k h0) (aX.one (hc.mono k fun _ _ z=>z))) (aX.one (ha.mono k fun _ _ z=>z))) (aX.one (he.mono k fun _ _ z=>z))
 have h6:¬ k=6:=fun z=>h6 (decide_eq_true (by rw [z]; rfl))
 refine q M H rows (.refl g) hS ?_
 rw [Qk (show 7≤k by lia)]
 exact hrs
end
end fH
namespace fH
open PySem PySem.Spec PyProof.Rows L2 Sw
section
variable {P:Program}{w:World}{K:PySem.W.Frag}{mg:Str→Option Value}{base:Heap}{f:Addr}{fd:FuncData}{ao au aG aM aO aL:Addr}
theorem Rm (O:Own K ao au aG aM aO aL)
  (F:Fun K "at_end" "Walk.at_end" jW f fd):FnOk P w K mg base CX0 31 f fd ["self"] (QB K ao au aG aM aO aL):=by
 refine okQ F QL (fun vs H Q E h=>?_) (fun cdv A outer s H vs Q E hr h=>?_)
 ·obtain⟨o,M,H₀,tx,sk,num,b,rfl,_⟩:=h
  rfl
 obtain⟨o,M,H₀,tx,sk,num,b,rfl,w',q⟩:=h
 refine⟨_,(aF (aQ (agq (bW (qv 0) rfl)))),?_⟩
 obtain⟨dx,G,S,N,gs,rows,w'⟩:=w'
 have hgl:=w'.gos.length
 rw [List.length_reverse] at hgl
 refine⟨_,rfl,o,aL,dx,_,_,rfl,w'.ob,O.dM,O.kg,lwG,!gs.isEmpty,.inl ⟨gs,SqL.of w'.hG,rfl⟩,?_⟩
 have e:(!(!gs.isEmpty))=decide (tx=[]):=by
  rw [Bool.not_not]
  cases tx with
  | nil =>
   have:gs=[]:=List.length_eq_zero_iff.mp (by simpa using hgl)
   rw [this]
   rfl
  | cons t r =>
   cases gs with
   | nil=>simp at hgl
   | cons _ _=>rfl
 rw [e]
 exact q
theorem Y6 (O:Own K ao au aG aM aO aL)
  (F:Fun K "top" "Walk.top" qx f fd):FnOk P w K mg base CX0 31 f fd ["self"] (aaM K ao au aG aM aO aL):=by
 refine okQ F YL (fun vs H Q E h=>?_) (fun cdv A outer s H vs Q E hr h=>?_)
 ·obtain⟨o,M,H₀,tx,sk,num,b,rfl,_⟩:=h
  rfl
 obtain⟨o,M,H₀,tx,sk,num,b,rfl,w',q⟩:=h
 refine⟨_,(aF (aQ (rG (Ds (bW (qv 0) rfl) (fun _=>rfl)) (cY ix_list (bW (qv 0) rfl) (zP vD aJ) (fun _ _=>rfl)) (aY ak)))),?_⟩
 obtain⟨dx,G,S,N,gs,rows,w'⟩:=w'
 refine⟨_,rfl,o,aL,dx,_,_,rfl,w'.ob,O.dM,O.ks,lwS,!rows.isEmpty,.inl ⟨rows,SqL.of w'.hS,rfl⟩,ite2 (fun h=>?_) (fun h=>?_)⟩
 ·have hne:rows≠[]:=by rintro rfl; exact absurd h (by decide)
  obtain⟨a,sk0,r0,ya,rfl,rfl,h0,ha⟩:=nT w'.sts hne
  exact⟨_,rfl,o,aL,dx,_,_,rfl,w'.ob,O.dM,O.ks,lwS,1,rfl,S,_,_,_,rfl,rfl,SqL.of w'.hS,Cw,q _ _ (Same.refl _) ha⟩
 ·have hr:rows=[]:=by
   cases rows with
   | nil=>rfl
   | cons _ _=>exact absurd rfl h
  subst hr
  have:=all_nil w'.sts
  subst this
  refine⟨Nat.zero_le _,fun p1 g1=>?_⟩
  obtain⟨S1,t1⟩:=cF (K:=K) (ts:=[]) g1 (bO.mpr rfl)
  exact q _ _ S1 (.inl t1)
theorem Us (O:Own K ao au aG aM aO aL) (cV:mg "tuple"=none)
  (F:Fun K "tally" "Walk.tally" lX f fd):FnOk P w K mg base CX0 31 f fd ["self"] (Qy K ao au aG aM aO aL):=by
 refine okQ F Ue (fun vs H Q E h=>?_) (fun cdv A outer s H vs Q E hr h=>?_)
 ·obtain⟨o,M,H₀,tx,sk,num,b,rfl,_⟩:=h
  rfl
 obtain⟨o,M,H₀,tx,sk,num,b,rfl,w',q⟩:=h
 refine⟨_,(aF (aQ (mX ji rfl cV nP (aj (bW (qv 0) rfl) ak)))),?_⟩
 obtain⟨dx,G,S,N,gs,rows,w'⟩:=w'
 exact⟨_,rfl,o,aL,dx,_,_,rfl,w'.ob,O.dM,O.kn,lwN,N,_,rfl,.inl ⟨SqL.of w'.hN,fun l hl=>q _ _ (same_new hl _) (SqT.of upd_same)⟩⟩
end
end fH
namespace fH
open PySem PySem.Spec PyProof.Rows L2 Sw
section
variable {P:Program}{w:World}{K:PySem.W.Frag}{mg:Str→Option Value}{base:Heap}{f:Addr}{fd:FuncData}{ao au aG aM aO aL:Addr}
theorem Lq (O:Own K ao au aG aM aO aL) (nA:mg "reversed"=none) (WW:mg "list"=none) {xR:Value} (Mj:mg "PLACES"=some xR) (yg:RelV (.int 15) xR)
  (sH:mg "Going"=some (.ref aO))
  (vR:mg "Text"=some (.ref aM))
  {dN:Addr}{jO:FuncData} (qp:Mk K aO dN) (jT:FnOk P w K mg base CX0 31 dN jO ["self","text"] (KN aO)) (eV:Binds K jO ["self","text"] [])
  {d7:Addr}{lu:FuncData} (sJ:Mk K aM d7) (lC:FnOk P w K mg base CX0 31 d7 lu ["self","tree"] (KJ aM)) (fM:Binds K lu ["self","tree"] [])
  (F:Fun K "__init__" "Walk.__init__" gZ f fd):FnOk P w K mg base CX0 33 f fd ["self","stand","budget"] (Vk K ao au aG aM aO aL):=by
 refine okQ F K4 (fun vs H Q E h=>?_) (fun cdv A outer s H vs Q E hr h=>?_)
 ·obtain⟨o,dx,x,tx,sk,b,M,H₀,rfl,_⟩:=h
  rfl
 obtain⟨o,dx,x,tx,sk,b,M,H₀,rfl,g,hm,ho,hx,bx,bs,q⟩:=h
 refine⟨_,(aB (fJ (qv 0) (Du rfl (qD (fr:=[]) (js:=[]) (sc:=defScope gZ) rfl rfl rfl (by decide +kernel) (by decide +kernel) (by decide +kernel) (by decide +kernel) (by exact trivial) (by decide +kernel) (fun y hy=>cell_has hy)) (agn rfl nA (cY dH (qv 1) aJ (fun _ _=>rfl))) (fun _ _ _ _ _=>(jX qp jT hr rfl sH eV .nil pass0 (aj (jX sJ lC hr rfl vR fM .nil pass0 (aj (qv 0) ak)) ak)))) rfl)
   (aB (fJ (qv 0) (aaT rfl rfl WW nA rfl (cY dH (qv 1) aJ (fun _ _=>rfl))) rfl)
   (aB (fJ (qv 0) (aU ah4 (qT (aj aJ ak)) (bB (v:=.int 15) rfl Mj yg)) rfl)
   (aF (fJ (qv 0) (qv 2) rfl))))),?_⟩
 obtain⟨ax,xs,rfl,hax,hxs⟩:=cN.mp hx
 obtain⟨x0,r0,rfl,t0,hr⟩:=cI.mp hxs
 obtain⟨x1,r1,rfl,t1,hr1⟩:=cI.mp hr
 obtain⟨a0,ys0,rfl,h0,hy0⟩:=cN.mp t0
 obtain⟨a1,ys1,rfl,h1,hy1⟩:=cN.mp t1
 have l0:=hy0.length
 have l1:=hy1.length
 have hsl:sk.length≤8000000:=by
  have h1:=bs.2
  rw [T.aK] at h1
  have:=T.cT sk
  lia
 refine⟨_,rfl,ax,_,0,_,rfl,rfl,hax,atI_nat (j:=0) rfl,a0,ys0,rfl,h0,agQ (fun D i ys H'=>H D=none∧∃ M',Go K ao au aG aM (fun _=>False) M M' H₀ H H'∧M' D=some .mine∧H' D=some (.lst ys)∧ys.length=i∧aX (qu aO M' H') (tx.reverse.take i) ys∧ys.Nodup) (BW (by have:=bx.1; lia)) (fun D hD=>⟨hD,setM M D .mine,Go.Rt g hD,eN,upd_same,rfl,by rw [List.take_zero]; exact .nil,List.nodup_nil⟩) (fun D i ys H' j=>⟨j.2.choose_spec.2.2.1,j.2.choose_spec.2.2.2.1,cj j.2.choose_spec.1.kt h0⟩) (fun D i x ys H1 R hxi j hR=>?_) (fun D gs H1 j=>?_)⟩
 ·obtain⟨hD,M1,G1,mD,h1D,hyl,hgo,nd⟩:=j
  obtain⟨t,et,ht⟩:=agh hy0 hxi
  have hbt:B 389 8000000 t:=bx.2 t (by have:=List.mem_of_getElem? et; rw [List.mem_reverse] at this; exact this)
  refine⟨_,rfl,fun a da ha hda ne=>⟨a,da,x,rfl,je,fun W hW=>⟨rfl,fun gg dg hg hdg ne2=>⟨gg,dg,a,rfl,je,⟨rfl,?_⟩⟩⟩⟩⟩
  obtain⟨G2,S2,tx2⟩:=Go.newText (X:=fun _=>False) G1.gh (ht.mono G1.kt) ha hda ne hW
  generalize setM (setM M1 W (.words t)) a (.text t W)=M2 at G2 tx2
  generalize upd (upd (mkO H1 a da aM []) W (.lst [])) a (.ins aM da (fT x W))=H2 at G2 S2 hg hdg
  rw [lD,← (show mkO H2 gg dg aO (fG a 0)=upd (upd H2 dg (.own gg)) gg (.ins aO dg (fG a 0)) from rfl)]
  have G3:Go K ao au aG aM (fun _=>False) M2 (setM M2 gg .mine) H₀ H2 (mkO H2 gg dg aO (fG a 0)):=Go.made G2.gh hg hdg ne2
  have S3:=jB (C:=aO) (fs:=fG a 0) hg hdg ne2
  have gn:=qu.new (CG:=aO) G2.gh tx2 hbt hg hdg ne2
  have hD3:=S3 _ _ (S2 _ _ h1D)
  have mD3:=G3.ext _ _ (G2.ext _ _ mD)
  have hnew:(.ref gg:V) ∉ ys:=fun z=>by
   obtain⟨k,hk⟩:=List.mem_iff_getElem?.mp z
   obtain⟨t',_,g',_,_,_,_,_,e,_,h2,_⟩:=hgo.get hk
   cases e
   have:=S2 _ _ h2
   rw [hg] at this
   cases this
  generalize mkO H2 gg dg aO (fG a 0)=H3 at G3 S3 gn hD3
  generalize setM M2 gg .mine=M3 at G3 gn mD3
  have Gl:Go K ao au aG aM (fun c=>c=D) M3 M3 H₀ H3 (upd H3 D (.lst (ys++[.ref gg]))):=.list G3.gh mD3 hD3
  have Gs:Go K ao au aG aM (fun c=>c=D) M1 M3 H₀ H1 (upd H3 D (.lst (ys++[.ref gg]))):=((G2.trans G3).weak fun _ z=>z.elim).trans Gl
  refine hR _ _ hD3 ⟨hD,M3,((G1.trans G2).trans G3).anH mD3 (by rw [g.fresh hD]; simp) (Kt.lst hD3),mD3,upd_same,by rw [List.length_append,hyl]; rfl,?_,?_⟩
  ·rw [aeu et]
   exact aX.append (hgo.imp fun _ _ z=>z.go Gs (z.nl h1D) G1.gh) (aX.one (gn.go Gl (gn.nl hD3) G3.gh))
  ·refine List.nodup_append.mpr ⟨nd,by simp,fun c hc e he=>?_⟩
   rw [List.mem_singleton.mp he]
   exact fun z=>hnew (z ▸ hc)
 obtain⟨hD,M1,G1,mD,h1D,hyl,hgo,nd⟩:=j
 rw [List.take_of_length_le (by rw [List.length_reverse]; lia)] at hgo
 have ho1:H1 o=some (.ins aL dx []):=(G1.mine o hm id).trans ho
 have noD:o≠D:=ne_of_none ho hD
 have kt {u:HO}{Ha:Hp}{fs:List (Str×V)} (h:Ha o=some (.ins aL dx fs)):Kt Ha (upd Ha o u):=Kt.ins h
 refine⟨_,rfl,o,aL,dx,[],rfl,ho1,O.dM,O.kg,by show 0<1000; decide,?_⟩
 rw [pw1]
 have G2:=(G1.weak (Y:=fun c=>c=o) fun _ z=>z.elim).pU (u:=.ins aL dx (w1 D)) (G1.ext _ _ hm) rfl (kt ho1)
 have Gq:Go K ao au aG aM (fun c=>c=o) M1 M1 H₀ H1 (upd H1 o (.ins aL dx (w1 D))):=Go.pU (.refl G1.gh) (G1.ext _ _ hm) rfl (kt ho1)
 have aiG:=hgo.imp fun t x z=>z.go Gq (fun gx e z2=>by
  obtain⟨g',_,_,_,_,_,e',_,h2,_⟩:=z
  rw [e] at e'
  cases e'
  rw [z2,ho1] at h2
  have h3:=(HO.ins.inj (Option.some.inj h2)).2.2
  exact absurd (congrArg List.length h3) (by simp [fG])) G1.gh
 have h2D:upd H1 o (.ins aL dx (w1 D)) D=some (.lst gs):=by rw [upd_ne (Ne.symm noD)]; exact h1D
 have h2o:upd H1 o (.ins aL dx (w1 D)) o=some (.ins aL dx (w1 D)):=upd_same
 generalize upd H1 o (.ins aL dx (w1 D))=H2 at G2 aiG h2D h2o
 have hm1:=G1.ext _ _ hm
 refine⟨_,rfl,ax,_,1,_,rfl,rfl,cj G2.kt hax,atI_nat (j:=1) rfl,a1,ys1,rfl,cj G2.kt h1,fun l hl=>⟨_,rfl,o,aL,dx,w1 D,rfl,?_,O.dM,O.ks,by show 1<1000; decide,?_⟩⟩
 ·rw [upd_ne (ne_of_none h2o hl)]; exact h2o
 rw [pw2]
 have aoF:aX (RV K M1 H2) sk.reverse ys1.reverse:=(Qo (hy1.mono G2.kt)).rev
 have G3a:Go K ao au aG aM (fun c=>c=o) M1 (setM M1 l .mine) H₀ H2 (upd H2 l (.lst ys1.reverse)):=Go.Rt G2.gh hl
 have h3o:upd H2 l (.lst ys1.reverse) o=some (.ins aL dx (w1 D)):=by rw [upd_ne (ne_of_none h2o hl)]; exact h2o
 have h3D:upd H2 l (.lst ys1.reverse) D=some (.lst gs):=by rw [upd_ne (ne_of_none h2D hl)]; exact h2D
 have nDl:D≠l:=ne_of_none h2D hl
 have h3l:upd H2 l (.lst ys1.reverse) l=some (.lst ys1.reverse):=upd_same
 have m3l:setM M1 l .mine l=some .mine:=eN
 generalize upd H2 l (.lst ys1.reverse)=H3 at G3a h3o h3D h3l
 generalize setM M1 l .mine=M3 at G3a m3l
 have hm3:=G3a.ext _ _ hm1
 have G3:=G3a.pU (u:=.ins aL dx (w2 D l)) hm3 rfl (kt h3o)
 have nlo:l≠o:=fun z=>by rw [z,h3o] at h3l; cases h3l
 have nog:∀ {Ma:Mp}{Ha:Hp}{fs:List (Str×V)}{t:T}{x:V},Ha o=some (.ins aL dx fs)→(∀ a p,fs≠fG a p)→qu aO Ma Ha t x→∀ gx,x=.ref gx→¬ gx=o:=fun hh hne z gx e z2=>by
  obtain⟨g',_,_,_,_,_,e',_,h2,_⟩:=z
  rw [e] at e'
  cases e'
  rw [z2,hh] at h2
  exact hne _ _ (HO.ins.inj (Option.some.inj h2)).2.2
 have n1:∀ a p,w1 D≠fG a p:=fun a p z=>absurd (congrArg List.length z) (by simp [fG,w1])
 have aiF:=aiG.imp fun t x z=>z.go G3 (nog h2o n1 z) G2.gh
 have afY:=aoF.imp fun _ _ z=>G3.rv z
 have h4D:upd H3 o (.ins aL dx (w2 D l)) D=some (.lst gs):=by rw [upd_ne (Ne.symm noD)]; exact h3D
 have h4l:upd H3 o (.ins aL dx (w2 D l)) l=some (.lst ys1.reverse):=by rw [upd_ne nlo]; exact h3l
 have h4o:upd H3 o (.ins aL dx (w2 D l)) o=some (.ins aL dx (w2 D l)):=upd_same
 generalize upd H3 o (.ins aL dx (w2 D l))=H4 at G3 aiF afY h4D h4l h4o
 have z63:(2:Int) ^ 63=9223372036854775808:=by decide
 refine⟨(by show 1≤sizeLine; decide),fun p5 g5=>⟨p5,15,[.int 0],rfl,rfl,upd_same,by lia,by lia,(by show 1 * 15≤sizeLine; decide),fun n g6=>?_⟩⟩
 have e0:(List.replicate (15:Int).toNat [V.int 0]).flatten=gU.map nv:=rfl
 rw [e0]
 have S5:=same_new g5 (.lst [V.int 0])
 have G5:Go K ao au aG aM (fun c=>c=o) M3 M3 H₀ H4 (upd H4 p5 (.lst [V.int 0])):=.grow G3.gh S5
 have G6a:Go K ao au aG aM (fun c=>c=o) M3 (setM M3 n .mine) H₀ (upd H4 p5 (.lst [V.int 0])) (upd (upd H4 p5 (.lst [V.int 0])) n (.lst (gU.map nv))):=Go.Rt G5.gh g6
 have S6:=S5.trans (same_new g6 (.lst (gU.map nv)))
 have h6n:upd (upd H4 p5 (.lst [V.int 0])) n (.lst (gU.map nv)) n=some (.lst (gU.map nv)):=upd_same
 have m6n:setM M3 n .mine n=some .mine:=eN
 have n4:H4 n=none:=S5.free g6
 have G6:=G5.trans G6a
 generalize upd (upd H4 p5 (.lst [V.int 0])) n (.lst (gU.map nv))=H6 at G6 G6a S6 h6n
 generalize setM M3 n .mine=M6 at G6 G6a m6n
 have h6o:=S6 _ _ h4o
 refine⟨_,rfl,o,aL,dx,w2 D l,rfl,h6o,O.dM,O.kn,by show 2<1000; decide,?_⟩
 rw [pw3]
 refine⟨_,rfl,_,rfl,o,aL,dx,w3 D l n,rfl,upd_same,O.dM,O.kl,by show 3<1000; decide,?_⟩
 rw [pw4,lD]
 have hm6:=G6.ext _ _ hm3
 have G7:=G6.pU (u:=.ins aL dx (fW D l n b)) hm6 rfl (kt h6o)
 have n2:∀ a p,w2 D l≠fG a p:=fun a p z=>by
  have h1:((Str.ofString "goings",V.ref D):Str×V)=(Str.ofString "text",V.ref a):=(List.cons.inj z).1
  have h2:Str.ofString "goings"=Str.ofString "text":=congrArg Prod.fst h1
  exact absurd h2 (by decide +kernel)
 have aoM:=aiF.imp fun t x z=>z.go G7 (nog h4o n2 z) G3.gh
 have akn:=afY.imp fun _ _ z=>G7.rv z
 have nno:n≠o:=fun z=>by rw [z,h6o] at h6n; cases h6n
 have mD6:=G6.ext _ _ (G3a.ext _ _ mD)
 exact q M6 _ ⟨dx,D,l,n,gs,ys1.reverse,G7.gh,upd_same,hm6,mD6,G6.ext _ _ m3l,m6n,by rw [upd_ne (Ne.symm noD)]; exact S6 _ _ h4D,by rw [upd_ne nlo]; exact S6 _ _ h4l,by rw [upd_ne nno]; exact h6n,aoM,akn,rfl,nDl,ne_of_none h4D n4,ne_of_none h4l n4,nd⟩
end
end fH
namespace fH
open PySem PySem.Spec PyProof.Rows L2 Sw
section
variable {P:Program}{w:World}{K:PySem.W.Frag}{mg:Str→Option Value}{base:Heap}{f:Addr}{fd:FuncData}{ao au aG aM aO aL:Addr}
theorem Wr (O:Own K ao au aG aM aO aL) {vG:Value} (Cm:mg "SHUT"=some vG) (vN:RelV (.int 12) vG) {iU:Value} (mq:mg "WHILE_INTO"=some iU) (iY:RelV (.int 9) iU) {xT:Value} (Ml:mg "BODIES"=some xT) (yh:RelV (.int 14) xT) {j7:Value} (qC:mg "FORK_YES"=some j7) (kO:RelV (.int 7) j7) {mV:Value} (sI:mg "FORK_NO"=some mV) (mW:RelV (.int 8) mV)
  {Ye:Addr}{XJ:FuncData} (ajL:Fun K "work" "work" xY Ye XJ) (ajI:FnOk P w K mg base CX0 36 Ye XJ ["step","load","stack"] (acD K ao au aG aM)) (ajB:Binds K XJ ["step","load","stack"] []) (aiq:mg "work"=some (.ref Ye))
  (sH:mg "Going"=some (.ref aO))
  {iC:Addr}{wK:FuncData} (qM:Meth K aG "body_parts" iC) (Kg:FnOk P w K mg base CX0 36 iC wK ["self"] (ZQ K ao au aG aM)) (qL:Binds K wK ["self"] [])
  {dN:Addr}{jO:FuncData} (qp:Mk K aO dN) (jT:FnOk P w K mg base CX0 35 dN jO ["self","text"] (KN aO)) (eV:Binds K jO ["self","text"] [])
  (F:Fun K "move" "Walk.move" oU f fd):FnOk P w K mg base CX0 37 f fd ["self","step","going","word"] (acE K ao au aG aM aO aL):=by
 refine okQ F VR (fun vs H Q E h=>?_) (fun cdv A outer s H vs Q E hr h=>?_)
 ·obtain⟨o,dx,G,S,N,gs0,g,rows,p,rest,sp,num,b,k,wv,M,H₀,rfl,_⟩:=h
  rfl
 obtain⟨o,dx,G,S,N,gs0,g,rows,p,rest,sp,num,b,k,wv,M,H₀,rfl,w0,hlk,hb,hkl,hrest,h⟩:=h
 refine⟨_,(aB (cA (bK op_eq (qv 1) (bB (v:=.int 12) rfl Cm vN) (nomark _)) (aB (cX (qU PySem.F.plainAttrs_list PySem.F.slot_list_pop PySem.F.type_list_pop sZ (bW (qv 0) rfl)))
   (aF Z2)) bV)
   (aB (cA (bK op_eq (qv 1) (bB (v:=.int 9) rfl mq iY) (nomark _)) (aB (QZ (bW (qv 0) rfl) (bB (v:=.int 14) rfl Ml yh) MK (nu (qv 3) O.gP qM Kg hr qL .nil pass0) Ht set_list)
   (aB (cX (gK PySem.F.plainAttrs_list PySem.F.slot_list_append PySem.F.type_list_append cU (bW (qv 0) rfl) (aj (jX qp jT hr rfl sH eV .nil pass0 (aj (bW (qv 3) rfl) ak)) ak)))
   (aF Z2))) bV)
   (aB (TQ (qv 2) aJ aiy)
   (aF (cA (bK op_eq (qv 1) (bB (v:=.int 7) rfl qC kO) (nomark _)) (aF (cX (gK PySem.F.plainAttrs_list PySem.F.slot_list_append PySem.F.type_list_append cU (bW (qv 0) rfl) (aj (jX qp jT hr rfl sH eV .nil pass0 (aj (bW (qv 3) rfl) ak)) ak)))) (aF (cA (bK op_eq (qv 1) (bB (v:=.int 8) rfl sI mW) (nomark _)) (aF (cX (gK PySem.F.plainAttrs_list PySem.F.slot_list_append PySem.F.type_list_append cU (bW (qv 0) rfl) (aj (jX qp jT hr rfl sH eV .nil pass0 (aj (bW (qv 3) rfl) ak)) ak)))) (aF (cX (aD ajI hr rfl aiq ajL.kp ajB .nil pass0 (aj (qv 1) (aj (bW (qv 3) rfl) (aj (bW (qv 0) rfl) ak))))))))))))),?_⟩
 have hgl:=w0.gos.length
 rw [List.length_reverse,List.length_cons,List.length_append,List.length_singleton] at hgl
 rcases h with⟨rfl,q⟩ | ⟨w',ws,bw,tx',s',mj,rfl,rfl,hbw,rdy,mv,bx',hz,q⟩
 ·refine⟨_,rfl,rfl,_,rfl,ite2 (fun _=>?_) (fun h=>absurd (by decide) h)⟩
  have hgo:=w0.gos
  rw [List.reverse_cons] at hgo
  obtain⟨gs1,y,e1,hg0,_⟩:=aX.snoc hgo
  obtain⟨rfl,_⟩:=List.append_inj' e1 rfl
  refine⟨_,rfl,o,aL,dx,_,_,rfl,w0.ob,O.dM,O.kg,lwG,.inl ⟨rfl,_,SqL.of w0.hG⟩,G,_,_,rfl,rfl,w0.hG,mY _ _,?_⟩
  rw [mZ]
  exact q M _ ⟨dx,G,S,N,gs0,rows,w0.setG hg0 (List.nodup_append.mp w0.nd).1⟩
 have hw:=w0.gh.ok bw _ hbw
 have n12:¬ k=12:=fun z=>by
  rcases mv with⟨h,_⟩ | ⟨h,_⟩ | ⟨h,_⟩ | ⟨h,_⟩ <;> lia
 refine⟨_,rfl,rfl,_,rfl,ite2 (fun h=>absurd (by have:=V.int.inj (of_decide_eq_true h); lia) n12) (fun _=>?_)⟩
 dsimp only [tNext]
 rcases mv with⟨rfl,s8,rfl,rfl,rfl⟩ | mv
 ·refine⟨_,rfl,rfl,_,rfl,ite2 (fun _=>?_) (fun h=>absurd (by decide) h)⟩
  obtain⟨dw,v,y,n,bd,sz,hw1,tv,c7,c8,hs⟩:=hw
  refine⟨_,rfl,o,aL,dx,_,_,rfl,w0.ob,O.dM,O.kn,lwN,N,_,_,_,rfl,rfl,SqL.of w0.hN,abY (k:=14) w0.n15 (by lia),_,rfl,bw,dw,_,rfl,hw1,anJ (by decide +kernel) (by decide +kernel) (by decide +kernel) (by decide +kernel) (by decide +kernel) (by decide +kernel),bw,w',M,H₀,rfl,w0.gh,hbw,hz,fun H1 G1=>⟨_,_,rfl,rfl,N,_,_,14,rfl,rfl,(w0.go G1).hN,RN (j:=14) (by rw [List.length_map,w0.n15]; lia),?_⟩⟩
  rw [QF]
  have w1:=(w0.go G1).aeC (mj:=num.set 14 (num.getD 14 0+(bL w').parts)) (by rw [List.length_set]; exact w0.n15)
  generalize upd H1 N (.lst ((num.set 14 (num.getD 14 0+(bL w').parts)).map nv))=H2 at w1
  obtain⟨dw,v,y,n,bd,sz,hw1,tv,c7,c8,hs⟩:=w1.gh.ok bw _ hbw
  obtain⟨ab,rfl,htx⟩:=c8 s8
  refine⟨_,rfl,o,aL,dx,_,_,rfl,w1.ob,O.dM,O.kg,lwG,.inl ⟨rfl,_,SqL.of w1.hG⟩,_,rfl,bw,aG,dw,_,_,rfl,hw1,O.gP,O.wb,ldB,fun gg dg hg hdg ne=>⟨gg,dg,ab,rfl,je,⟨rfl,G,gs0++[.ref g],_,rfl,rfl,?_,?_,?_⟩⟩⟩
  ·rw [lD]
   exact jB (C:=aO) (fs:=fG ab 0) hg hdg ne _ _ w1.hG
  ·exact gF (by simp only [List.length_append,List.length_singleton]; lia)
  rw [lD,← (show mkO H2 gg dg aO (fG ab 0)=upd (upd H2 dg (.own gg)) gg (.ins aO dg (fG ab 0)) from rfl)]
  obtain⟨k1,k2,k3⟩:=w1.newG htx (bx'.2 _ (by simp)) hg hdg ne
  exact q _ _ ⟨dx,G,S,N,_,rows,k1.push k2 k3⟩
 have n9:¬ k=9:=fun z=>by
  rcases mv with⟨h,_⟩ | ⟨h,_⟩ | ⟨h,_⟩ <;> lia
 refine⟨_,rfl,rfl,_,rfl,ite2 (fun h=>absurd (by have:=V.int.inj (of_decide_eq_true h); lia) n9) (fun _=>?_)⟩
 dsimp only [tNext]
 obtain⟨dg,a,W,j,tt,wl,mg,hg,ma,hW,hj,hdr,hbt⟩:=rdy
 refine⟨_,rfl,g,aO,dg,_,_,rfl,hg,O.Ik,O.gp,lgP,_,_,rfl,rfl,dg,_,hg,by show 2<1000; decide,?_⟩
 rw [show putF "place" (.int ((j:Int)+1)) (fG a j)=fG a (j+1) from pgP (q:=j+1)]
 have w1:=w0.onto mg hg ma hW hj hdr hbt
 generalize upd H g (.ins aO dg (fG a (j+1)))=H1 at w1
 obtain⟨dw,v,y,n,bd,sz,hw1,tv,c7,c8,hs⟩:=w1.gh.ok bw _ hbw
 rcases mv with⟨rfl,s7,rfl,rfl,rfl⟩ | ⟨rfl,s7,rfl,rfl,rfl⟩ | ⟨hk,rfl,rfl,rfl⟩
 ·refine⟨_,rfl,rfl,_,rfl,ite2 (fun _=>?_) (fun h=>absurd (by decide) h)⟩
  obtain⟨ay,an,rfl,rfl,hty,htn⟩:=c7 s7
  refine⟨_,rfl,o,aL,dx,_,_,rfl,w1.ob,O.dM,O.kg,lwG,.inl ⟨rfl,_,SqL.of w1.hG⟩,_,rfl,bw,aG,dw,_,_,rfl,hw1,O.gP,O.wy,ldY,fun gg dg hg hdg ne=>⟨gg,dg,ay,rfl,je,⟨rfl,G,gs0++[.ref g],_,rfl,rfl,?_,?_,?_⟩⟩⟩
  ·rw [lD]
   exact jB (C:=aO) (fs:=fG ay 0) hg hdg ne _ _ w1.hG
  ·exact gF (by simp only [List.length_append,List.length_singleton]; lia)
  rw [lD,← (show mkO H1 gg dg aO (fG ay 0)=upd (upd H1 dg (.own gg)) gg (.ins aO dg (fG ay 0)) from rfl)]
  obtain⟨k1,k2,k3⟩:=w1.newG hty (bx'.2 _ (by simp)) hg hdg ne
  exact q _ _ ⟨dx,G,S,N,_,rows,k1.push k2 k3⟩
 ·refine⟨_,rfl,rfl,_,rfl,ite2 (fun h=>absurd h (by decide)) (fun _=>?_)⟩
  refine⟨_,rfl,rfl,_,rfl,ite2 (fun _=>?_) (fun h=>absurd (by decide) h)⟩
  obtain⟨ay,an,rfl,rfl,hty,htn⟩:=c7 s7
  refine⟨_,rfl,o,aL,dx,_,_,rfl,w1.ob,O.dM,O.kg,lwG,.inl ⟨rfl,_,SqL.of w1.hG⟩,_,rfl,bw,aG,dw,_,_,rfl,hw1,O.gP,O.wn,ldN,fun gg dg hg hdg ne=>⟨gg,dg,an,rfl,je,⟨rfl,G,gs0++[.ref g],_,rfl,rfl,?_,?_,?_⟩⟩⟩
  ·rw [lD]
   exact jB (C:=aO) (fs:=fG an 0) hg hdg ne _ _ w1.hG
  ·exact gF (by simp only [List.length_append,List.length_singleton]; lia)
  rw [lD,← (show mkO H1 gg dg aO (fG an 0)=upd (upd H1 dg (.own gg)) gg (.ins aO dg (fG an 0)) from rfl)]
  obtain⟨k1,k2,k3⟩:=w1.newG htn (bx'.2 _ (by simp)) hg hdg ne
  exact q _ _ ⟨dx,G,S,N,_,rows,k1.push k2 k3⟩
 ·refine⟨_,rfl,rfl,_,rfl,ite2 (fun h=>absurd (show k=7 by have:=V.int.inj (of_decide_eq_true h); lia) (by lia)) (fun _=>?_)⟩
  refine⟨_,rfl,rfl,_,rfl,ite2 (fun h=>absurd (show k=8 by have:=V.int.inj (of_decide_eq_true h); lia) (by lia)) (fun _=>?_)⟩
  exact⟨_,rfl,_,rfl,bw,aG,dw,_,_,rfl,hw1,O.gP,O.wl,ldL,_,rfl,o,aL,dx,_,_,rfl,w1.ob,O.dM,O.ks,lwS,k,v,S,bL w',sp,rows,M,H₀,rfl,w1.gh,w1.mS,w1.hS,w1.sts,tv,hlk,hb,hkl,fun M' H' rows' G' hS' hr'=>q M' H' ⟨dx,G,S,N,_,rows',w1.ahw G' hS' hr'⟩⟩
end
end fH
namespace fH
open PySem PySem.Spec PyProof.Rows L2 Sw
section
variable {P:Program}{w:World}{K:PySem.W.Frag}{mg:Str→Option Value}{base:Heap}{f:Addr}{fd:FuncData}{ao au aG aM aO aL:Addr}
theorem Wq (O:Own K ao au aG aM aO aL) (gM:mg "len"=none) {vG:Value} (Cm:mg "SHUT"=some vG) (vN:RelV (.int 12) vG) {o_:Value} (qX:mg "TWIN"=some o_) (oF:RelV (.int 2) o_) {pA:Value} (rJ:mg "COPIED"=some pA) (nq:RelV (.int 13) pA) {u9:Addr} (Rx:mg "LOOKS"=some (.ref u9)) (Q5:∀ H,SqT K H u9 [.int 0,.int 1,.int 1,.int 2,.int 2,.int 1,.int 3,.int 1,.int 1,.int 1,.int 1,.int 0,.int 0])
  {Eu:Addr}{Ek:FuncData} (ab_:Fun K "place_of" "place_of" j_ Eu Ek) (ab6:FnOk P w K mg base CX0 37 Eu Ek ["sort","top"] (ZL K ao au aG aM)) (abU:Binds K Ek ["sort","top"] []) (abd:mg "place_of"=some (.ref Eu))
  {uX:Addr}{uP:FuncData} (Tr:Fun K "parts_within" "parts_within" iJ uX uP) (Tj:FnOk P w K mg base CX0 37 uX uP ["row","most"] (Vq K ao au aG aM)) (Sx:Binds K uP ["row","most"] []) (Ru:mg "parts_within"=some (.ref uX))
  {jD:Addr}{Cq:FuncData} (vd:Meth K aM "word_at" jD) (Tp:FnOk P w K mg base CX0 37 jD Cq ["self","place"] (Vj K ao au aG aM)) (uV:Binds K Cq ["self","place"] [])
  {jq:Addr}{tY:FuncData} (nZ:Meth K aL "top" jq) (wX:FnOk P w K mg base CX0 37 jq tY ["self"] (aaM K ao au aG aM aO aL)) (nR:Binds K tY ["self"] [])
  {oY:Addr}{Ko:FuncData} (Bv:Meth K aL "move" oY) (Zv:FnOk P w K mg base CX0 37 oY Ko ["self","step","going","word"] (acE K ao au aG aM aO aL)) (Bp:Binds K Ko ["self","step","going","word"] [])
  (F:Fun K "step" "Walk.step" oR f fd):FnOk P w K mg base CX0 38 f fd ["self"] (ZG K ao au aG aM aO aL):=by
 refine okQ F pC (fun vs H Q E h=>?_) (fun cdv A outer s H vs Q E hr h=>?_)
 ·obtain⟨o,M,H₀,tx,sk,num,b,rfl,_⟩:=h
  rfl
 obtain⟨o,M,H₀,tx,sk,num,b,rfl,w0,hne,bx,bs,hnx,qf,qt⟩:=h
 refine⟨_,(aB (bU (i:=1) pC.nd rfl (Or.inl rfl) (cY ix_list (bW (qv 0) rfl) (zP vD aJ) (fun _ _=>rfl)))
   (aB (bU (i:=2) pC.nd rfl (Or.inl rfl) (Z5 (bW (qv 1) rfl) O.cText vd Tp hr uV .nil pass0 (aj (bW (qv 1) rfl) ak)))
   (aB (bU (i:=3) pC.nd rfl (Or.inl rfl) (rG (bK ac3 (qv 2) yp (nomark _)) (bB (v:=.int 12) rfl Cm vN) (aD ab6 hr rfl abd ab_.kp abU .nil pass0 (aj (bW (qv 2) rfl) (aj (nu (qv 0) O.dM nZ wX hr nR .nil pass0) ak)))))
   (aB (bU (i:=4) pC.nd rfl (Or.inl rfl) (rG (bK op_eq (qv 3) (bB (v:=.int 2) rfl qX oF) (nomark _)) (aD Tj hr rfl Ru Tr.kp Sx .nil pass0 (aj (nu (qv 0) O.dM nZ wX hr nR .nil pass0) (aj (bW (qv 0) rfl) ak))) aJ))
   (aB (cA (bK Ov (qv 4) (bW (qv 0) rfl) (nomark _)) (aF (aQ Jx)) bV)
   (aB (TQ (qv 0) (qv 4) aix)
   (aB (QZ (bW (qv 0) rfl) (qv 3) MK aJ Ht set_list)
   (aB (cA (bK op_eq (qv 3) (bB (v:=.int 2) rfl qX oF) (nomark _)) (aF (QZ (bW (qv 0) rfl) (bB (v:=.int 13) rfl rJ nq) MK (qv 4) Ht set_list)) bV)
   (aB (yj PassesOwn.never (bK DG (cR call_len_seq rfl gM rm (aj (bW (qv 0) rfl) ak)) (cY dH (bB (v:=.ref u9) rfl Rx rfl) (qv 3) (fun _ _=>rfl)) (nomark _)) (aF (cX (gK PySem.F.plainAttrs_list PySem.F.slot_list_insert PySem.F.type_list_insert aa9 (bW (qv 0) rfl) (aj aJ (aj (aY ak) ak))))))
   (aB (cX (Z5 (qv 0) O.dM Bv Zv hr Bp .nil pass0 (aj (qv 3) (aj (qv 1) (aj (qv 2) ak)))))
   (aF (aQ Jx)))))))))))),?_⟩
 obtain⟨dx,G,S,N,gs,rows,w0⟩:=w0
 obtain⟨p,rest,rfl⟩:∃ p rest,tx=p::rest:=by
  cases tx with
  | nil=>exact absurd rfl hne
  | cons p rest=>exact⟨p,rest,rfl⟩
 have hgo:=w0.gos
 rw [List.reverse_cons] at hgo
 obtain⟨gs0,y,rfl,hg0,hgp⟩:=aX.snoc hgo
 obtain⟨g,dg,a,W,j,tt,rfl,mg,hg,ma,hjk,⟨wl,hW,hjw⟩,rfl,hbt⟩:=hgp
 have h12:=wZ (tx:=T.node (tt.kids.drop j)::rest) (s:=sk)
 have htl:tt.kids.length≤8000000:=by
  have h1:=hbt.2
  have h2:=T.dI tt
  have h3:=T.cT tt.kids
  lia
 have hsp:T.aq sk≤7999999:=by
  have h1:=bs.2
  rw [T.aK] at h1
  lia
 have hsl:=T.cT sk
 have aq_:rest.length+1≤8000000:=bx.1
 have bt0:=lU bs 0
 refine jl (fun v=>[some (.ref o),some v,none,none,none]) (fun _=>rfl) (fun v H'=>v=.ref g∧H'=H) (fun R r=>⟨_,rfl,o,aL,dx,_,_,rfl,w0.ob,O.dM,O.kg,lwG,1,rfl,G,_,_,_,rfl,rfl,SqL.of w0.hG,Cw,r _ _ ⟨rfl,rfl⟩⟩) (fun v1 H1 h1=>?_)
 obtain⟨rfl,rfl⟩:=h1
 refine jl (fun v=>[some (.ref o),some (.ref g),some v,none,none]) (fun _=>rfl) (fun v H'=>∃ M',WkX K ao au aG aM aO aL M' H₀ H' o dx G S N (gs0++[.ref g]) rows (T.node (tt.kids.drop j)::rest) sk num b∧((v=.non∧tt.kids.drop j=[])∨∃ w' ws' bw,v=.ref bw∧M' bw=some (.word w')∧Rdy aO M' H' g w' ws'∧tt.kids.drop j=w'::ws')) (fun R r=>?_) (fun v2 H2 h2=>?_)
 ·obtain⟨da,va,ha,_,_⟩:=w0.gh.ok a _ ma
  refine⟨_,rfl,g,aO,dg,_,_,rfl,hg,O.Ik,O.gt,lgT,a,da,_,rfl,ha,anI (by decide +kernel) (by decide +kernel),_,rfl,g,aO,dg,_,_,rfl,hg,O.Ik,O.gp,lgP,a,tt,W,j,M,H₀,wl,rfl,w0.gh,ma,hW,hjw,hjk,by have:=hbt.1; lia,htl,fun e=>r _ _ ⟨M,w0,.inl ⟨rfl,by rw [e]; exact List.drop_length⟩⟩,fun w' ew bw M' H' G' hb' hl'=>?_⟩
  obtain⟨_,_,_,_,hMW⟩:=w0.gh.ok a _ ma
  obtain⟨wl',e1,e2⟩:=G'.wds W _ wl hMW hW
  exact r _ _ ⟨M',w0.go G',.inr ⟨w',tt.kids.drop (j+1),bw,rfl,hb',⟨dg,a,W,j,tt,wl',G'.ext _ _ mg,(G'.mine g mg id).trans hg,G'.ext _ _ ma,e1,hl' wl' e1,drop_cons ew,hbt⟩,drop_cons ew⟩⟩
 obtain⟨M2,w2,hv⟩:=h2
 refine jl (fun v=>[some (.ref o),some (.ref g),some v2,some v,none]) (fun _=>rfl) (fun v H'=>v=.int (stepT (T.node (tt.kids.drop j)::rest) sk:Nat)∧Same H2 H') (fun R r=>?_) (fun v3 H3 h3=>?_)
 ·rcases hv with⟨rfl,he⟩ | ⟨w',ws',bw,rfl,hbw,rdy,he⟩
  ·refine⟨_,rfl,rfl,_,rfl,iteT (r _ _ ⟨?_,Same.refl _⟩)⟩
   rw [Vi (show (ats (T.node (tt.kids.drop j)::rest) 0).kids=[] from he)]
   rfl
  ·obtain⟨dw,v,y,n,bd,sz,hw1,tv,c7,c8,hs⟩:=w2.gh.ok bw _ hbw
   refine⟨_,rfl,rfl,_,rfl,iteF ⟨_,rfl,bw,aG,dw,_,_,rfl,hw1,O.gP,O.wk,ldK,_,rfl,o,dx,_,rfl,w2.ob,DX (by decide +kernel) (by decide +kernel) (by decide +kernel) (by decide +kernel),o,M2,H₀,_,_,_,_,rfl,⟨dx,G,S,N,_,_,w2⟩,fun x H3 S3 hx=>⟨_,x,ats sk 0,M2,H₀,rfl,w2.gh.grow S3,hx,by have:=bt0.1; lia,fun H4 S4=>r _ _ ⟨?_,S3.trans S4⟩⟩⟩⟩
   rw [aaL (show (T.node (tt.kids.drop j)).kids=w'::ws' from he)]
 obtain⟨rfl,S3⟩:=h3
 have w3:=w2.grow S3
 have hv3:(v2=.non∧tt.kids.drop j=[])∨∃ w' ws' bw,v2=.ref bw∧M2 bw=some (.word w')∧Rdy aO M2 H3 g w' ws'∧tt.kids.drop j=w'::ws':=by
  rcases hv with hv | ⟨w',ws',bw,e1,e2,e3,e4⟩
  ·exact .inl hv
  ·exact .inr ⟨w',ws',bw,e1,e2,e3.go (.grow w2.gh S3:Go K ao au aG aM (fun _=>False) M2 M2 H₀ H2 H3) id w2.gh,e4⟩
 refine jl (fun v=>[some (.ref o),some (.ref g),some v2,some (.int (stepT (T.node (tt.kids.drop j)::rest) sk:Nat)),some v]) (fun _=>rfl) (fun v H'=>Same H3 H'∧∃ c:Nat,v=.int (c:Int)∧(bM (T.node (tt.kids.drop j)::rest) sk≤b→c=bM (T.node (tt.kids.drop j)::rest) sk)∧(b<bM (T.node (tt.kids.drop j)::rest) sk→b<c)) (fun R r=>?_) (fun v4 H4 h4=>?_)
 ·refine⟨_,rfl,rfl,_,rfl,ite2 (fun h=>?_) (fun h=>?_)⟩
  ·have h2:stepT (T.node (tt.kids.drop j)::rest) sk=2:=by have:=V.int.inj (of_decide_eq_true h); lia
   have hc:bM (T.node (tt.kids.drop j)::rest) sk=(ats sk 0).parts:=by unfold bM; rw [if_pos h2]
   refine⟨_,rfl,o,dx,_,rfl,w3.ob,DX (by decide +kernel) (by decide +kernel) (by decide +kernel) (by decide +kernel),o,M2,H₀,_,_,_,_,rfl,⟨dx,G,S,N,_,_,w3⟩,fun x H4 S4 hx=>⟨_,rfl,o,aL,dx,_,_,rfl,(w3.grow S4).ob,O.dM,O.kl,lwL,x,ats sk 0,M2,H₀,b,rfl,w3.gh.grow S4,hx,by have:=bt0.2; lia,fun c H5 S5 c1 c2=>r _ _ ⟨S4.trans S5,c,rfl,by rw [hc]; exact c1,by rw [hc]; exact c2⟩⟩⟩
  ·have h2:¬ stepT (T.node (tt.kids.drop j)::rest) sk=2:=fun z=>h (decide_eq_true (by rw [z]; rfl))
   have hc:bM (T.node (tt.kids.drop j)::rest) sk=1:=by unfold bM; rw [if_neg h2]
   exact r _ _ ⟨Same.refl _,1,rfl,fun _=>hc.symm,fun z=>by rw [hc] at z; exact z⟩
 obtain⟨S4,c,rfl,c1,c2⟩:=h4
 have w4:=w3.grow S4
 have hv4:(v2=.non∧tt.kids.drop j=[])∨∃ w' ws' bw,v2=.ref bw∧M2 bw=some (.word w')∧Rdy aO M2 H4 g w' ws'∧tt.kids.drop j=w'::ws':=by
  rcases hv3 with hv | ⟨w',ws',bw,e1,e2,e3,e4⟩
  ·exact .inl hv
  ·exact .inr ⟨w',ws',bw,e1,e2,e3.go (.grow w3.gh S4:Go K ao au aG aM (fun _=>False) M2 M2 H₀ H3 H4) id w3.gh,e4⟩
 refine⟨_,rfl,_,rfl,o,aL,dx,_,_,rfl,w4.ob,O.dM,O.kl,lwL,_,_,rfl,rfl,_,rfl,ite2 (fun h=>?_) (fun h=>?_)⟩
 ·have hbc:b<c:=by have:=of_decide_eq_true h; lia
  have hb:b<bM (T.node (tt.kids.drop j)::rest) sk:=by
   rcases Nat.lt_or_ge b (bM (T.node (tt.kids.drop j)::rest) sk) with z | z
   ·exact z
   ·have:=c1 z; lia
  exact qf hb M2 H4 ⟨dx,G,S,N,_,_,w4⟩
 have hcb:c≤b:=by
  have:¬ ((b:Int)<(c:Int)):=fun z=>h (decide_eq_true z)
  lia
 have abt:bM (T.node (tt.kids.drop j)::rest) sk≤b:=by
  rcases Nat.lt_or_ge b (bM (T.node (tt.kids.drop j)::rest) sk) with z | z
  ·have:=c2 z; lia
  ·exact z
 have hc:=c1 abt
 obtain⟨bx2,bs2⟩:=hnx abt
 have q:=qt abt
 have afj:∀ {Ma:Mp}{Ha:Hp}{mj:List Nat}{rows':List V}{s':List T}{b':Nat},WkX K ao au aG aM aO aL Ma H₀ Ha o dx G S N (gs0++[.ref g]) rows' (T.node (tt.kids.drop j)::rest) s' mj b'→qu aO Ma Ha (T.node (tt.kids.drop j)) (.ref g):=fun wa=>by
  have hgo:=wa.gos
  rw [List.reverse_cons] at hgo
  obtain⟨gs1,y,e1,_,hy⟩:=aX.snoc hgo
  have:=(List.append_inj' e1 rfl).2
  cases this
  exact hy
 dsimp only [tNext]
 refine⟨_,rfl,o,aL,dx,_,_,rfl,w4.ob,O.dM,O.kl,lwL,_,rfl,_,_,rfl,rfl,dx,_,w4.ob,by show 4<1000; decide,?_⟩
 rw [show (V.int ((b:Int) - (c:Int)):V)=.int ((b - c:Nat):Int) by congr 1; lia,pwL]
 have w5:=w4.alj (b - c)
 have G5:Go K ao au aG aM (fun a=>a=o) M2 M2 H₀ H4 (upd H4 o (.ins aL dx (fW G S N (b - c)))):=Go.pU (.refl w4.gh) w4.mo rfl (Kt.ins w4.ob)
 have ngo:¬ g=o:=by
  obtain⟨g',_,_,_,_,_,e,_,h2,_⟩:=afj w4
  cases e
  intro z
  rw [z,w4.ob] at h2
  have h3:=(HO.ins.inj (Option.some.inj h2)).2.2
  exact absurd (congrArg List.length h3) (by simp [fG,fW])
 have hv5:(v2=.non∧tt.kids.drop j=[])∨∃ w' ws' bw,v2=.ref bw∧M2 bw=some (.word w')∧Rdy aO M2 (upd H4 o (.ins aL dx (fW G S N (b - c)))) g w' ws'∧tt.kids.drop j=w'::ws':=by
  rcases hv4 with hv | ⟨w',ws',bw,e1,e2,e3,e4⟩
  ·exact .inl hv
  ·exact .inr ⟨w',ws',bw,e1,e2,e3.go G5 ngo w4.gh,e4⟩
 generalize upd H4 o (.ins aL dx (fW G S N (b - c)))=H5 at w5 hv5
 have mgg:M2 g=some .mine:=by
  obtain⟨g',_,_,_,_,_,e,h2,_⟩:=afj w4
  cases e
  exact h2
 have gnl:∀ {Ha:Hp}{mj:List Nat}{rows':List V}{s':List T}{b':Nat}{q:Addr}{l:List V},WkX K ao au aG aM aO aL M2 H₀ Ha o dx G S N (gs0++[.ref g]) rows' (T.node (tt.kids.drop j)::rest) s' mj b'→Ha q=some (.lst l)→¬ g=q:=fun wa hq z=>by
  obtain⟨g',_,_,_,_,_,e,_,h2,_⟩:=afj wa
  cases e
  rw [z,hq] at h2
  cases h2
 generalize hK:stepT (T.node (tt.kids.drop j)::rest) sk=k at *
 refine⟨_,rfl,o,aL,dx,_,_,rfl,w5.ob,O.dM,O.kn,lwN,_,rfl,N,_,_,_,rfl,rfl,SqL.of w5.hN,abY (k:=k) w5.n15 (by lia),_,_,rfl,rfl,N,_,_,k,rfl,rfl,w5.hN,RN (j:=k) (by rw [List.length_map,w5.n15]; lia),?_⟩
 rw [show (V.int ((num.getD k 0:Int)+1):V)=V.int ((num.getD k 0:Int)+((1:Nat):Int)) from rfl,QF]
 have w6:=w5.aeC (mj:=num.set k (num.getD k 0+1)) (by rw [List.length_set]; exact w5.n15)
 have G6:Go K ao au aG aM (fun a=>a=N) M2 M2 H₀ H5 (upd H5 N (.lst ((num.set k (num.getD k 0+1)).map nv))):=.list w5.gh w5.mN w5.hN
 have hv6:(v2=.non∧tt.kids.drop j=[])∨∃ w' ws' bw,v2=.ref bw∧M2 bw=some (.word w')∧Rdy aO M2 (upd H5 N (.lst ((num.set k (num.getD k 0+1)).map nv))) g w' ws'∧tt.kids.drop j=w'::ws':=by
  rcases hv5 with hv | ⟨w',ws',bw,e1,e2,e3,e4⟩
  ·exact .inl hv
  ·exact .inr ⟨w',ws',bw,e1,e2,e3.go G6 (gnl w5 w5.hN) w5.gh,e4⟩
 generalize upd H5 N (.lst ((num.set k (num.getD k 0+1)).map nv))=H6 at w6 hv6
 dsimp only
 refine abo (fun σ' H'=>σ'=[some (.ref o),some (.ref g),some v2,some (.int (k:Int)),some (.int (c:Int))]∧WkX K ao au aG aM aO aL M2 H₀ H' o dx G S N (gs0++[.ref g]) rows (T.node (tt.kids.drop j)::rest) sk (DN k c num) (b - c)∧((v2=.non∧tt.kids.drop j=[])∨∃ w' ws' bw,v2=.ref bw∧M2 bw=some (.word w')∧Rdy aO M2 H' g w' ws'∧tt.kids.drop j=w'::ws')) (fun σ' H7 h7=>?_) (fun A' B' hA hB=>⟨_,rfl,rfl,_,rfl,ite2 (fun h=>hA _ fun N' hN'=>?_) (fun h=>hB _ ⟨rfl,?_,hv6⟩)⟩)
 rotate_left
 ·have h2:k=2:=by have:=V.int.inj (of_decide_eq_true h); lia
  subst h2
  refine⟨_,rfl,o,aL,dx,_,_,rfl,w6.ob,O.dM,O.kn,lwN,N,_,_,_,rfl,rfl,SqL.of w6.hN,abY (k:=13) w6.n15 (by lia),_,rfl,_,_,rfl,rfl,N,_,_,13,rfl,rfl,w6.hN,RN (j:=13) (by rw [List.length_map,w6.n15]; lia),?_⟩
  rw [QF]
  have w7:=w6.aeC (mj:=(num.set 2 (num.getD 2 0+1)).set 13 ((num.set 2 (num.getD 2 0+1)).getD 13 0+c)) (by rw [List.length_set]; exact w6.n15)
  have G7:Go K ao au aG aM (fun a=>a=N) M2 M2 H₀ H6 (upd H6 N (.lst (((num.set 2 (num.getD 2 0+1)).set 13 ((num.set 2 (num.getD 2 0+1)).getD 13 0+c)).map nv))):=.list w6.gh w6.mN w6.hN
  refine hN' _ _ ⟨rfl,by unfold DN; rw [if_pos rfl]; exact w7,?_⟩
  rcases hv6 with hv | ⟨w',ws',bw,e1,e2,e3,e4⟩
  ·exact .inl hv
  ·exact .inr ⟨w',ws',bw,e1,e2,e3.go G7 (gnl w6 w6.hN) w6.gh,e4⟩
 ·have h2:¬ k=2:=fun z=>h (decide_eq_true (by rw [z]; rfl))
  unfold DN
  rw [if_neg h2]
  exact w6
 obtain⟨rfl,w7,hv7⟩:=h7
 have lk3:=ae8 k
 refine⟨fun μ σ H'=>∃ (i:Nat) (rows':List V),σ=[some (.ref o),some (.ref g),some v2,some (.int (k:Int)),some (.int (c:Int))]∧WkX K ao au aG aM aO aL M2 H₀ H' o dx G S N (gs0++[.ref g]) rows' (T.node (tt.kids.drop j)::rest) (sk++List.replicate i leaf) (DN k c num) (b - c)∧((v2=.non∧tt.kids.drop j=[])∨∃ w' ws' bw,v2=.ref bw∧M2 bw=some (.word w')∧Rdy aO M2 H' g w' ws'∧tt.kids.drop j=w'::ws')∧sk.length+i≤max (looks k) sk.length∧μ=3 - i,⟨_,0,rows,rfl,by rw [List.replicate_zero,List.append_nil]; exact w7,hv7,by lia,rfl⟩,?_⟩
 rintro μ σ H8 ⟨i,rows',rfl,w8,hv8,hi,rfl⟩
 have hrl:=w8.sts.length
 rw [List.length_reverse,List.length_append,List.length_replicate] at hrl
 refine⟨_,rfl,o,aL,dx,_,_,rfl,w8.ob,O.dM,O.ks,lwS,S,rows',rfl,.inl (SqL.of w8.hS),_,rfl,u9,_,_,_,rfl,rfl,Q5 _,ae9 h12,_,_,rfl,rfl,_,rfl,ite2 (fun h=>?_) (fun h=>?_)⟩
 ·have hlt:rows'.length<looks k:=by have:=of_decide_eq_true h; lia
  refine⟨fun σ' H'=>∃ m',m'<3 - i∧∃ (i:Nat) (rows':List V),σ'=[some (.ref o),some (.ref g),some v2,some (.int (k:Int)),some (.int (c:Int))]∧WkX K ao au aG aM aO aL M2 H₀ H' o dx G S N (gs0++[.ref g]) rows' (T.node (tt.kids.drop j)::rest) (sk++List.replicate i leaf) (DN k c num) (b - c)∧((v2=.non∧tt.kids.drop j=[])∨∃ w' ws' bw,v2=.ref bw∧M2 bw=some (.word w')∧Rdy aO M2 H' g w' ws'∧tt.kids.drop j=w'::ws')∧sk.length+i≤max (looks k) sk.length∧m'=3 - i,fun _ _ h=>h,?_⟩
  refine⟨_,rfl,o,aL,dx,_,_,rfl,w8.ob,O.dM,O.ks,lwS,.inl ⟨rfl,_,SqL.of w8.hS⟩,Nat.zero_le _,fun p9 g9=>?_⟩
  obtain⟨S9,t9⟩:=cF (K:=K) (ts:=[]) g9 (bO.mpr rfl)
  have w9:=w8.grow S9
  have hS9:=w9.hS
  refine⟨S,rows',_,rfl,rfl,hS9,gF (by lia),?_⟩
  have Gx:Go K ao au aG aM (fun a=>a=S) M2 M2 H₀ (upd H8 p9 (.tup [])) (upd (upd H8 p9 (.tup [])) S (.lst (.ref p9::rows'))):=.list w9.gh w9.mS hS9
  have w10:=w9.ahw (s':=sk++List.replicate (i+1) leaf) Gx upd_same (by
   rw [List.replicate_succ',← List.append_assoc,List.reverse_append]
   exact aX.cons (.inl (t9.mono (Kt.lst hS9))) (w9.sts.imp fun _ _ z=>Gx.rv z))
  refine⟨_,?_,i+1,_,rfl,w10,?_,by lia,rfl⟩
  ·lia
  ·rcases hv8 with hv | ⟨w',ws',bw,e1,e2,e3,e4⟩
   ·exact .inl hv
   ·exact .inr ⟨w',ws',bw,e1,e2,(e3.go (.grow w8.gh S9:Go K ao au aG aM (fun _=>False) M2 M2 H₀ H8 _) id w8.gh).go Gx (gnl w9 hS9) w9.gh,e4⟩
 have hge:looks k≤rows'.length:=by
  have:¬ ((rows'.length:Int)<((looks k:Nat):Int)):=fun z=>h (decide_eq_true z)
  lia
 have aoI:sk++List.replicate i leaf=pad sk (looks k):=ah3 hi (by lia)
 rw [aoI] at w8
 have hpl:looks k≤(pad sk (looks k)).length:=Z8 sk (looks k)
 have hB:=(Qf (looks k) (by lia) (by lia) bs).le (a':=395) (b':=8000010) (by lia) (by lia)
 have hkd:∀ t∈pad sk (looks k),t.kids.length≤8000000:=agD (agV (by lia))
 refine⟨_,rfl,o,dx,_,rfl,w8.ob,DX (by decide +kernel) (by decide +kernel) (by decide +kernel) (by decide +kernel),_,rfl,_,rfl,_,rfl,o,dx,G,S,N,gs0,g,rows',_,rest,pad sk (looks k),DN k c num,b - c,k,v2,M2,H₀,rfl,w8,hpl,hB,hkd,by lia,?_⟩
 rw [← hc] at q
 rcases hv8 with⟨rfl,he⟩ | ⟨w',ws',bw,rfl,hbw,rdy,he⟩
 ·have aiE:k=12:=by rw [← hK]; exact Vi (show (ats (T.node (tt.kids.drop j)::rest) 0).kids=[] from he)
  refine .inl ⟨aiE,fun M' H' wf=>q M' H' ?_⟩
  have on:=ac4 (s:=sk) (show (ats (T.node (tt.kids.drop j)::rest) 0).kids=[] from he)
  rw [on,xH w0.n15 (by rw [hK]; lia),hK,← hc]
  rw [aiE] at wf ⊢
  rw [show pad sk (looks 12)=sk from dD (Nat.zero_le _)] at wf
  exact wf
 ·have mv:=akk (p:=T.node (tt.kids.drop j)) (rest:=rest) (s:=sk) (num:=num) (congrArg T.node he) w0.n15
  rw [hK,← hc] at mv
  have hlp:(bL w').parts≤8000000:=by
   have h1:=hbt.2
   have h2:=T.dI tt
   have h3:=T.Li j tt.kids
   rw [he,T.aA] at h3
   have h4:=abl w'
   lia
  exact .inr ⟨w',ws',bw,_,_,_,congrArg T.node he,rfl,hbw,rdy,mv,bx2,hlp,fun M' H' wf=>q M' H' wf⟩
end
end fH
namespace fH
open PySem PySem.Spec PyProof.Rows L2 Sw
section
variable {P:Program}{w:World}{K:PySem.W.Frag}{mg:Str→Option Value}{base:Heap}{f:Addr}{fd:FuncData}{ao au aG aM aO aL:Addr}
theorem ac5 (O:Own K ao au aG aM aO aL)
  (W0:mg "Walk"=some (.ref aL))
  {jg:Addr}{zV:FuncData} (Ti:Mk K aL jg) (P_:FnOk P w K mg base CX0 37 jg zV ["self","stand","budget"] (Vk K ao au aG aM aO aL)) (um:Binds K zV ["self","stand","budget"] [])
  {oX:Addr}{Km:FuncData} (Bu:Meth K aL "step" oX) (Zu:FnOk P w K mg base CX0 38 oX Km ["self"] (ZG K ao au aG aM aO aL)) (Bo:Binds K Km ["self"] [])
  {gA:Addr}{oK:FuncData} (j5:Meth K aL "at_end" gA) (wJ:FnOk P w K mg base CX0 38 gA oK ["self"] (QB K ao au aG aM aO aL)) (j4:Binds K oK ["self"] [])
  (F:Fun K "walked" "walked" pD f fd):FnOk P w K mg base CX0 39 f fd ["stand","budget"] (KH K ao au aG aM aO aL):=by
 refine okQ F TJ (fun vs H Q E h=>?_) (fun cdv A outer s H vs Q E hr h=>?_)
 ·obtain⟨x,tx,sk,b,rfl,_⟩:=h
  rfl
 obtain⟨x,tx,sk,b,rfl,hx,hsn,q⟩:=h
 refine⟨_,(aB (bU (i:=2) TJ.nd rfl (Or.inl rfl) (jX Ti P_ hr rfl W0 um .nil pass0 (aj (qv 0) (aj (qv 1) ak))))
   (aB (yj PassesOwn.never (QW.pt (Oo (V3 (oG (nu (qv 2) O.dM j5 wJ hr j4 .nil pass0))) (Ju (oG (nu (qv 2) O.dM Bu Zu hr Bo .nil pass0))))) (aF agm))
   (aF (aQ (qv 2))))),?_⟩
 refine jl (fun v=>[some x,some (.int (b:Int)),some v]) (fun _=>rfl) (fun v H'=>∃ o M,v=.ref o∧Wk K ao au aG aM aO aL M H H' o tx sk gU b) (fun R r=>⟨_,rfl,_,rfl,fun o dx ho hd ne=>⟨o,dx,x,tx,sk,b,setM (fun _=>none) o .mine,H,rfl,(Go.made (X:=fun _=>False) (C:=aL) (fs:=[]) (Gh.nil H) ho hd ne).gh,eN,je,hx.mono (.of (jB (C:=aL) (fs:=[]) ho hd ne)),hsn.bx,hsn.bs,fun M' H' wf=>⟨rfl,r _ _ ⟨o,M',rfl,wf⟩⟩⟩⟩) (fun v1 H1 h1=>?_)
 obtain⟨o,M1,rfl,w1⟩:=h1
 refine⟨fun μ σ H'=>∃ (M:Mp) (tx' s':List T) (num:List Nat) (b':Nat),σ=[some x,some (.int (b:Int)),some (.ref o)]∧Wk K ao au aG aM aO aL M H H' o tx' s' num b'∧Sane b' tx' s'∧num.length=15∧goT b tx sk=((goT b' tx' s').1,(goT b' tx' s').2.1,eX num (goT b' tx' s').2.2)∧spT b tx sk+b'=b+spT b' tx' s'∧μ=b'+1,⟨_,M1,tx,sk,gU,b,rfl,w1,hsn,rfl,by rw [adZ (yG _ _ _)],Nat.add_comm _ _,rfl⟩,?_⟩
 rintro μ σ H2 ⟨M,tx',s',num,b',rfl,w2,hs2,hn2,hgo,hsp,rfl⟩
 have stop:(tx'=[]∨b'<bM tx' s')→∀ M' H',Wk K ao au aG aM aO aL M' H H' o tx' s' num b'→Q (.ref o) H':=fun hst M' H' wf=>by
  refine q o M' H' b' ?_
  rw [mC hst,Jp hst] at *
  rw [hgo]
  show Wk _ _ _ _ _ _ _ _ _ _ _ tx' s' (eX num gU) b'
  rw [ab0 hn2]
  exact wf
 refine⟨_,rfl,o,?_⟩
 obtain⟨dx,G,S,N,gs,rows,wx⟩:=id w2
 refine⟨dx,_,rfl,wx.ob,DX (by decide +kernel) (by decide +kernel) (by decide +kernel) (by decide +kernel),o,M,H,tx',s',num,b',rfl,w2,_,rfl,?_⟩
 by_cases he:tx'=[]
 ·rw [decide_eq_true he]
  refine iteF (iteF ⟨_,rfl,stop (.inl he) M H2 w2⟩)
 rw [decide_eq_false he]
 refine iteT ⟨_,rfl,o,dx,_,rfl,wx.ob,DX (by decide +kernel) (by decide +kernel) (by decide +kernel) (by decide +kernel),o,M,H,tx',s',num,b',rfl,w2,he,hs2.bx,hs2.bs,fun hc=>⟨(hs2.next he hc).bx,(hs2.next he hc).bs⟩,fun hc M' H' wf=>⟨_,rfl,iteF ⟨_,rfl,stop (.inr hc) M' H' wf⟩⟩,fun hc M' H' wf=>⟨_,rfl,iteT ?_⟩⟩
 have hcp:=qg tx' s'
 refine⟨fun σ' H''=>σ'=[some x,some (.int (b:Int)),some (.ref o)]∧H''=H',fun σ' H'' h=>⟨b' - bM tx' s'+1,by lia,?_⟩,rfl,rfl⟩
 obtain⟨rfl,rfl⟩:=h
 refine⟨M',_,_,_,_,rfl,wf,hs2.next he hc,Yd hn2 (Hx _ _),?_,?_,rfl⟩
 ·rw [hgo,oW he hc]
  show (_,_,eX num (eX _ _))=(_,_,eX (eX num _) _)
  rw [ab1]
 ·rw [Jq he hc] at hsp
  lia
end
end fH
namespace fH
open PySem PySem.Spec PyProof.Rows L2 Sw
section
variable {P:Program}{w:World}{K:PySem.W.Frag}{mg:Str→Option Value}{base:Heap}{f:Addr}{fd:FuncData}{ao au aG aM aO aL:Addr}
theorem ae3
  (F:Fun K "begin" "begin" sE f fd):FnOk P w K mg base CX0 31 f fd ["text","tree"] (Qz K):=by
 refine okQ F aeG (fun vs H Q E h=>?_) (fun cdv A outer s H vs Q E hr h=>?_)
 ·obtain⟨x,t,y,u,rfl,_⟩:=h
  rfl
 obtain⟨x,t,y,u,rfl,hx,hy,q⟩:=h
 refine⟨_,(aF (aQ (aY (aj (aY (aj (qv 0) ak)) (aj (aY (aj (qv 1) ak)) ak))))),?_⟩
 refine⟨_,rfl,(by show 1≤sizeLine; decide),fun p1 g1=>⟨_,rfl,(by show 1≤sizeLine; decide),fun p2 g2=>⟨(by show 2≤sizeLine; decide),fun p3 g3=>?_⟩⟩⟩
 obtain⟨S1,t1⟩:=cF (K:=K) g1 (gD hx)
 obtain⟨S2,t2⟩:=cF (K:=K) g2 (gD (hy.mono (.of S1)))
 obtain⟨S3,t3⟩:=cF (K:=K) g3 (xU (t1.mono (.of S2)) t2)
 exact q _ _ (S1.trans (S2.trans S3)) t3
theorem ah7 (O:Own K ao au aG aM aO aL)
  {rZ:Addr}{rR:FuncData} (N_:Fun K "walked" "walked" pD rZ rR) (N7:FnOk P w K mg base CX0 39 rZ rR ["stand","budget"] (KH K ao au aG aM aO aL)) (Nv:Binds K rR ["stand","budget"] []) (Mh:mg "walked"=some (.ref rZ))
  {uY:Addr}{uQ:FuncData} (Tt:Fun K "begin" "begin" sE uY uQ) (Tn:FnOk P w K mg base CX0 39 uY uQ ["text","tree"] (Qz K)) (Sy:Binds K uQ ["text","tree"] []) (Rv:mg "begin"=some (.ref uY))
  {zq:Addr}{yN:FuncData} (Qd:Fun K "cost" "cost" vM zq yN) (PX:FnOk P w K mg base CX0 39 zq yN ["tally"] (Vz K)) (Py:Binds K yN ["tally"] []) (Ph:mg "cost"=some (.ref zq))
  {Ja:Addr}{Ia:FuncData} (aef:Fun K "as_tree" "as_tree" pO Ja Ia) (ad8:FnOk P w K mg base CX0 39 Ja Ia ["row"] (VB K ao au aG aM)) (adV:Binds K Ia ["row"] []) (adu:mg "as_tree"=some (.ref Ja))
  {iw:Addr}{qd:FuncData} (mR:Meth K aL "tally" iw) (zF:FnOk P w K mg base CX0 39 iw qd ["self"] (Qy K ao au aG aM aO aL)) (mO:Binds K qd ["self"] [])
  {gA:Addr}{oK:FuncData} (j5:Meth K aL "at_end" gA) (wJ:FnOk P w K mg base CX0 39 gA oK ["self"] (QB K ao au aG aM aO aL)) (j4:Binds K oK ["self"] [])
  {jq:Addr}{tY:FuncData} (nZ:Meth K aL "top" jq) (wX:FnOk P w K mg base CX0 39 jq tY ["self"] (aaM K ao au aG aM aO aL)) (nR:Binds K tY ["self"] [])
  (F:Fun K "run" "run" Dq f fd):FnOk P w K mg base CX0 40 f fd ["text","tree","budget"] (afQ K):=by
 refine okQ F VL (fun vs H Q E h=>?_) (fun cdv A outer s H vs Q E hr h=>?_)
 ·obtain⟨x,y,t,u,b,rfl,_⟩:=h
  rfl
 obtain⟨x,y,t,u,b,rfl,hx,hy,hsn,q⟩:=h
 refine⟨_,(aB (bU (i:=3) VL.nd rfl (Or.inl rfl) (aD N7 hr rfl Mh N_.kp Nv .nil pass0 (aj (aD Tn hr rfl Rv Tt.kp Sy .nil pass0 (aj (qv 0) (aj (qv 1) ak))) (aj (qv 2) ak))))
   (aB (bU (i:=4) VL.nd rfl (Or.inl rfl) (aD PX hr rfl Ph Qd.kp Py .nil pass0 (aj (nu (qv 3) O.dM mR zF hr mO .nil pass0) ak)))
   (aB (cA (oG (nu (qv 3) O.dM j5 wJ hr j4 .nil pass0)) (aF (aQ (aY (aj cW (aj (aD ad8 hr rfl adu aef.kp adV .nil pass0 (aj (nu (qv 3) O.dM nZ wX hr nR .nil pass0) ak)) (aj (qv 4) ak)))))) bV)
   (aF (aQ (aY (aj cW (aj (aY ak) (aj (qv 4) ak))))))))),?_⟩
 refine jl (fun v=>[some x,some y,some (.int (b:Int)),some v,none]) (fun _=>rfl) (fun v H'=>∃ o M b' H0,v=.ref o∧Same H H0∧Wk K ao au aG aM aO aL M H0 H' o (goT b [t] [u]).1 (goT b [t] [u]).2.1 (goT b [t] [u]).2.2 b') (fun R r=>⟨_,rfl,_,rfl,x,t,y,u,rfl,hx,hy,fun z H1 S1 tz=>⟨_,rfl,z,[t],[u],b,rfl,tz,hsn,fun o M' H' b' wf=>r _ _ ⟨o,M',b',H1,rfl,S1,wf⟩⟩⟩) (fun v1 H1 h1=>?_)
 obtain⟨o,M1,b1,H0,rfl,S0,w1⟩:=h1
 obtain⟨dx,G,S,N,gs,rows,wx⟩:=id w1
 obtain⟨bl,sl⟩:=Sane.last b [t] [u] hsn
 have aoS:=yG b [t] [u]
 refine jl (fun v=>[some x,some y,some (.int (b:Int)),some (.ref o),some v]) (fun _=>rfl) (fun v H'=>Same H1 H'∧v=nv (spT b [t] [u])) (fun R r=>⟨_,rfl,o,dx,_,rfl,wx.ob,DX (by decide +kernel) (by decide +kernel) (by decide +kernel) (by decide +kernel),o,M1,H0,_,_,_,_,rfl,w1,fun c H2 S2 hc=>⟨c,_,rfl,hc,aoS,fun H3 S3=>r _ _ ⟨S2.trans S3,by rw [agY]⟩⟩⟩) (fun v2 H2 h2=>?_)
 obtain⟨S2,rfl⟩:=h2
 have w2:=wx.grow S2
 have e1:decide ((goT b [t] [u]).1=[])=true∨decide ((goT b [t] [u]).1=[])=false:=by cases decide ((goT b [t] [u]).1=[]) <;> simp
 refine⟨_,rfl,o,dx,_,rfl,w2.ob,DX (by decide +kernel) (by decide +kernel) (by decide +kernel) (by decide +kernel),o,M1,H0,_,_,_,_,rfl,⟨dx,G,S,N,gs,rows,w2⟩,_,rfl,ite2 (fun he=>?_) (fun he=>?_)⟩
 ·have he:=of_decide_eq_true he
  have hp:(ats (goT b [t] [u]).2.1 0).parts≤8000000:=(lU sl 0).2
  refine⟨_,rfl,o,dx,_,rfl,w2.ob,DX (by decide +kernel) (by decide +kernel) (by decide +kernel) (by decide +kernel),o,M1,H0,_,_,_,_,rfl,⟨dx,G,S,N,gs,rows,w2⟩,fun x3 H3 S3 hx3=>⟨x3,_,M1,H0,rfl,w2.gh.grow S3,hx3,hp,fun y4 H4 S4 t4=>⟨_,rfl,(by show 3≤sizeLine; decide),fun p5 g5=>?_⟩⟩⟩
  have S5:=same_new g5 (.tup [.str (PySem.Str.ofString "told"),y4,nv (spT b [t] [u])])
  refine q p5 y4 _ (S0.trans (wx.gh.same.trans (S2.trans (S3.trans (S4.trans S5))))) (SqT.of (upd_same.trans ?_)) ?_
  ·unfold sO
   rw [if_pos he]
   rfl
  ·unfold zN
   rw [if_pos he]
   exact t4.mono (.of S5)
 ·have he:¬ (goT b [t] [u]).1=[]:=fun z=>he (decide_eq_true z)
  refine⟨Nat.zero_le _,fun p4 g4=>⟨_,rfl,(by show 3≤sizeLine; decide),fun p5 g5=>?_⟩⟩
  obtain⟨S4,t4⟩:=cF (K:=K) (ts:=[]) g4 (bO.mpr rfl)
  have S5:=same_new g5 (.tup [.str (PySem.Str.ofString "out"),.ref p4,nv (spT b [t] [u])])
  refine q p5 (.ref p4) _ (S0.trans (wx.gh.same.trans (S2.trans (S4.trans S5)))) (SqT.of (upd_same.trans ?_)) ?_
  ·unfold sO
   rw [if_neg he]
   rfl
  ·unfold zN
   rw [if_neg he]
   exact t4.mono (.of S5)
theorem YT (O:Own K ao au aG aM aO aL)
  {rZ:Addr}{rR:FuncData} (N_:Fun K "walked" "walked" pD rZ rR) (N7:FnOk P w K mg base CX0 39 rZ rR ["stand","budget"] (KH K ao au aG aM aO aL)) (Nv:Binds K rR ["stand","budget"] []) (Mh:mg "walked"=some (.ref rZ))
  {uY:Addr}{uQ:FuncData} (Tt:Fun K "begin" "begin" sE uY uQ) (Tn:FnOk P w K mg base CX0 39 uY uQ ["text","tree"] (Qz K)) (Sy:Binds K uQ ["text","tree"] []) (Rv:mg "begin"=some (.ref uY))
  {iw:Addr}{qd:FuncData} (mR:Meth K aL "tally" iw) (zF:FnOk P w K mg base CX0 39 iw qd ["self"] (Qy K ao au aG aM aO aL)) (mO:Binds K qd ["self"] [])
  (F:Fun K "tally_of" "tally_of" m_ f fd):FnOk P w K mg base CX0 40 f fd ["text","tree","budget"] (Tw K):=by
 refine okQ F YC (fun vs H Q E h=>?_) (fun cdv A outer s H vs Q E hr h=>?_)
 ·obtain⟨x,y,t,u,b,rfl,_⟩:=h
  rfl
 obtain⟨x,y,t,u,b,rfl,hx,hy,hsn,q⟩:=h
 refine⟨_,(aF (aQ (nu (aD N7 hr rfl Mh N_.kp Nv .nil pass0 (aj (aD Tn hr rfl Rv Tt.kp Sy .nil pass0 (aj (qv 0) (aj (qv 1) ak))) (aj (qv 2) ak))) O.dM mR zF hr mO .nil pass0))),?_⟩
 refine⟨_,rfl,_,rfl,x,t,y,u,rfl,hx,hy,fun z H1 S1 tz=>⟨_,rfl,z,[t],[u],b,rfl,tz,hsn,fun o M' H' b' wf=>?_⟩⟩
 obtain⟨dx,G,S,N,gs,rows,wx⟩:=id wf
 exact⟨o,dx,_,rfl,wx.ob,DX (by decide +kernel) (by decide +kernel) (by decide +kernel) (by decide +kernel),o,M',H1,_,_,_,_,rfl,wf,fun c H2 S2 hc=>q c _ (S1.trans (wx.gh.same.trans S2)) hc⟩
end
end fH
namespace fH
open PySem PySem.Spec PyProof.Rows L2 Sw
section
variable {P:Program}{w:World}{K:PySem.W.Frag}{mg:Str→Option Value}{base:Heap}{f:Addr}{fd:FuncData}
theorem ae2
  (F:Fun K "first" "first" oN f fd):FnOk P w K mg base CX0 31 f fd ["tree"] (Jr K):=by
 refine okQ F aeF (fun vs H Q E h=>?_) (fun cdv A outer s H vs Q E hr h=>?_)
 ·obtain⟨x,t,rfl,_⟩:=h
  rfl
 obtain⟨x,t,rfl,ht,hd,q⟩:=h
 have hE:=hr.un
 have hE:(A.deeper (envOfC "first" (defScope oN) s.heap.objs.size f cdv)).units+401<cLine:=by lia
 refine⟨_,(aB (cA (bK (Rc hE) (qv 0) (aY ak) (nomark _)) (aF (aQ (aY ak))) bV)
   (aF (aQ (cY dH (qv 0) aJ (fun _ _=>rfl))))),?_⟩
 refine⟨_,rfl,Nat.zero_le _,fun p1 g1=>⟨t,leaf,ht.mono (.new g1),Cp upd_same,by lia,_,rfl,ite2 (fun hb=>?_) (fun hb=>?_)⟩⟩
 ·have e:=(T.beq_iff _ _).mp hb
  rw [e] at q
  exact⟨Nat.zero_le _,fun p2 g2=>q _ _ ((same_new g1 _).trans (same_new g2 _)) (Cp upd_same)⟩
 ·cases t with
  | node ts =>
   cases ts with
   | nil=>exact absurd ((T.beq_iff _ _).mpr rfl) hb
   | cons u us=>exact⟨_,rfl,WK (ht.mono (.new g1)) 0 rfl (fun z tz=>q _ _ (same_new g1 _) tz)⟩
theorem agG
  (F:Fun K "rest" "rest" vL f fd):FnOk P w K mg base CX0 31 f fd ["tree"] (Gk K):=by
 refine okQ F agc (fun vs H Q E h=>?_) (fun cdv A outer s H vs Q E hr h=>?_)
 ·obtain⟨x,t,rfl,_⟩:=h
  rfl
 obtain⟨x,t,rfl,ht,q⟩:=h
 refine⟨_,(aF (aQ (uH BZ (qv 0) (xq aJ) xr))),?_⟩
 cases t with
 | node ts=>exact⟨_,rfl,1,rfl,aip ht 1 (fun z H' S tz=>q z H' S tz)⟩
theorem aa0 (abe:mg "min"=none) (gM:mg "len"=none) {j6:Value} (qz:mg "NAMELESS"=some j6) (kJ:RelV (.int 9) j6)
  {mQ:Addr}{mL:FuncData} (CJ:Fun K "first" "first" oN mQ mL) (Cy:FnOk P w K mg base CX0 31 mQ mL ["tree"] (Jr K)) (Cu:Binds K mL ["tree"] []) (Cj:mg "first"=some (.ref mQ))
  (F:Fun K "sort_of" "sort_of" pH f fd):FnOk P w K mg base CX0 32 f fd ["word"] (ZJ K):=by
 refine okQ F aaN (fun vs H Q E h=>?_) (fun cdv A outer s H vs Q E hr h=>?_)
 ·obtain⟨x,t,rfl,_⟩:=h
  rfl
 obtain⟨x,t,rfl,ht,h1,q⟩:=h
 refine⟨_,(aF (aQ (cR (adJ rfl) rfl abe ajy (aj (cR call_len_seq rfl gM rm (aj (aD Cy hr rfl Cj CJ.kp Cu .nil pass0 (aj (qv 0) ak)) ak)) (aj (bB (v:=.int 9) rfl qz kJ) ak))))),?_⟩
 refine⟨_,rfl,x,t,rfl,ht,h1,fun y H1 S1 t1=>?_⟩
 obtain⟨b,ys,rfl,hb',rb⟩:=cN.mp (xM t1)
 refine⟨b,ys,rfl,.inr hb',_,_,rfl,?_⟩
 rw [rb.length,show (if (9:Int)<((ats t.kids 0).kids.length:Int) then (9:Int) else ((ats t.kids 0).kids.length:Int))=((aH t:Nat):Int) by rw [VD]; split <;> lia]
 exact q _ S1
theorem aa3
  {zm:Addr}{yL:FuncData} (Yu:Fun K "rest" "rest" vL zm yL) (Yo:FnOk P w K mg base CX0 31 zm yL ["tree"] (Gk K)) (X7:Binds K yL ["tree"] []) (WR:mg "rest"=some (.ref zm))
  (F:Fun K "load_of" "load_of" pK f fd):FnOk P w K mg base CX0 32 f fd ["word"] (Gk K):=by
 refine okQ F aaP (fun vs H Q E h=>?_) (fun cdv A outer s H vs Q E hr h=>?_)
 ·obtain⟨x,t,rfl,_⟩:=h
  rfl
 obtain⟨x,t,rfl,ht,q⟩:=h
 refine⟨_,(aF (aQ (aD Yo hr rfl WR Yu.kp X7 .nil pass0 (aj (qv 0) ak)))),?_⟩
 exact⟨_,rfl,x,t,rfl,ht,fun y H' S ty=>q _ _ S ty⟩
theorem ah8
  (F:Fun K "lay" "lay" vo f fd):FnOk P w K mg base CX0 31 f fd ["tree"] (Oe K):=by
 refine okQ F ahx (fun vs H Q E h=>?_) (fun cdv A outer s H vs Q E hr h=>?_)
 ·obtain⟨x,t,rfl,_⟩:=h
  rfl
 obtain⟨x,t,rfl,ht,h1,h2,q⟩:=h
 refine⟨_,(aF (aQ (aU aW (aY (aj (aY ak) ak)) (qv 0)))),?_⟩
 have hl:=(show B 400 1000000 t from ⟨h1,h2⟩)
 rw [← gH t] at hl
 have hl:=hl.len
 refine⟨Nat.zero_le _,fun p1 g1=>⟨(by show 1≤sizeLine; decide),fun p2 g2=>?_⟩⟩
 obtain⟨S1,t1⟩:=cF (K:=K) (ts:=[]) g1 (bO.mpr rfl)
 obtain⟨S2,t2⟩:=cF (K:=K) g2 (gD t1)
 exact⟨_,rfl,cB t2 (xM (ht.mono (.of (S1.trans S2)))) (small (by rw [List.length_singleton]; lia)) (fun z H' S tz=>q _ _ (S1.trans (S2.trans S)) tz)⟩
theorem aeY
  (F:Fun K "plain" "plain" uD f fd):FnOk P w K mg base CX0 31 f fd ["sort"] (ZK K):=by
 refine okQ F aeD (fun vs H Q E h=>?_) (fun cdv A outer s H vs Q E hr h=>?_)
 ·obtain⟨n,rfl,_⟩:=h
  rfl
 obtain⟨n,rfl,h1,h6,q⟩:=h
 refine⟨_,(aF (aQ (aY (aj (aU pR (aY (aj (aY ak) ak)) (qv 0)) ak)))),?_⟩
 refine⟨Nat.zero_le _,fun p1 g1=>⟨(by show 1≤sizeLine; decide),fun p2 g2=>?_⟩⟩
 obtain⟨S1,t1⟩:=cF (K:=K) (ts:=[]) g1 (bO.mpr rfl)
 obtain⟨S2,t2⟩:=cF (K:=K) g2 (gD t1)
 refine⟨_,rfl,aio n t2 rfl (by lia) (by lia) (by lia) (fun z H' S tz=>⟨(by show 1≤sizeLine; decide),fun p3 g3=>?_⟩)⟩
 obtain⟨S3,t3⟩:=cF (K:=K) g3 (gD tz)
 exact q _ _ (S1.trans (S2.trans (S.trans S3))) t3
theorem agI {j8:Value} (oH:mg "FORK"=some j8) (kW:RelV (.int 7) j8)
  (F:Fun K "fork" "fork" qP f fd):FnOk P w K mg base CX0 31 f fd ["yes","no"] (Gn K):=by
 refine okQ F agf (fun vs H Q E h=>?_) (fun cdv A outer s H vs Q E hr h=>?_)
 ·obtain⟨x,t,y,u,rfl,_⟩:=h
  rfl
 obtain⟨x,t,y,u,rfl,ht,hu,⟨h1,h2⟩,⟨h3,h4⟩,q⟩:=h
 refine⟨_,(aF (aQ (aU aW (aY (aj (aU pR (aY (aj (aY ak) ak)) (bB (v:=.int 7) rfl oH kW)) (aj (qv 0) ak))) (qv 1)))),?_⟩
 have hl:=(show B 400 1000000 u from ⟨h3,h4⟩)
 rw [← gH u] at hl
 have hl:=hl.len
 refine⟨Nat.zero_le _,fun p1 g1=>⟨(by show 1≤sizeLine; decide),fun p2 g2=>?_⟩⟩
 obtain⟨S1,t1⟩:=cF (K:=K) (ts:=[]) g1 (bO.mpr rfl)
 obtain⟨S2,t2⟩:=cF (K:=K) g2 (gD t1)
 refine afU (k:=7) 7 t2 rfl rfl (by decide) (by decide) (fun z H' S tz=>⟨_,rfl,(by show 2≤sizeLine; decide),fun p3 g3=>?_⟩)
 obtain⟨S3,t3⟩:=cF (K:=K) g3 (xU tz (ht.mono (.of (S1.trans (S2.trans S)))))
 exact⟨_,rfl,cB t3 (xM (hu.mono (.of (S1.trans (S2.trans (S.trans S3)))))) (BW (by show 2+_≤_; lia)) (fun z4 H4 S4 t4=>q _ _ (S1.trans (S2.trans (S.trans (S3.trans S4)))) t4)⟩
theorem agH {d8:Value} (fO:mg "WHILE"=some d8) (eE:RelV (.int 8) d8)
  (F:Fun K "loop" "loop" xZ f fd):FnOk P w K mg base CX0 31 f fd ["body"] (acF K):=by
 refine okQ F agd (fun vs H Q E h=>?_) (fun cdv A outer s H vs Q E hr h=>?_)
 ·obtain⟨x,t,rfl,_⟩:=h
  rfl
 obtain⟨x,t,rfl,ht,h1,h2,q⟩:=h
 refine⟨_,(aF (aQ (aU aW (aY (aj (aU pR (aY (aj (aY ak) ak)) (bB (v:=.int 8) rfl fO eE)) ak)) (qv 0)))),?_⟩
 have hl:=(show B 400 1000000 t from ⟨h1,h2⟩)
 rw [← gH t] at hl
 have hl:=hl.len
 refine⟨Nat.zero_le _,fun p1 g1=>⟨(by show 1≤sizeLine; decide),fun p2 g2=>?_⟩⟩
 obtain⟨S1,t1⟩:=cF (K:=K) (ts:=[]) g1 (bO.mpr rfl)
 obtain⟨S2,t2⟩:=cF (K:=K) g2 (gD t1)
 refine afU (k:=8) 8 t2 rfl rfl (by decide) (by decide) (fun z H' S tz=>⟨(by show 1≤sizeLine; decide),fun p3 g3=>?_⟩)
 obtain⟨S3,t3⟩:=cF (K:=K) g3 (gD tz)
 exact⟨_,rfl,cB t3 (xM (ht.mono (.of (S1.trans (S2.trans (S.trans S3)))))) (small (by show 1+_≤_; lia)) (fun z4 H4 S4 t4=>q _ _ (S1.trans (S2.trans (S.trans (S3.trans S4)))) t4)⟩
theorem aeZ
  (F:Fun K "parts" "parts" uE f fd):FnOk P w K mg base CX0 31 f fd ["tree"] (Vr K):=by
 refine okQ F xW (fun vs H Q E h=>?_) (fun cdv A outer s H vs Q E hr h=>?_)
 ·obtain⟨x,t,rfl,_⟩:=h
  rfl
 obtain⟨x,t,rfl,ht,hz,q⟩:=h
 refine⟨_,(aB (bU (i:=1) xW.nd rfl (Or.inl rfl) (qT (aj (qv 0) ak)))
   (aB (bU (i:=2) xW.nd rfl (Or.inl rfl) aJ)
   (aB (yj PassesOwn.never (Ds (qv 1) (fun _=>rfl)) (aB (bU (i:=3) xW.nd rfl (Or.inl rfl) (qU PySem.F.plainAttrs_list PySem.F.slot_list_pop PySem.F.type_list_pop sZ (qv 1)))
   (aB (acQ (i:=2) xW.nd rfl (Or.inl rfl) aJ Ht)
   (aF (cX (gK PySem.F.plainAttrs_list PySem.F.slot_list_extend PySem.F.type_list_extend aaf (qv 1) (aj (qv 3) ak)))))))
   (aF (aQ (qv 2)))))),?_⟩
 refine⟨_,rfl,(by show 1≤sizeLine; decide),fun p hp=>?_⟩
 refine⟨aas K H x t.parts p,⟨_,[x],[t],0,none,rfl,same_new hp _,upd_same,cI.mpr ⟨x,[],rfl,ht.mono (Kt.new hp),bO.mpr rfl⟩,by rw [T.aA,T.aR]; lia,rfl⟩,?_⟩
 rintro m σ H' ⟨ys,ts,c,o,rfl,S,hl,htr,hc,rfl⟩
 refine⟨_,rfl,!ys.isEmpty,.inl ⟨ys,SqL.of hl,rfl⟩,?_⟩
 refine ite2 (fun hb=>?_) (fun hb=>?_)
 ·have hne:ys≠[]:=by rintro rfl; exact absurd hb (by decide)
  obtain⟨y,hy⟩:=agU hne
  obtain⟨u,hu,hyu⟩:=htr.get hy
  rw [htr.length] at hu
  obtain⟨a,zs,rfl,h1,h2⟩:=JN hyu
  have hpl:=T.Ou hu
  refine⟨fun σ' H'=>∃ m',m'<T.aq ts∧aas K H x t.parts p m' σ' H',fun _ _ h=>h,?_⟩
  refine⟨_,rfl,.inl ⟨rfl,_,SqL.of hl⟩,p,ys,_,rfl,rfl,hl,hy,?_⟩
  refine⟨_,rfl,_,_,rfl,rfl,?_⟩
  have hk:=T.dI u
  have aq5:=T.cT ts.dropLast
  have hlen2:=T.cT u.kids
  have e1:=htr.dropLast.length
  have e2:=h2.length
  refine⟨_,rfl,.inl ⟨rfl,_,SqL.of upd_same⟩,_,rfl,p,a,ys.dropLast,zs,rfl,rfl,upd_same,cj (Kt.lst hl) h1,BW (by lia),?_⟩
  refine⟨_,?_,ys.dropLast++zs,ts.dropLast++u.kids,c+1,_,rfl,?_,upd_same,?_,?_,rfl⟩
  ·rw [T.cL]
   lia
  ·rw [Qm]
   exact dZ S hp
  ·rw [Qm]
   exact (htr.dropLast.append h2).mono (Kt.lst hl)
  ·rw [T.cL]
   lia
 ·have hys:ys=[]:=by
   cases ys with
   | nil=>rfl
   | cons _ _=>exact absurd rfl hb
  subst hys
  have hts:ts=[]:=List.length_eq_zero_iff.mp htr.length.symm
  subst hts
  rw [T.aR] at hc
  refine⟨_,rfl,?_⟩
  have:(c:Int)=(t.parts:Int):=by lia
  rw [this]
  exact q _ S
theorem agJ (JC:mg "sum"=none) {pA:Value} (rJ:mg "COPIED"=some pA) (nq:RelV (.int 13) pA) {o_:Value} (qX:mg "TWIN"=some o_) (oF:RelV (.int 2) o_)
  (F:Fun K "cost" "cost" vM f fd):FnOk P w K mg base CX0 31 f fd ["tally"] (Vz K):=by
 refine okQ F agg (fun vs H Q E h=>?_) (fun cdv A outer s H vs Q E hr h=>?_)
 ·obtain⟨a,ns,rfl,_⟩:=h
  rfl
 obtain⟨a,ns,rfl,ha,hn,q⟩:=h
 refine⟨_,(aF (aQ (aU op_add (aU op_sub (cR (adI rfl) rfl JC adM (aj (uH BZ (qv 0) xr (xq (bB (v:=.int 13) rfl rJ nq))) ak)) (cY dH (qv 0) (bB (v:=.int 2) rfl qX oF) (fun _ _=>rfl))) (cY dH (qv 0) (bB (v:=.int 13) rfl rJ nq) (fun _ _=>rfl))))),?_⟩
 refine⟨_,rfl,13,rfl,a,_,rfl,ha,fun p H1 S1 h1=>?_⟩
 rw [show (some (13:Int))=some ((13:Nat):Int) from rfl,adF,agL] at h1
 have ha1:=cj (.of S1) ha
 refine⟨p,_,rfl,h1,_,rfl,a,_,_,_,rfl,rfl,ha1,afT (k:=2) (by lia),_,_,rfl,rfl,_,rfl,a,_,_,_,rfl,rfl,ha1,afT (k:=13) (by lia),_,_,rfl,rfl,q _ S1⟩
end
end fH
namespace fH
open PySem PySem.Spec PyProof.Rows L2 Sw
theorem all_mk {l:PySem.W.OpenLaw}{w:World}{K:PySem.W.Frag}{h:Heap}{mg:Str→Option Value}{fa f1 f2 f3 f4 f5 f6 f7 f8 f9 f10 f11 f12 f13 f14 f15 f16 f17 f18 f19 f20 f21 f22 f23 f24 f25 f26 f27 f28 f29 f30 f31 f32 f33 f34 f35 f36 f37 f38 f39 f40 f41 f42 f43 f44 f45 f46 f47 f48 f49 f50 f51 f52 f53 f54:Addr} (X:K.In h) (G:h.Ns mainGlobals mg) (hfa:mg "law"=some (.ref fa))  {ao:Addr}{au:Addr}{aG:Addr}{aM:Addr}{aO:Addr}{aL:Addr}{iZ:Addr}{Fw FQ:Option Addr}{Fp:Array (Option Value)}{Fx Fy FJ Ft uz FN:Value}{jK:Addr}{J2 Kd:Option Addr}{JR:Array (Option Value)}{J4 J6 J9 JX wL Ka:Value}{k_:Addr}{Ls Nx:Option Addr}{KQ:Array (Option Value)}{Ly Mv Nb Lb yS Nj:Value}{jk:Addr}{Hf Ip:Option Addr}{Gp:Array (Option Value)}{Hg Hr HF GX vV Ib:Value}{lq:Addr}{Lx Nz:Option Addr}{KY:Array (Option Value)}{LC Mx Ng Le yV Nm:Value}{mF:Addr}{OD Pz:Option Addr}{Oh:Array (Option Value)}{OJ Pj Pn Ot zW Pq:Value}{jL:Addr}{J3 Ke:Option Addr}{JT:Array (Option Value)}{J5 J7 J_ JZ wM Kc:Value}{lg:Addr}{Lw Ny:Option Addr}{KR:Array (Option Value)}{Lz Mw Nf Ld yU Nk:Value}{oJ:Addr}{Rn SJ:Option Addr}{QD:Array (Option Value)}{Ro RM R5 Q9 Cr Sd:Value}{tW:Addr}{Y7 Zk:Option Addr}{YB:Array (Option Value)}{Y8 Zc Ze YS Kq Zf:Value}{pZ:Addr}{Ut UL:Option Addr}{T_:Array (Option Value)}{Uu Uw Ux Uh Fj Uy:Value}{qY:Addr}{Wt Yb:Option Addr}{VG:Array (Option Value)}{Wv Xd XF V8 Ih XR:Value}{qZ:Addr}{Wu Yc:Option Addr}{VH:Array (Option Value)}{Ww Xe XH V9 Ii XS:Value}{mV:Value}{j7:Value}{o9:Value}{iU:Value}{vH:Value}{Gf:Value}{Gb:Value}{BL:Value}{Gd:Value}{Ga:Value}{xR:Value}{vG:Value}{xT:Value}{u9:Addr}{aad:Obj}{qH:Addr}{Jz:Obj}{bE0 bE1 bE2 bE3 bE4 bE5 bE6 bE7 bE8 bE9 afD afC afB afA afz:Addr}{oE0 oE1 oE2 oE3 oE4 oE5 oE6 oE7 oE8 oE9 aii aif aie aic aib:Obj}{j6:Value}{j8:Value}{d8:Value}{zM:Value}{Ge:Value}{iD:Value}{vI:Value}{sS:Value}{lV:Value}{jj:Addr}{Wy:Obj}{qN:Value}{qO:Value}{pA:Value}{o_:Value}{qm:Addr}{Wz:Obj}{vX:Addr}{ade:Obj}
  {od1 an1 od2 an2 od3 an3 od4 an4 od5 an5 od6 an6 od7 an7 od8 an8 od9 an9 amU aq2 amT aq1 amS aq0 amR aqZ amQ aqY amP aqX amO aqW amN aqV amM aqU amL aqT amK aqS amJ aqR amI aqQ amH aqP amG aqO amF aqN amE aqM amD aqL amC aqK amB aqJ amA aqI amy aqH amx aqG amw aqF amv aqE amu aqD amt aqC ams aqB amr aqA amq aqz amo aqy amn aqx amm aqw aml aqv amk aqu amj aqt ami aqs amh aqr amg aqq amf aqp ame aqo amd aqn amc aqm amb aql ama ajD:Option Addr}{sl1 sl2 sl3 sl4 sl5 sl6 sl7 sl8 sl9 alh alg alf ale ald alc alb ala ak_ ak9 ak8 ak7 ak6 ak5 ak4 ak3 ak2 ak1 ak0 akZ akY akX akW akV akU akT akS akR akQ akP akO akN akM akL akK akJ akI akH akG akF akE akD akC akB akA:Array (Option Value)}{oc1 kV1 dc1 pm1 cd1 ct1 oc2 kV2 dc2 pm2 cd2 ct2 oc3 kV3 dc3 pm3 cd3 ct3 oc4 kV4 dc4 pm4 cd4 ct4 oc5 kV5 dc5 pm5 cd5 ct5 oc6 kV6 dc6 pm6 cd6 ct6 oc7 kV7 dc7 pm7 cd7 ct7 oc8 kV8 dc8 pm8 cd8 ct8 oc9 kV9 dc9 pm9 cd9 ct9 anG aoA apB al_ ajw aqk anF aoz apA al9 ajv aqj anE aoy apz al8 aju aqi anD aox apy al7 ajt aqh anC aow apx al6 ajs aqg anB aov apw al5 ajr aqf anA aou apv al4 ajq aqe anz aot apu al3 ajp aqd anx aos apt al2 ajo aqc anw aor aps al1 ajn aqb anv aoq apr al0 ajm aqa anu aop apq alZ ajl ap_ ant aoo apo alY ajk ap9 anr aon apn alX ajj ap8 anq aom apm alW aji ap7 anp aol apl alV ajh ap6 ano aok apk alU ajg ap5 anm aoj apj alT ajf ap4 anl aoi aph alS aje ap3 ank aoh apg alR ajd ap2 anj aog apf alQ ajc ap1 ani aof ape alP ajb ap0 anh aoe apd alO aja apZ ang aod apc alN ai_ apY anf aoc apb alM ai9 apW ane aob apa alL ai8 apV anc aoa ao_ alK ai7 apU anb an_ ao9 alJ ai6 apT ana an0 ao8 alI ai5 apS am_ anZ ao7 alH ai4 apR am9 anY ao6 alG ai3 apQ am8 anW ao5 alF ai2 apP am7 anV ao4 alE ai1 apO am6 anU ao3 alD ai0 apM am5 anT ao2 alC aiZ apL am4 anS ao1 alB aiY apK am3 anR ao0 alA aiX apJ am2 anQ aoZ alz aiW apI am1 anP aoY aly aiV apH am0 anO aoX alx aiU apG amZ anN aoW alw aiT apF amY anM aoV alv aiS apE amX anL aoU alu aiR apD amW anK aoT als aiQ apC amV aiw aiO ahR afu aiP:Value}
  (a1:PySem.W.nsIn K mainGlobals "first"=some (some (.ref f1))) (l1:K.lookup f1=some ⟨oc1,od1,.func (PySem.W.fnOf "first" "first" (defArgs oN) (defBody oN) (defScope oN) .none kV1 dc1 pm1 an1 cd1 ct1),sl1⟩) (c1:PySem.W.codeIn K cd1 "first"=true) (k1:PySem.W.keepIn K (.ref f1)=true)
  (a2:PySem.W.nsIn K mainGlobals "rest"=some (some (.ref f2))) (l2:K.lookup f2=some ⟨oc2,od2,.func (PySem.W.fnOf "rest" "rest" (defArgs vL) (defBody vL) (defScope vL) .none kV2 dc2 pm2 an2 cd2 ct2),sl2⟩) (c2:PySem.W.codeIn K cd2 "rest"=true) (k2:PySem.W.keepIn K (.ref f2)=true)
  (a3:PySem.W.nsIn K mainGlobals "parts"=some (some (.ref f3))) (l3:K.lookup f3=some ⟨oc3,od3,.func (PySem.W.fnOf "parts" "parts" (defArgs uE) (defBody uE) (defScope uE) .none kV3 dc3 pm3 an3 cd3 ct3),sl3⟩) (c3:PySem.W.codeIn K cd3 "parts"=true) (k3:PySem.W.keepIn K (.ref f3)=true)
  (a4:PySem.W.nsIn K mainGlobals "sort_of"=some (some (.ref f4))) (l4:K.lookup f4=some ⟨oc4,od4,.func (PySem.W.fnOf "sort_of" "sort_of" (defArgs pH) (defBody pH) (defScope pH) .none kV4 dc4 pm4 an4 cd4 ct4),sl4⟩) (c4:PySem.W.codeIn K cd4 "sort_of"=true) (k4:PySem.W.keepIn K (.ref f4)=true)
  (a5:PySem.W.nsIn K mainGlobals "load_of"=some (some (.ref f5))) (l5:K.lookup f5=some ⟨oc5,od5,.func (PySem.W.fnOf "load_of" "load_of" (defArgs pK) (defBody pK) (defScope pK) .none kV5 dc5 pm5 an5 cd5 ct5),sl5⟩) (c5:PySem.W.codeIn K cd5 "load_of"=true) (k5:PySem.W.keepIn K (.ref f5)=true)
  (a6:PySem.W.nsIn K mainGlobals "lay"=some (some (.ref f6))) (l6:K.lookup f6=some ⟨oc6,od6,.func (PySem.W.fnOf "lay" "lay" (defArgs vo) (defBody vo) (defScope vo) .none kV6 dc6 pm6 an6 cd6 ct6),sl6⟩) (c6:PySem.W.codeIn K cd6 "lay"=true) (k6:PySem.W.keepIn K (.ref f6)=true)
  (a7:PySem.W.nsIn K mainGlobals "plain"=some (some (.ref f7))) (l7:K.lookup f7=some ⟨oc7,od7,.func (PySem.W.fnOf "plain" "plain" (defArgs uD) (defBody uD) (defScope uD) .none kV7 dc7 pm7 an7 cd7 ct7),sl7⟩) (c7:PySem.W.codeIn K cd7 "plain"=true) (k7:PySem.W.keepIn K (.ref f7)=true)
  (a8:PySem.W.nsIn K mainGlobals "fork"=some (some (.ref f8))) (l8:K.lookup f8=some ⟨oc8,od8,.func (PySem.W.fnOf "fork" "fork" (defArgs qP) (defBody qP) (defScope qP) .none kV8 dc8 pm8 an8 cd8 ct8),sl8⟩) (c8:PySem.W.codeIn K cd8 "fork"=true) (k8:PySem.W.keepIn K (.ref f8)=true)
  (a9:PySem.W.nsIn K mainGlobals "loop"=some (some (.ref f9))) (l9:K.lookup f9=some ⟨oc9,od9,.func (PySem.W.fnOf "loop" "loop" (defArgs xZ) (defBody xZ) (defScope xZ) .none kV9 dc9 pm9 an9 cd9 ct9),sl9⟩) (c9:PySem.W.codeIn K cd9 "loop"=true) (k9:PySem.W.keepIn K (.ref f9)=true)
  (a10:PySem.W.nsIn K mainGlobals "plains"=some (some (.ref f10))) (l10:K.lookup f10=some ⟨anG,amU,.func (PySem.W.fnOf "plains" "plains" (defArgs dG) (defBody dG) (defScope dG) .none aoA apB al_ aq2 ajw aqk),alh⟩) (c10:PySem.W.codeIn K ajw "plains"=true) (k10:PySem.W.keepIn K (.ref f10)=true)
  (a11:PySem.W.nsIn K mainGlobals "selfrunner"=some (some (.ref f11))) (l11:K.lookup f11=some ⟨anF,amT,.func (PySem.W.fnOf "selfrunner" "selfrunner" (defArgs jF) (defBody jF) (defScope jF) .none aoz apA al9 aq1 ajv aqj),alg⟩) (c11:PySem.W.codeIn K ajv "selfrunner"=true) (k11:PySem.W.keepIn K (.ref f11)=true)
  (a12:PySem.W.nsIn K mainGlobals "opening"=some (some (.ref f12))) (l12:K.lookup f12=some ⟨anE,amS,.func (PySem.W.fnOf "opening" "opening" (defArgs pJ) (defBody pJ) (defScope pJ) .none aoy apz al8 aq0 aju aqi),alf⟩) (c12:PySem.W.codeIn K aju "opening"=true) (k12:PySem.W.keepIn K (.ref f12)=true)
  (a13:PySem.W.nsIn K mainGlobals "from_head"=some (some (.ref f13))) (l13:K.lookup f13=some ⟨anD,amR,.func (PySem.W.fnOf "from_head" "from_head" (defArgs lF) (defBody lF) (defScope lF) .none aox apy al7 aqZ ajt aqh),ale⟩) (c13:PySem.W.codeIn K ajt "from_head"=true) (k13:PySem.W.keepIn K (.ref f13)=true)
  (a14:PySem.W.nsIn K mainGlobals "stepped"=some (some (.ref f14))) (l14:K.lookup f14=some ⟨anC,amQ,.func (PySem.W.fnOf "stepped" "stepped" (defArgs pG) (defBody pG) (defScope pG) .none aow apx al6 aqY ajs aqg),ald⟩) (c14:PySem.W.codeIn K ajs "stepped"=true) (k14:PySem.W.keepIn K (.ref f14)=true)
  (a15:PySem.W.nsIn K mainGlobals "by_sort"=some (some (.ref f15))) (l15:K.lookup f15=some ⟨anB,amP,.func (PySem.W.fnOf "by_sort" "by_sort" (defArgs pN) (defBody pN) (defScope pN) .none aov apw al5 aqX ajr aqf),alc⟩) (c15:PySem.W.codeIn K ajr "by_sort"=true) (k15:PySem.W.keepIn K (.ref f15)=true)
  (a16:PySem.W.nsIn K mainGlobals "gone_of"=some (some (.ref f16))) (l16:K.lookup f16=some ⟨anA,amO,.func (PySem.W.fnOf "gone_of" "gone_of" (defArgs pL) (defBody pL) (defScope pL) .none aou apv al4 aqW ajq aqe),alb⟩) (c16:PySem.W.codeIn K ajq "gone_of"=true) (k16:PySem.W.keepIn K (.ref f16)=true)
  (a17:PySem.W.nsIn K mainGlobals "while_gone"=some (some (.ref f17))) (l17:K.lookup f17=some ⟨anz,amN,.func (PySem.W.fnOf "while_gone" "while_gone" (defArgs jE) (defBody jE) (defScope jE) .none aot apu al3 aqV ajp aqd),ala⟩) (c17:PySem.W.codeIn K ajp "while_gone"=true) (k17:PySem.W.keepIn K (.ref f17)=true)
  (a18:PySem.W.nsIn K mainGlobals "nameless_gone"=some (some (.ref f18))) (l18:K.lookup f18=some ⟨anx,amM,.func (PySem.W.fnOf "nameless_gone" "nameless_gone" (defArgs gY) (defBody gY) (defScope gY) .none aos apt al2 aqU ajo aqc),ak_⟩) (c18:PySem.W.codeIn K ajo "nameless_gone"=true) (k18:PySem.W.keepIn K (.ref f18)=true)
  (a19:PySem.W.nsIn K mainGlobals "begin"=some (some (.ref f19))) (l19:K.lookup f19=some ⟨anw,amL,.func (PySem.W.fnOf "begin" "begin" (defArgs sE) (defBody sE) (defScope sE) .none aor aps al1 aqT ajn aqb),ak9⟩) (c19:PySem.W.codeIn K ajn "begin"=true) (k19:PySem.W.keepIn K (.ref f19)=true)
  (a20:PySem.W.nsIn K mainGlobals "place_of"=some (some (.ref f20))) (l20:K.lookup f20=some ⟨anv,amK,.func (PySem.W.fnOf "place_of" "place_of" (defArgs j_) (defBody j_) (defScope j_) .none aoq apr al0 aqS ajm aqa),ak8⟩) (c20:PySem.W.codeIn K ajm "place_of"=true) (k20:PySem.W.keepIn K (.ref f20)=true)
  (a21:PySem.W.nsIn K mainGlobals "cost"=some (some (.ref f21))) (l21:K.lookup f21=some ⟨anu,amJ,.func (PySem.W.fnOf "cost" "cost" (defArgs vM) (defBody vM) (defScope vM) .none aop apq alZ aqR ajl ap_),ak7⟩) (c21:PySem.W.codeIn K ajl "cost"=true) (k21:PySem.W.keepIn K (.ref f21)=true)
  (a22:PySem.W.nsIn K mainGlobals "added"=some (some (.ref f22))) (l22:K.lookup f22=some ⟨ant,amI,.func (PySem.W.fnOf "added" "added" (defArgs sG) (defBody sG) (defScope sG) .none aoo apo alY aqQ ajk ap9),ak6⟩) (c22:PySem.W.codeIn K ajk "added"=true) (k22:PySem.W.keepIn K (.ref f22)=true)
  (a23:PySem.W.nsIn K mainGlobals "turned"=some (some (.ref f23))) (l23:K.lookup f23=some ⟨anr,amH,.func (PySem.W.fnOf "turned" "turned" (defArgs pF) (defBody pF) (defScope pF) .none aon apn alX aqP ajj ap8),ak5⟩) (c23:PySem.W.codeIn K ajj "turned"=true) (k23:PySem.W.keepIn K (.ref f23)=true)
  (a24:PySem.W.nsIn K mainGlobals "lay_made"=some (some (.ref f24))) (l24:K.lookup f24=some ⟨anq,amG,.func (PySem.W.fnOf "lay_made" "lay_made" (defArgs jm) (defBody jm) (defScope jm) .none aom apm alW aqO aji ap7),ak4⟩) (c24:PySem.W.codeIn K aji "lay_made"=true) (k24:PySem.W.keepIn K (.ref f24)=true)
  (a25:PySem.W.nsIn K mainGlobals "both_run"=some (some (.ref f25))) (l25:K.lookup f25=some ⟨anp,amF,.func (PySem.W.fnOf "both_run" "both_run" (defArgs nj) (defBody nj) (defScope nj) .none aol apl alV aqN ajh ap6),ak3⟩) (c25:PySem.W.codeIn K ajh "both_run"=true) (k25:PySem.W.keepIn K (.ref f25)=true)
  (a26:PySem.W.nsIn K mainGlobals "knots"=some (some (.ref f26))) (l26:K.lookup f26=some ⟨ano,amE,.func (PySem.W.fnOf "knots" "knots" (defArgs uG) (defBody uG) (defScope uG) .none aok apk alU aqM ajg ap5),ak2⟩) (c26:PySem.W.codeIn K ajg "knots"=true) (k26:PySem.W.keepIn K (.ref f26)=true)
  (a27:PySem.W.nsIn K mainGlobals "paired"=some (some (.ref f27))) (l27:K.lookup f27=some ⟨anm,amD,.func (PySem.W.fnOf "paired" "paired" (defArgs rE) (defBody rE) (defScope rE) .none aoj apj alT aqL ajf ap4),ak1⟩) (c27:PySem.W.codeIn K ajf "paired"=true) (k27:PySem.W.keepIn K (.ref f27)=true)
  (a28:PySem.W.nsIn K mainGlobals "both_made"=some (some (.ref f28))) (l28:K.lookup f28=some ⟨anl,amC,.func (PySem.W.fnOf "both_made" "both_made" (defArgs lG) (defBody lG) (defScope lG) .none aoi aph alS aqK aje ap3),ak0⟩) (c28:PySem.W.codeIn K aje "both_made"=true) (k28:PySem.W.keepIn K (.ref f28)=true)
  (a29:PySem.W.nsIn K mainGlobals "first_made"=some (some (.ref f29))) (l29:K.lookup f29=some ⟨ank,amB,.func (PySem.W.fnOf "first_made" "first_made" (defArgs jG) (defBody jG) (defScope jG) .none aoh apg alR aqJ ajd ap2),akZ⟩) (c29:PySem.W.codeIn K ajd "first_made"=true) (k29:PySem.W.keepIn K (.ref f29)=true)
  (a30:PySem.W.nsIn K mainGlobals "second_made"=some (some (.ref f30))) (l30:K.lookup f30=some ⟨anj,amA,.func (PySem.W.fnOf "second_made" "second_made" (defArgs jh) (defBody jh) (defScope jh) .none aog apf alQ aqI ajc ap1),akY⟩) (c30:PySem.W.codeIn K ajc "second_made"=true) (k30:PySem.W.keepIn K (.ref f30)=true)
  (a31:PySem.W.nsIn K mainGlobals "pair_ended"=some (some (.ref f31))) (l31:K.lookup f31=some ⟨ani,amy,.func (PySem.W.fnOf "pair_ended" "pair_ended" (defArgs iV) (defBody iV) (defScope iV) .none aof ape alP aqH ajb ap0),akX⟩) (c31:PySem.W.codeIn K ajb "pair_ended"=true) (k31:PySem.W.keepIn K (.ref f31)=true)
  (a32:PySem.W.nsIn K mainGlobals "first_of"=some (some (.ref f32))) (l32:K.lookup f32=some ⟨anh,amx,.func (PySem.W.fnOf "first_of" "first_of" (defArgs ni) (defBody ni) (defScope ni) .none aoe apd alO aqG aja apZ),akW⟩) (c32:PySem.W.codeIn K aja "first_of"=true) (k32:PySem.W.keepIn K (.ref f32)=true)
  (a33:PySem.W.nsIn K mainGlobals "rest_of"=some (some (.ref f33))) (l33:K.lookup f33=some ⟨ang,amw,.func (PySem.W.fnOf "rest_of" "rest_of" (defArgs pI) (defBody pI) (defScope pI) .none aod apc alN aqF ai_ apY),akV⟩) (c33:PySem.W.codeIn K ai_ "rest_of"=true) (k33:PySem.W.keepIn K (.ref f33)=true)
  (a34:PySem.W.nsIn K mainGlobals "later"=some (some (.ref f34))) (l34:K.lookup f34=some ⟨anf,amv,.func (PySem.W.fnOf "later" "later" (defArgs uF) (defBody uF) (defScope uF) .none aoc apb alM aqE ai9 apW),akU⟩) (c34:PySem.W.codeIn K ai9 "later"=true) (k34:PySem.W.keepIn K (.ref f34)=true)
  (a35:PySem.W.nsIn K mainGlobals "unfronted"=some (some (.ref f35))) (l35:K.lookup f35=some ⟨ane,amu,.func (PySem.W.fnOf "unfronted" "unfronted" (defArgs jr) (defBody jr) (defScope jr) .none aob apa alL aqD ai8 apV),akT⟩) (c35:PySem.W.codeIn K ai8 "unfronted"=true) (k35:PySem.W.keepIn K (.ref f35)=true)
  (a36:PySem.W.nsIn K mainGlobals "parts_within"=some (some (.ref f36))) (l36:K.lookup f36=some ⟨anc,amt,.func (PySem.W.fnOf "parts_within" "parts_within" (defArgs iJ) (defBody iJ) (defScope iJ) .none aoa ao_ alK aqC ai7 apU),akS⟩) (c36:PySem.W.codeIn K ai7 "parts_within"=true) (k36:PySem.W.keepIn K (.ref f36)=true)
  (a37:PySem.W.nsIn K mainGlobals "as_tree"=some (some (.ref f37))) (l37:K.lookup f37=some ⟨anb,ams,.func (PySem.W.fnOf "as_tree" "as_tree" (defArgs pO) (defBody pO) (defScope pO) .none an_ ao9 alJ aqB ai6 apT),akR⟩) (c37:PySem.W.codeIn K ai6 "as_tree"=true) (k37:PySem.W.keepIn K (.ref f37)=true)
  (a38:PySem.W.nsIn K mainGlobals "run"=some (some (.ref f38))) (l38:K.lookup f38=some ⟨ana,amr,.func (PySem.W.fnOf "run" "run" (defArgs Dq) (defBody Dq) (defScope Dq) .none an0 ao8 alI aqA ai5 apS),akQ⟩) (c38:PySem.W.codeIn K ai5 "run"=true) (k38:PySem.W.keepIn K (.ref f38)=true)
  (a39:PySem.W.nsIn K mainGlobals "tally_of"=some (some (.ref f39))) (l39:K.lookup f39=some ⟨am_,amq,.func (PySem.W.fnOf "tally_of" "tally_of" (defArgs m_) (defBody m_) (defScope m_) .none anZ ao7 alH aqz ai4 apR),akP⟩) (c39:PySem.W.codeIn K ai4 "tally_of"=true) (k39:PySem.W.keepIn K (.ref f39)=true)
  (a40:PySem.W.nsIn K mainGlobals "walked"=some (some (.ref f40))) (l40:K.lookup f40=some ⟨am9,amo,.func (PySem.W.fnOf "walked" "walked" (defArgs pD) (defBody pD) (defScope pD) .none anY ao6 alG aqy ai3 apQ),akO⟩) (c40:PySem.W.codeIn K ai3 "walked"=true) (k40:PySem.W.keepIn K (.ref f40)=true)
  (a41:PySem.W.nsIn K mainGlobals "work"=some (some (.ref f41))) (l41:K.lookup f41=some ⟨am8,amn,.func (PySem.W.fnOf "work" "work" (defArgs xY) (defBody xY) (defScope xY) .none anW ao5 alF aqx ai2 apP),akN⟩) (c41:PySem.W.codeIn K ai2 "work"=true) (k41:PySem.W.keepIn K (.ref f41)=true)
  (a42:PySem.W.nsIn K mainGlobals "_law_deck"=some (some (.ref f42))) (l42:K.lookup f42=some ⟨am7,amm,.func (PySem.W.fnOf "_law_deck" "_law_deck" (defArgs ju) (defBody ju) (defScope ju) .none anV ao4 alE aqw ai1 apO),akM⟩) (c42:PySem.W.codeIn K ai1 "_law_deck"=true) (k42:PySem.W.keepIn K (.ref f42)=true)
  (a43:PySem.W.nsIn K mainGlobals "_law_next"=some (some (.ref f43))) (l43:K.lookup f43=some ⟨am6,aml,.func (PySem.W.fnOf "_law_next" "_law_next" (defArgs gQ) (defBody gQ) (defScope gQ) .none anU ao3 alD aqv ai0 apM),akL⟩) (c43:PySem.W.codeIn K ai0 "_law_next"=true) (k43:PySem.W.keepIn K (.ref f43)=true)
  (a44:PySem.W.nsIn K mainGlobals "_law_tree"=some (some (.ref f44))) (l44:K.lookup f44=some ⟨am5,amk,.func (PySem.W.fnOf "_law_tree" "_law_tree" (defArgs iT) (defBody iT) (defScope iT) .none anT ao2 alC aqu aiZ apL),akK⟩) (c44:PySem.W.codeIn K aiZ "_law_tree"=true) (k44:PySem.W.keepIn K (.ref f44)=true)
  (a45:PySem.W.nsIn K mainGlobals "_law_leaves"=some (some (.ref f45))) (l45:K.lookup f45=some ⟨am4,amj,.func (PySem.W.fnOf "_law_leaves" "_law_leaves" (defArgs fY) (defBody fY) (defScope fY) .none anS ao1 alB aqt aiY apK),akJ⟩) (c45:PySem.W.codeIn K aiY "_law_leaves"=true) (k45:PySem.W.keepIn K (.ref f45)=true)
  (a46:PySem.W.nsIn K mainGlobals "_law_word"=some (some (.ref f46))) (l46:K.lookup f46=some ⟨am3,ami,.func (PySem.W.fnOf "_law_word" "_law_word" (defArgs oO) (defBody oO) (defScope oO) .none anR ao0 alA aqs aiX apJ),akI⟩) (c46:PySem.W.codeIn K aiX "_law_word"=true) (k46:PySem.W.keepIn K (.ref f46)=true)
  (a47:PySem.W.nsIn K mainGlobals "_law_text"=some (some (.ref f47))) (l47:K.lookup f47=some ⟨am2,amh,.func (PySem.W.fnOf "_law_text" "_law_text" (defArgs jt) (defBody jt) (defScope jt) .none anQ aoZ alz aqr aiW apI),akH⟩) (c47:PySem.W.codeIn K aiW "_law_text"=true) (k47:PySem.W.keepIn K (.ref f47)=true)
  (a48:PySem.W.nsIn K mainGlobals "_law_parts"=some (some (.ref f48))) (l48:K.lookup f48=some ⟨am1,amg,.func (PySem.W.fnOf "_law_parts" "_law_parts" (defArgs iW) (defBody iW) (defScope iW) .none anP aoY aly aqq aiV apH),akG⟩) (c48:PySem.W.codeIn K aiV "_law_parts"=true) (k48:PySem.W.keepIn K (.ref f48)=true)
  (a49:PySem.W.nsIn K mainGlobals "_law_row"=some (some (.ref f49))) (l49:K.lookup f49=some ⟨am0,amf,.func (PySem.W.fnOf "_law_row" "_law_row" (defArgs kj) (defBody kj) (defScope kj) .none anO aoX alx aqp aiU apG),akF⟩) (c49:PySem.W.codeIn K aiU "_law_row"=true) (k49:PySem.W.keepIn K (.ref f49)=true)
  (a50:PySem.W.nsIn K mainGlobals "_law_lay"=some (some (.ref f50))) (l50:K.lookup f50=some ⟨amZ,ame,.func (PySem.W.fnOf "_law_lay" "_law_lay" (defArgs kI) (defBody kI) (defScope kI) .none anN aoW alw aqo aiT apF),akE⟩) (c50:PySem.W.codeIn K aiT "_law_lay"=true) (k50:PySem.W.keepIn K (.ref f50)=true)
  (a51:PySem.W.nsIn K mainGlobals "_law_plain"=some (some (.ref f51))) (l51:K.lookup f51=some ⟨amY,amd,.func (PySem.W.fnOf "_law_plain" "_law_plain" (defArgs jH) (defBody jH) (defScope jH) .none anM aoV alv aqn aiS apE),akD⟩) (c51:PySem.W.codeIn K aiS "_law_plain"=true) (k51:PySem.W.keepIn K (.ref f51)=true)
  (a52:PySem.W.nsIn K mainGlobals "_law_goes_on"=some (some (.ref f52))) (l52:K.lookup f52=some ⟨amX,amc,.func (PySem.W.fnOf "_law_goes_on" "_law_goes_on" (defArgs iK) (defBody iK) (defScope iK) .none anL aoU alu aqm aiR apD),akC⟩) (c52:PySem.W.codeIn K aiR "_law_goes_on"=true) (k52:PySem.W.keepIn K (.ref f52)=true)
  (a53:PySem.W.nsIn K mainGlobals "_law_maker"=some (some (.ref f53))) (l53:K.lookup f53=some ⟨amW,amb,.func (PySem.W.fnOf "_law_maker" "_law_maker" (defArgs jJ) (defBody jJ) (defScope jJ) .none anK aoT als aql aiQ apC),akB⟩) (c53:PySem.W.codeIn K aiQ "_law_maker"=true) (k53:PySem.W.keepIn K (.ref f53)=true)
  (a54:PySem.W.nsIn K mainGlobals "law"=some (some (.ref f54))) (l54:K.lookup f54=some ⟨amV,ama,.func (PySem.W.fnOf "law" "law" (defArgs vq) (defBody vq) (defScope vq) .none aiw aiO ahR ajD afu aiP),akA⟩) (c54:PySem.W.codeIn K afu "law"=true) (k54:PySem.W.keepIn K (.ref f54)=true)
  (EY:PySem.W.nsIn K mainGlobals "Fronted"=some (some (.ref ao)))
  (Dw:PySem.W.plainGet K ao Str.empty=true)
  (Eb:PySem.W.hasDictIn K ao=true)
  (Dv:PySem.W.plainOver K ao=true)
  (Dn:PySem.W.findIn K (.ref ao) "__setattr__"=some (some (.builtin "object.__setattr__")))
  (DQ:PySem.W.makesIn K ao=true)
  (D_:PySem.W.keepIn K (.ref ao)=true)
  (uJ:PySem.W.findIn K (.ref ao) "item"=some none)
  (rH:PySem.W.findIn K (.ref ao) "behind"=some none)
  (NQ:PySem.W.nsIn K mainGlobals "Later"=some (some (.ref au)))
  (Lg:PySem.W.plainGet K au Str.empty=true)
  (MF:PySem.W.hasDictIn K au=true)
  (K_:PySem.W.plainOver K au=true)
  (K7:PySem.W.findIn K (.ref au) "__setattr__"=some (some (.builtin "object.__setattr__")))
  (Mf:PySem.W.makesIn K au=true)
  (Mt:PySem.W.keepIn K (.ref au)=true)
  (yw:PySem.W.findIn K (.ref au) "tree"=some none)
  (wz:PySem.W.findIn K (.ref au) "place"=some none)
  (Tc:PySem.W.nsIn K mainGlobals "Word"=some (some (.ref aG)))
  (Q_:PySem.W.plainGet K aG Str.empty=true)
  (RQ:PySem.W.hasDictIn K aG=true)
  (Q6:PySem.W.plainOver K aG=true)
  (QM:PySem.W.findIn K (.ref aG) "__setattr__"=some (some (.builtin "object.__setattr__")))
  (Rp:PySem.W.makesIn K aG=true)
  (RJ:PySem.W.keepIn K (.ref aG)=true)
  (Ak:PySem.W.findIn K (.ref aG) "kind"=some none)
  (Aj:PySem.W.findIn K (.ref aG) "load"=some none)
  (DP:PySem.W.findIn K (.ref aG) "yes"=some none)
  (Hi:PySem.W.findIn K (.ref aG) "no"=some none)
  (Al:PySem.W.findIn K (.ref aG) "body"=some none)
  (Ai:PySem.W.findIn K (.ref aG) "size"=some none)
  (Te:PySem.W.nsIn K mainGlobals "Text"=some (some (.ref aM)))
  (Rb:PySem.W.plainGet K aM Str.empty=true)
  (RW:PySem.W.hasDictIn K aM=true)
  (Q8:PySem.W.plainOver K aM=true)
  (QX:PySem.W.findIn K (.ref aM) "__setattr__"=some (some (.builtin "object.__setattr__")))
  (Rr:PySem.W.makesIn K aM=true)
  (RL:PySem.W.keepIn K (.ref aM)=true)
  (Ao:PySem.W.findIn K (.ref aM) "tree"=some none)
  (yu:PySem.W.findIn K (.ref aM) "words"=some none)
  (NT:PySem.W.nsIn K mainGlobals "Going"=some (some (.ref aO)))
  (Lh:PySem.W.plainGet K aO Str.empty=true)
  (MJ:PySem.W.hasDictIn K aO=true)
  (La:PySem.W.plainOver K aO=true)
  (K8:PySem.W.findIn K (.ref aO) "__setattr__"=some (some (.builtin "object.__setattr__")))
  (Mg:PySem.W.makesIn K aO=true)
  (Mu:PySem.W.keepIn K (.ref aO)=true)
  (yx:PySem.W.findIn K (.ref aO) "text"=some none)
  (wA:PySem.W.findIn K (.ref aO) "place"=some none)
  (Td:PySem.W.nsIn K mainGlobals "Walk"=some (some (.ref aL)))
  (Ra:PySem.W.plainGet K aL Str.empty=true)
  (RT:PySem.W.hasDictIn K aL=true)
  (Q7:PySem.W.plainOver K aL=true)
  (QV:PySem.W.findIn K (.ref aL) "__setattr__"=some (some (.builtin "object.__setattr__")))
  (Rq:PySem.W.makesIn K aL=true)
  (RK:PySem.W.keepIn K (.ref aL)=true)
  (wu:PySem.W.findIn K (.ref aL) "goings"=some none)
  (yt:PySem.W.findIn K (.ref aL) "stack"=some none)
  (uI:PySem.W.findIn K (.ref aL) "numbers"=some none)
  (Am:PySem.W.findIn K (.ref aL) "left"=some none)
  (Ec:PySem.W.findIn K (.ref ao) "__eq__"=some (some (.builtin "object.__eq__")))
  (DK:PySem.W.mroIn K ao (.type "object")=some true)
  (Dg:PySem.W.mroIn K ao (.type "tuple")=some false)
  (Dm:PySem.W.subIn K (.type "tuple") (.ref ao)=some false)
  (Eo:PySem.W.findIn K (.ref ao) "__class__"=some (some (.builtin "object.__class__")))
  (MP:PySem.W.findIn K (.ref au) "__eq__"=some (some (.builtin "object.__eq__")))
  (LK:PySem.W.mroIn K au (.type "object")=some true)
  (Kv:PySem.W.mroIn K au (.type "tuple")=some false)
  (K6:PySem.W.subIn K (.type "tuple") (.ref au)=some false)
  (Nr:PySem.W.findIn K (.ref au) "__class__"=some (some (.builtin "object.__class__")))
  (cn:PySem.W.specialIn K (.builtin "object.__class__") "__get__"=some (some (.builtin "getset_descriptor.__get__")))
  (ct:PySem.W.takesIn K (.builtin "object.__class__")=some true)
  (iTF:PySem.W.kitOne K (.type "tuple") (.ref ao)=some false)
  (iTL:PySem.W.kitOne K (.type "tuple") (.ref au)=some false)
  (iFF:PySem.W.kitOne K (.ref ao) (.ref ao)=some true)
  (iLF:PySem.W.kitOne K (.ref au) (.ref ao)=some false)
  (iLL:PySem.W.kitOne K (.ref au) (.ref au)=some true)
  (gJ:PySem.W.findIn K (.ref ao) "__init__"=some (some (.ref iZ)))
  (pY:PySem.W.isFn K (.ref iZ)=true)
  (pW:K.lookup iZ=some ⟨Fx,Fw,.func (PySem.W.fnOf "__init__" "Fronted.__init__" (defArgs gG) (defBody gG) (defScope gG) .none Fy FJ Ft FQ uz FN),Fp⟩)
  (qj:PySem.W.codeIn K uz "Fronted.__init__"=true)
  (pX:PySem.W.keepIn K (.ref iZ)=true)
  (iR:PySem.W.findIn K (.ref au) "__init__"=some (some (.ref jK)))
  (rP:PySem.W.isFn K (.ref jK)=true)
  (rK:K.lookup jK=some ⟨J4,J2,.func (PySem.W.fnOf "__init__" "Later.__init__" (defArgs iM) (defBody iM) (defScope iM) .none J6 J9 JX Kd wL Ka),JR⟩)
  (rT:PySem.W.codeIn K wL "Later.__init__"=true)
  (rN:PySem.W.keepIn K (.ref jK)=true)
  (jf:PySem.W.findIn K (.ref aG) "__init__"=some (some (.ref k_)))
  (tR:PySem.W.isFn K (.ref k_)=true)
  (tG:K.lookup k_=some ⟨Ly,Ls,.func (PySem.W.fnOf "__init__" "Word.__init__" (defArgs jc) (defBody jc) (defScope jc) .none Mv Nb Lb Nx yS Nj),KQ⟩)
  (t_:PySem.W.codeIn K yS "Word.__init__"=true)
  (tL:PySem.W.keepIn K (.ref k_)=true)
  (iC:PySem.W.findIn K (.ref aG) "body_parts"=some (some (.ref jk)))
  (qJ:PySem.W.isFn K (.ref jk)=true)
  (qI:K.lookup jk=some ⟨Hg,Hf,.func (PySem.W.fnOf "body_parts" "Word.body_parts" (defArgs iy) (defBody iy) (defScope iy) .none Hr HF GX Ip vV Ib),Gp⟩)
  (qK:PySem.W.codeIn K vV "Word.body_parts"=true)
  (lR:PySem.W.keepIn K (.ref jk)=true)
  (d7:PySem.W.findIn K (.ref aM) "__init__"=some (some (.ref lq)))
  (tV:PySem.W.isFn K (.ref lq)=true)
  (tK:K.lookup lq=some ⟨LC,Lx,.func (PySem.W.fnOf "__init__" "Text.__init__" (defArgs jd) (defBody jd) (defScope jd) .none Mx Ng Le Nz yV Nm),KY⟩)
  (ud:PySem.W.codeIn K yV "Text.__init__"=true)
  (tQ:PySem.W.keepIn K (.ref lq)=true)
  (jD:PySem.W.findIn K (.ref aM) "word_at"=some (some (.ref mF)))
  (uM:PySem.W.isFn K (.ref mF)=true)
  (uL:K.lookup mF=some ⟨OJ,OD,.func (PySem.W.fnOf "word_at" "Text.word_at" (defArgs jA) (defBody jA) (defScope jA) .none Pj Pn Ot Pz zW Pq),Oh⟩)
  (uU:PySem.W.codeIn K zW "Text.word_at"=true)
  (qF:PySem.W.keepIn K (.ref mF)=true)
  (dN:PySem.W.findIn K (.ref aO) "__init__"=some (some (.ref jL)))
  (rQ:PySem.W.isFn K (.ref jL)=true)
  (rM:K.lookup jL=some ⟨J5,J3,.func (PySem.W.fnOf "__init__" "Going.__init__" (defArgs iQ) (defBody iQ) (defScope iQ) .none J7 J_ JZ Ke wM Kc),JT⟩)
  (rW:PySem.W.codeIn K wM "Going.__init__"=true)
  (rO:PySem.W.keepIn K (.ref jL)=true)
  (jg:PySem.W.findIn K (.ref aL) "__init__"=some (some (.ref lg)))
  (tU:PySem.W.isFn K (.ref lg)=true)
  (tH:K.lookup lg=some ⟨Lz,Lw,.func (PySem.W.fnOf "__init__" "Walk.__init__" (defArgs gZ) (defBody gZ) (defScope gZ) .none Mw Nf Ld Ny yU Nk),KR⟩)
  (uc:PySem.W.codeIn K yU "Walk.__init__"=true)
  (tO:PySem.W.keepIn K (.ref lg)=true)
  (gA:PySem.W.findIn K (.ref aL) "at_end"=some (some (.ref oJ)))
  (wC:PySem.W.isFn K (.ref oJ)=true)
  (wB:K.lookup oJ=some ⟨Ro,Rn,.func (PySem.W.fnOf "at_end" "Walk.at_end" (defArgs jW) (defBody jW) (defScope jW) .none RM R5 Q9 SJ Cr Sd),QD⟩)
  (wG:PySem.W.codeIn K Cr "Walk.at_end"=true)
  (rC:PySem.W.keepIn K (.ref oJ)=true)
  (jq:PySem.W.findIn K (.ref aL) "top"=some (some (.ref tW)))
  (Ea:PySem.W.isFn K (.ref tW)=true)
  (DY:K.lookup tW=some ⟨Y8,Y7,.func (PySem.W.fnOf "top" "Walk.top" (defArgs qx) (defBody qx) (defScope qx) .none Zc Ze YS Zk Kq Zf),YB⟩)
  (Ep:PySem.W.codeIn K Kq "Walk.top"=true)
  (wU:PySem.W.keepIn K (.ref tW)=true)
  (iw:PySem.W.findIn K (.ref aL) "tally"=some (some (.ref pZ)))
  (yF:PySem.W.isFn K (.ref pZ)=true)
  (yE:K.lookup pZ=some ⟨Uu,Ut,.func (PySem.W.fnOf "tally" "Walk.tally" (defArgs lX) (defBody lX) (defScope lX) .none Uw Ux Uh UL Fj Uy),T_⟩)
  (yW:PySem.W.codeIn K Fj "Walk.tally"=true)
  (tM:PySem.W.keepIn K (.ref pZ)=true)
  (oX:PySem.W.findIn K (.ref aL) "step"=some (some (.ref qY)))
  (Ay:PySem.W.isFn K (.ref qY)=true)
  (Aw:K.lookup qY=some ⟨Wv,Wt,.func (PySem.W.fnOf "step" "Walk.step" (defArgs oR) (defBody oR) (defScope oR) .none Xd XF V8 Yb Ih XR),VG⟩)
  (Bh:PySem.W.codeIn K Ih "Walk.step"=true)
  (vA:PySem.W.keepIn K (.ref qY)=true)
  (oY:PySem.W.findIn K (.ref aL) "move"=some (some (.ref qZ)))
  (Az:PySem.W.isFn K (.ref qZ)=true)
  (Ax:K.lookup qZ=some ⟨Ww,Wu,.func (PySem.W.fnOf "move" "Walk.move" (defArgs oU) (defBody oU) (defScope oU) .none Xe XH V9 Yc Ii XS),VH⟩)
  (Bj:PySem.W.codeIn K Ii "Walk.move"=true)
  (vB:PySem.W.keepIn K (.ref qZ)=true)
  (HB:PySem.W.nsIn K mainGlobals "FORK_NO"=some (some mV))
  (mW:RelV (.int 8) mV)
  (Ei:PySem.W.nsIn K mainGlobals "FORK_YES"=some (some j7))
  (kO:RelV (.int 7) j7)
  (yH:PySem.W.nsIn K mainGlobals "WHILE_PAST"=some (some o9))
  (pP:RelV (.int 10) o9)
  (yI:PySem.W.nsIn K mainGlobals "WHILE_INTO"=some (some iU))
  (iY:RelV (.int 9) iU)
  (Hy:PySem.W.nsIn K mainGlobals "NO_WORD"=some (some vH))
  (vO:RelV (.int 11) vH)
  (Xy:PySem.W.nsIn K mainGlobals "DROP"=some (some Gf))
  (GJ:RelV (.int 1) Gf)
  (Xq:PySem.W.nsIn K mainGlobals "SWAP"=some (some Gb))
  (GC:RelV (.int 3) Gb)
  (R4:PySem.W.nsIn K mainGlobals "FRONT"=some (some BL))
  (Ca:RelV (.int 4) BL)
  (Xu:PySem.W.nsIn K mainGlobals "PART"=some (some Gd))
  (GD:RelV (.int 5) Gd)
  (Xp:PySem.W.nsIn K mainGlobals "TURN"=some (some Ga))
  (Gz:RelV (.int 6) Ga)
  (M5:PySem.W.nsIn K mainGlobals "PLACES"=some (some xR))
  (yg:RelV (.int 15) xR)
  (Xr:PySem.W.nsIn K mainGlobals "SHUT"=some (some vG))
  (vN:RelV (.int 12) vG)
  (M9:PySem.W.nsIn K mainGlobals "BODIES"=some (some xT))
  (yh:RelV (.int 14) xT)
  (R3:PySem.W.nsIn K mainGlobals "LOOKS"=some (some (.ref u9)))
  (RG:K.lookup u9=some aad)
  (Qq:jV aad [.int 0,.int 1,.int 1,.int 2,.int 2,.int 1,.int 3,.int 1,.int 1,.int 1,.int 1,.int 0,.int 0])
  (R0:PySem.W.nsIn K mainGlobals "NAMES"=some (some (.ref qH)))
  (JF:K.lookup qH=some Jz)
  (Qi:jV Jz [.str (PySem.Str.ofString "lay"),.str (PySem.Str.ofString "drop"),.str (PySem.Str.ofString "twin"),.str (PySem.Str.ofString "swap"),.str (PySem.Str.ofString "front"),.str (PySem.Str.ofString "part"),.str (PySem.Str.ofString "turn"),.str (PySem.Str.ofString "fork"),.str (PySem.Str.ofString "while")])
  (Qj:Jz.cls=.type "tuple"∧Jz.dict=none)
  (Ef:PySem.W.nsIn K mainGlobals "NAMELESS"=some (some j6))
  (kJ:RelV (.int 9) j6)
  (Xw:PySem.W.nsIn K mainGlobals "FORK"=some (some j8))
  (kW:RelV (.int 7) j8)
  (RZ:PySem.W.nsIn K mainGlobals "WHILE"=some (some d8))
  (eE:RelV (.int 8) d8)
  (abB:PySem.W.nsIn K mainGlobals "LAY"=some (some zM))
  (zO:RelV (.int 0) zM)
  (Xv:PySem.W.nsIn K mainGlobals "LAID"=some (some Ge))
  (GF:RelV (.str (PySem.Str.ofString "turn turn front turn turn front swap")) Ge)
  (wD:PySem.W.nsIn K mainGlobals "TOP_REACHED"=some (some iD))
  (iG:RelV (.str (PySem.Str.ofString "turn turn front turn part")) iD)
  (Hz:PySem.W.nsIn K mainGlobals "INTO_NO"=some (some vI))
  (vP:RelV (.str (PySem.Str.ofString "front swap turn part drop front")) vI)
  (Eh:PySem.W.nsIn K mainGlobals "INTO_YES"=some (some sS))
  (sW:RelV (.str (PySem.Str.ofString "front swap turn part swap drop front")) sS)
  (uN:PySem.W.nsIn K mainGlobals "STACK_PARTED"=some (some lV))
  (lY:RelV (.str (PySem.Str.ofString "drop front swap part")) lV)
  (M4:PySem.W.nsIn K mainGlobals "WORKED"=some (some (.ref jj)))
  (Mr:K.lookup jj=some Wy)
  (Kz:jV Wy [.str (PySem.Str.ofString ""),.str (PySem.Str.ofString "drop"),.str (PySem.Str.ofString "twin turn swap front swap front"),.str (PySem.Str.ofString "swap part swap turn front swap front"),.str (PySem.Str.ofString "swap part turn front front"),.str (PySem.Str.ofString "part turn turn front swap front"),.str (PySem.Str.ofString "swap part swap part swap turn front turn front swap front")])
  (A_:PySem.W.nsIn K mainGlobals "PAST_BODY"=some (some qN))
  (qQ:RelV (.str (PySem.Str.ofString "front turn drop swap")) qN)
  (Ba:PySem.W.nsIn K mainGlobals "INTO_BODY"=some (some qO))
  (qR:RelV (.str (PySem.Str.ofString "front swap turn part swap twin turn front turn part turn front front swap front")) qO)
  (M8:PySem.W.nsIn K mainGlobals "COPIED"=some (some pA))
  (nq:RelV (.int 13) pA)
  (Xo:PySem.W.nsIn K mainGlobals "TWIN"=some (some o_))
  (oF:RelV (.int 2) o_)
  (M_:PySem.W.nsIn K mainGlobals "ALWAYS"=some (some (.ref qm)))
  (Ms:K.lookup qm=some Wz)
  (KC:jV Wz [.int 2,.int 2,.int 0,.int 1,.int 2,.int 2,.int 2,.int 0,.int 0,.int 0,.int 1,.int 0,.int 1,.int 0,.int 0])
  (Xx:PySem.W.nsIn K mainGlobals "EACH"=some (some (.ref vX)))
  (Xc:K.lookup vX=some ade)
  (Vf:jV ade [.ref bE0,.ref bE1,.ref bE2,.ref bE3,.ref bE4,.ref bE5,.ref bE6,.ref bE7,.ref bE8,.ref bE9,.ref afD,.ref afC,.ref afB,.ref afA,.ref afz])
  (lE0:K.lookup bE0=some oE0) (tE0:jV oE0 [.int 0,.int 1,.int 0,.int 1,.int 2,.int 3,.int 4,.int 1,.int 1,.int 1,.int 0,.int 0,.int 3,.int 0,.int 1169])
  (lE1:K.lookup bE1=some oE1) (tE1:jV oE1 [.int 0,.int 4,.int 0,.int 3,.int 1,.int 5,.int 0,.int 2,.int 1,.int 1,.int 0,.int 0,.int 4,.int 0,.int 1169])
  (lE2:K.lookup bE2=some oE2) (tE2:jV oE2 [.int 0,.int 4,.int 1,.int 6,.int 3,.int 6,.int 1,.int 3,.int 1,.int 1,.int 0,.int 0,.int 5,.int 0,.int 1169])
  (lE3:K.lookup bE3=some oE3) (tE3:jV oE3 [.int 0,.int 5,.int 0,.int 8,.int 3,.int 8,.int 1,.int 4,.int 1,.int 1,.int 0,.int 0,.int 6,.int 0,.int 1169])
  (lE4:K.lookup bE4=some oE4) (tE4:jV oE4 [.int 0,.int 6,.int 0,.int 7,.int 3,.int 9,.int 1,.int 5,.int 1,.int 1,.int 0,.int 0,.int 7,.int 0,.int 1169])
  (lE5:K.lookup bE5=some oE5) (tE5:jV oE5 [.int 0,.int 7,.int 0,.int 8,.int 3,.int 10,.int 2,.int 6,.int 1,.int 1,.int 0,.int 0,.int 8,.int 0,.int 1169])
  (lE6:K.lookup bE6=some oE6) (tE6:jV oE6 [.int 0,.int 8,.int 0,.int 12,.int 4,.int 12,.int 2,.int 7,.int 1,.int 1,.int 0,.int 0,.int 9,.int 0,.int 1169])
  (lE7:K.lookup bE7=some oE7) (tE7:jV oE7 [.int 0,.int 9,.int 0,.int 9,.int 3,.int 12,.int 4,.int 9,.int 1,.int 1,.int 0,.int 0,.int 11,.int 0,.int 1169])
  (lE8:K.lookup bE8=some oE8) (tE8:jV oE8 [.int 0,.int 9,.int 0,.int 8,.int 3,.int 12,.int 4,.int 8,.int 2,.int 1,.int 0,.int 0,.int 11,.int 0,.int 1169])
  (lE9:K.lookup bE9=some oE9) (tE9:jV oE9 [.int 0,.int 0,.int 1,.int 19,.int 15,.int 14,.int 7,.int 10,.int 1,.int 1,.int 0,.int 0,.int 12,.int 0,.int 1169])
  (afe:K.lookup afD=some aii) (aez:jV aii [.int 0,.int 1,.int 0,.int 17,.int 11,.int 12,.int 4,.int 9,.int 2,.int 1,.int 0,.int 0,.int 12,.int 0,.int 1169])
  (afd:K.lookup afC=some aif) (aey:jV aif [.int 0,.int 10,.int 0,.int 8,.int 1,.int 11,.int 0,.int 10,.int 0,.int 1,.int 0,.int 0,.int 11,.int 0,.int 1169])
  (afc:K.lookup afB=some aie) (aex:jV aie [.int 0,.int 1,.int 0,.int 0,.int 0,.int 1,.int 0,.int 0,.int 1,.int 1,.int 0,.int 0,.int 2,.int 0,.int 1169])
  (afb:K.lookup afA=some aic) (aew:jV aic [.int 0,.int 0,.int 0,.int 0,.int 0,.int 0,.int 0,.int 0,.int 0,.int 0,.int 0,.int 0,.int 0,.int 1,.int 0])
  (afa:K.lookup afz=some aib) (aev:jV aib [.int 0,.int 0,.int 0,.int 0,.int 0,.int 0,.int 0,.int 0,.int 0,.int 0,.int 0,.int 0,.int 0,.int 1,.int 0])
  (aaA:PySem.W.nsIn K mainGlobals "min"=some none) (aaB:PySem.W.nsIn K mainGlobals "len"=some none) (Qg:PySem.W.nsIn K mainGlobals "tuple"=some none) (CQ:PySem.W.nsIn K mainGlobals "reversed"=some none) (Qh:PySem.W.nsIn K mainGlobals "range"=some none) (aaz:PySem.W.nsIn K mainGlobals "sum"=some none) (aay:PySem.W.nsIn K mainGlobals "zip"=some none) (xP:PySem.W.nsIn K mainGlobals "isinstance"=some none) (aaD:PySem.W.nsIn K mainGlobals "all"=some none) (aaC:PySem.W.nsIn K mainGlobals "int"=some none) (Ve:PySem.W.nsIn K mainGlobals "list"=some none) :
  ∃ fd:FuncData,(∀ (s:Shared) (v:Value),BindsTo s fd ⟨[v],[]⟩ [("_law_script",v)])∧∀ base:Heap,K.In base→base.Ns mainGlobals mg→FnOk l.prog w K mg base CX0 60 fa fd ["_law_script"] (spLaw K):=by
 have e:=hfa.symm.trans (PySem.W.mg_of X G a54)
 cases e
 have F1:=fun_mk (st:=oN) l1 c1 k1
 have F2:=fun_mk (st:=vL) l2 c2 k2
 have F3:=fun_mk (st:=uE) l3 c3 k3
 have F4:=fun_mk (st:=pH) l4 c4 k4
 have F5:=fun_mk (st:=pK) l5 c5 k5
 have F6:=fun_mk (st:=vo) l6 c6 k6
 have F7:=fun_mk (st:=uD) l7 c7 k7
 have F8:=fun_mk (st:=qP) l8 c8 k8
 have F9:=fun_mk (st:=xZ) l9 c9 k9
 have F10:=fun_mk (st:=dG) l10 c10 k10
 have F11:=fun_mk (st:=jF) l11 c11 k11
 have F12:=fun_mk (st:=pJ) l12 c12 k12
 have F13:=fun_mk (st:=lF) l13 c13 k13
 have F14:=fun_mk (st:=pG) l14 c14 k14
 have F15:=fun_mk (st:=pN) l15 c15 k15
 have F16:=fun_mk (st:=pL) l16 c16 k16
 have F17:=fun_mk (st:=jE) l17 c17 k17
 have F18:=fun_mk (st:=gY) l18 c18 k18
 have F19:=fun_mk (st:=sE) l19 c19 k19
 have F20:=fun_mk (st:=j_) l20 c20 k20
 have F21:=fun_mk (st:=vM) l21 c21 k21
 have F22:=fun_mk (st:=sG) l22 c22 k22
 have F23:=fun_mk (st:=pF) l23 c23 k23
 have F24:=fun_mk (st:=jm) l24 c24 k24
 have F25:=fun_mk (st:=nj) l25 c25 k25
 have F26:=fun_mk (st:=uG) l26 c26 k26
 have F27:=fun_mk (st:=rE) l27 c27 k27
 have F28:=fun_mk (st:=lG) l28 c28 k28
 have F29:=fun_mk (st:=jG) l29 c29 k29
 have F30:=fun_mk (st:=jh) l30 c30 k30
 have F31:=fun_mk (st:=iV) l31 c31 k31
 have F32:=fun_mk (st:=ni) l32 c32 k32
 have F33:=fun_mk (st:=pI) l33 c33 k33
 have F34:=fun_mk (st:=uF) l34 c34 k34
 have F35:=fun_mk (st:=jr) l35 c35 k35
 have F36:=fun_mk (st:=iJ) l36 c36 k36
 have F37:=fun_mk (st:=pO) l37 c37 k37
 have F38:=fun_mk (st:=Dq) l38 c38 k38
 have F39:=fun_mk (st:=m_) l39 c39 k39
 have F40:=fun_mk (st:=pD) l40 c40 k40
 have F41:=fun_mk (st:=xY) l41 c41 k41
 have F42:=fun_mk (st:=ju) l42 c42 k42
 have F43:=fun_mk (st:=gQ) l43 c43 k43
 have F44:=fun_mk (st:=iT) l44 c44 k44
 have F45:=fun_mk (st:=fY) l45 c45 k45
 have F46:=fun_mk (st:=oO) l46 c46 k46
 have F47:=fun_mk (st:=jt) l47 c47 k47
 have F48:=fun_mk (st:=iW) l48 c48 k48
 have F49:=fun_mk (st:=kj) l49 c49 k49
 have F50:=fun_mk (st:=kI) l50 c50 k50
 have F51:=fun_mk (st:=jH) l51 c51 k51
 have F52:=fun_mk (st:=iK) l52 c52 k52
 have F53:=fun_mk (st:=jJ) l53 c53 k53
 have F54:=fun_mk (st:=vq) l54 c54 k54
 have b1:=F1.binds (ps:=["tree"]) fun _ _ _ _ _ _ us hl=>match us,hl with | [_],_=>rfl
 have m1:=PySem.W.mg_of X G a1
 have b2:=F2.binds (ps:=["tree"]) fun _ _ _ _ _ _ us hl=>match us,hl with | [_],_=>rfl
 have m2:=PySem.W.mg_of X G a2
 have b3:=F3.binds (ps:=["tree"]) fun _ _ _ _ _ _ us hl=>match us,hl with | [_],_=>rfl
 have m3:=PySem.W.mg_of X G a3
 have b4:=F4.binds (ps:=["word"]) fun _ _ _ _ _ _ us hl=>match us,hl with | [_],_=>rfl
 have m4:=PySem.W.mg_of X G a4
 have b5:=F5.binds (ps:=["word"]) fun _ _ _ _ _ _ us hl=>match us,hl with | [_],_=>rfl
 have m5:=PySem.W.mg_of X G a5
 have b6:=F6.binds (ps:=["tree"]) fun _ _ _ _ _ _ us hl=>match us,hl with | [_],_=>rfl
 have m6:=PySem.W.mg_of X G a6
 have b7:=F7.binds (ps:=["sort"]) fun _ _ _ _ _ _ us hl=>match us,hl with | [_],_=>rfl
 have m7:=PySem.W.mg_of X G a7
 have b8:=F8.binds (ps:=["yes","no"]) fun _ _ _ _ _ _ us hl=>match us,hl with | [_,_],_=>rfl
 have m8:=PySem.W.mg_of X G a8
 have b9:=F9.binds (ps:=["body"]) fun _ _ _ _ _ _ us hl=>match us,hl with | [_],_=>rfl
 have m9:=PySem.W.mg_of X G a9
 have b10:=F10.binds (ps:=["names"]) fun _ _ _ _ _ _ us hl=>match us,hl with | [_],_=>rfl
 have m10:=PySem.W.mg_of X G a10
 have b11:=F11.binds (ps:=[]) fun _ _ _ _ _ _ us hl=>match us,hl with | [],_=>rfl
 have m11:=PySem.W.mg_of X G a11
 have b12:=F12.binds (ps:=[]) fun _ _ _ _ _ _ us hl=>match us,hl with | [],_=>rfl
 have m12:=PySem.W.mg_of X G a12
 have b13:=F13.binds (ps:=[]) fun _ _ _ _ _ _ us hl=>match us,hl with | [],_=>rfl
 have m13:=PySem.W.mg_of X G a13
 have b14:=F14.binds (ps:=[]) fun _ _ _ _ _ _ us hl=>match us,hl with | [],_=>rfl
 have m14:=PySem.W.mg_of X G a14
 have b15:=F15.binds (ps:=[]) fun _ _ _ _ _ _ us hl=>match us,hl with | [],_=>rfl
 have m15:=PySem.W.mg_of X G a15
 have b16:=F16.binds (ps:=["sort"]) fun _ _ _ _ _ _ us hl=>match us,hl with | [_],_=>rfl
 have m16:=PySem.W.mg_of X G a16
 have b17:=F17.binds (ps:=[]) fun _ _ _ _ _ _ us hl=>match us,hl with | [],_=>rfl
 have m17:=PySem.W.mg_of X G a17
 have b18:=F18.binds (ps:=[]) fun _ _ _ _ _ _ us hl=>match us,hl with | [],_=>rfl
 have m18:=PySem.W.mg_of X G a18
 have b19:=F19.binds (ps:=["text","tree"]) fun _ _ _ _ _ _ us hl=>match us,hl with | [_,_],_=>rfl
 have m19:=PySem.W.mg_of X G a19
 have b20:=F20.binds (ps:=["sort","top"]) fun _ _ _ _ _ _ us hl=>match us,hl with | [_,_],_=>rfl
 have m20:=PySem.W.mg_of X G a20
 have b21:=F21.binds (ps:=["tally"]) fun _ _ _ _ _ _ us hl=>match us,hl with | [_],_=>rfl
 have m21:=PySem.W.mg_of X G a21
 have b22:=F22.binds (ps:=["one","other"]) fun _ _ _ _ _ _ us hl=>match us,hl with | [_,_],_=>rfl
 have m22:=PySem.W.mg_of X G a22
 have b23:=F23.binds (ps:=["tally"]) fun _ _ _ _ _ _ us hl=>match us,hl with | [_],_=>rfl
 have m23:=PySem.W.mg_of X G a23
 have b24:=F24.binds (ps:=[]) fun _ _ _ _ _ _ us hl=>match us,hl with | [],_=>rfl
 have m24:=PySem.W.mg_of X G a24
 have b25:=F25.binds (ps:=["own_made"]) fun _ _ _ _ _ _ us hl=>match us,hl with | [_],_=>rfl
 have m25:=PySem.W.mg_of X G a25
 have b26:=F26.binds (ps:=["one","other"]) fun _ _ _ _ _ _ us hl=>match us,hl with | [_,_],_=>rfl
 have m26:=PySem.W.mg_of X G a26
 have b27:=F27.binds (ps:=["text","base","behind"]) fun _ _ _ _ _ _ us hl=>match us,hl with | [_,_,_],_=>rfl
 have m27:=PySem.W.mg_of X G a27
 have b28:=F28.binds (ps:=[]) fun _ _ _ _ _ _ us hl=>match us,hl with | [],_=>rfl
 have m28:=PySem.W.mg_of X G a28
 have b29:=F29.binds (ps:=[]) fun _ _ _ _ _ _ us hl=>match us,hl with | [],_=>rfl
 have m29:=PySem.W.mg_of X G a29
 have b30:=F30.binds (ps:=[]) fun _ _ _ _ _ _ us hl=>match us,hl with | [],_=>rfl
 have m30:=PySem.W.mg_of X G a30
 have b31:=F31.binds (ps:=[]) fun _ _ _ _ _ _ us hl=>match us,hl with | [],_=>rfl
 have m31:=PySem.W.mg_of X G a31
 have b32:=F32.binds (ps:=["row"]) fun _ _ _ _ _ _ us hl=>match us,hl with | [_],_=>rfl
 have m32:=PySem.W.mg_of X G a32
 have b33:=F33.binds (ps:=["row"]) fun _ _ _ _ _ _ us hl=>match us,hl with | [_],_=>rfl
 have m33:=PySem.W.mg_of X G a33
 have b34:=F34.binds (ps:=["tree","place"]) fun _ _ _ _ _ _ us hl=>match us,hl with | [_,_],_=>rfl
 have m34:=PySem.W.mg_of X G a34
 have b35:=F35.binds (ps:=["row"]) fun _ _ _ _ _ _ us hl=>match us,hl with | [_],_=>rfl
 have m35:=PySem.W.mg_of X G a35
 have b36:=F36.binds (ps:=["row","most"]) fun _ _ _ _ _ _ us hl=>match us,hl with | [_,_],_=>rfl
 have m36:=PySem.W.mg_of X G a36
 have b37:=F37.binds (ps:=["row"]) fun _ _ _ _ _ _ us hl=>match us,hl with | [_],_=>rfl
 have m37:=PySem.W.mg_of X G a37
 have b38:=F38.binds (ps:=["text","tree","budget"]) fun _ _ _ _ _ _ us hl=>match us,hl with | [_,_,_],_=>rfl
 have m38:=PySem.W.mg_of X G a38
 have b39:=F39.binds (ps:=["text","tree","budget"]) fun _ _ _ _ _ _ us hl=>match us,hl with | [_,_,_],_=>rfl
 have m39:=PySem.W.mg_of X G a39
 have b40:=F40.binds (ps:=["stand","budget"]) fun _ _ _ _ _ _ us hl=>match us,hl with | [_,_],_=>rfl
 have m40:=PySem.W.mg_of X G a40
 have b41:=F41.binds (ps:=["step","load","stack"]) fun _ _ _ _ _ _ us hl=>match us,hl with | [_,_,_],_=>rfl
 have m41:=PySem.W.mg_of X G a41
 have b42:=F42.binds (ps:=["_law_script"]) fun _ _ _ _ _ _ us hl=>match us,hl with | [_],_=>rfl
 have m42:=PySem.W.mg_of X G a42
 have b43:=F43.binds (ps:=["_law_deck_here","_law_many"]) fun _ _ _ _ _ _ us hl=>match us,hl with | [_,_],_=>rfl
 have m43:=PySem.W.mg_of X G a43
 have b44:=F44.binds (ps:=["_law_deck_here","_law_deep"]) fun _ _ _ _ _ _ us hl=>match us,hl with | [_,_],_=>rfl
 have m44:=PySem.W.mg_of X G a44
 have b45:=F45.binds (ps:=["_law_many"]) fun _ _ _ _ _ _ us hl=>match us,hl with | [_],_=>rfl
 have m45:=PySem.W.mg_of X G a45
 have b46:=F46.binds (ps:=["_law_deck_here","_law_deep"]) fun _ _ _ _ _ _ us hl=>match us,hl with | [_,_],_=>rfl
 have m46:=PySem.W.mg_of X G a46
 have b47:=F47.binds (ps:=["_law_deck_here","_law_deep"]) fun _ _ _ _ _ _ us hl=>match us,hl with | [_,_],_=>rfl
 have m47:=PySem.W.mg_of X G a47
 have b48:=F48.binds (ps:=["_law_tree_here"]) fun _ _ _ _ _ _ us hl=>match us,hl with | [_],_=>rfl
 have m48:=PySem.W.mg_of X G a48
 have b49:=F49.binds (ps:=["_law_found"]) fun _ _ _ _ _ _ us hl=>match us,hl with | [_],_=>rfl
 have m49:=PySem.W.mg_of X G a49
 have b50:=F50.binds (ps:=["_law_tree_here"]) fun _ _ _ _ _ _ us hl=>match us,hl with | [_],_=>rfl
 have m50:=PySem.W.mg_of X G a50
 have b51:=F51.binds (ps:=["_law_sort"]) fun _ _ _ _ _ _ us hl=>match us,hl with | [_],_=>rfl
 have m51:=PySem.W.mg_of X G a51
 have b52:=F52.binds (ps:=["_law_words"]) fun _ _ _ _ _ _ us hl=>match us,hl with | [_],_=>rfl
 have m52:=PySem.W.mg_of X G a52
 have b53:=F53.binds (ps:=["_law_deck_here","_law_way"]) fun _ _ _ _ _ _ us hl=>match us,hl with | [_,_],_=>rfl
 have m53:=PySem.W.mg_of X G a53
 have abe:=PySem.W.mg_none_of X G aaA
 have gM:=PySem.W.mg_none_of X G aaB
 have cV:=PySem.W.mg_none_of X G Qg
 have nA:=PySem.W.mg_none_of X G CQ
 have jC:=PySem.W.mg_none_of X G Qh
 have JC:=PySem.W.mg_none_of X G aaz
 have JB:=PySem.W.mg_none_of X G aay
 have cu:=PySem.W.mg_none_of X G xP
 have abj:=PySem.W.mg_none_of X G aaD
 have abf:=PySem.W.mg_none_of X G aaC
 have WW:=PySem.W.mg_none_of X G Ve
 have eU:=PySem.W.mg_of X G EY
 have jZ:=PySem.W.mg_of X G NQ
 have WY:=PySem.W.mg_of X G Tc
 have vR:=PySem.W.mg_of X G Te
 have sH:=PySem.W.mg_of X G NT
 have W0:=PySem.W.mg_of X G Td
 have O:Own K ao au aG aM aO aL:=⟨⟨⟨Dw,Eb,Dv,Dn⟩,Ec,DK,Dg,Dm,Eo,cn,ct⟩,⟨⟨Lg,MF,K_,K7⟩,MP,LK,Kv,K6,Nr,cn,ct⟩,⟨Q_,RQ,Q6,QM⟩,⟨Rb,RW,Q8,QX⟩,⟨Lh,MJ,La,K8⟩,⟨Ra,RT,Q7,QV⟩,uJ,rH,yw,wz,Ak,Aj,DP,Hi,Al,Ai,Ao,yu,yx,wA,wu,yt,uI,Am,iTF,iTL,iFF,iLF,iLL⟩
 have wj:=fun_mk (st:=gG) pW qj pX
 have ql:=wj.binds (ps:=["self","item","behind"]) fun _ _ _ _ _ _ us hl=>match us,hl with | [_,_,_],_=>rfl
 have Fb:Mk K ao iZ:=⟨DQ,gJ,pY,D_⟩
 have zH:=fun_mk (st:=iM) rK rT rN
 have rY:=zH.binds (ps:=["self","tree","place"]) fun _ _ _ _ _ _ us hl=>match us,hl with | [_,_,_],_=>rfl
 have N6:Mk K au jK:=⟨Mf,iR,rP,Mt⟩
 have Ab:=fun_mk (st:=jc) tG t_ tL
 have uh:=Ab.binds (ps:=["self","tree"]) fun _ _ _ _ _ _ us hl=>match us,hl with | [_,_],_=>rfl
 have Tg:Mk K aG k_:=⟨Rp,jf,tR,RJ⟩
 have wN:=fun_mk (st:=iy) qI qK lR
 have qL:=wN.binds (ps:=["self"]) fun _ _ _ _ _ _ us hl=>match us,hl with | [_],_=>rfl
 have qM:Meth K aG "body_parts" jk:=⟨iC,qJ,lR⟩
 have Ad:=fun_mk (st:=jd) tK ud tQ
 have fM:=Ad.binds (ps:=["self","tree"]) fun _ _ _ _ _ _ us hl=>match us,hl with | [_,_],_=>rfl
 have sJ:Mk K aM lq:=⟨Rr,d7,tV,RL⟩
 have CN:=fun_mk (st:=jA) uL uU qF
 have uV:=CN.binds (ps:=["self","place"]) fun _ _ _ _ _ _ us hl=>match us,hl with | [_,_],_=>rfl
 have vd:Meth K aM "word_at" mF:=⟨jD,uM,qF⟩
 have zJ:=fun_mk (st:=iQ) rM rW rO
 have eV:=zJ.binds (ps:=["self","text"]) fun _ _ _ _ _ _ us hl=>match us,hl with | [_,_],_=>rfl
 have qp:Mk K aO jL:=⟨Mg,dN,rQ,Mu⟩
 have Ac:=fun_mk (st:=gZ) tH uc tO
 have um:=Ac.binds (ps:=["self","stand","budget"]) fun _ _ _ _ _ _ us hl=>match us,hl with | [_,_,_],_=>rfl
 have Ti:Mk K aL lg:=⟨Rq,jg,tU,RK⟩
 have Fo:=fun_mk (st:=jW) wB wG rC
 have j4:=Fo.binds (ps:=["self"]) fun _ _ _ _ _ _ us hl=>match us,hl with | [_],_=>rfl
 have j5:Meth K aL "at_end" oJ:=⟨gA,wC,rC⟩
 have Qe:=fun_mk (st:=qx) DY Ep wU
 have nR:=Qe.binds (ps:=["self"]) fun _ _ _ _ _ _ us hl=>match us,hl with | [_],_=>rfl
 have nZ:Meth K aL "top" tW:=⟨jq,Ea,wU⟩
 have Ji:=fun_mk (st:=lX) yE yW tM
 have mO:=Ji.binds (ps:=["self"]) fun _ _ _ _ _ _ us hl=>match us,hl with | [_],_=>rfl
 have mR:Meth K aL "tally" pZ:=⟨iw,yF,tM⟩
 have Kr:=fun_mk (st:=oR) Aw Bh vA
 have Bo:=Kr.binds (ps:=["self"]) fun _ _ _ _ _ _ us hl=>match us,hl with | [_],_=>rfl
 have Bu:Meth K aL "step" qY:=⟨oX,Ay,vA⟩
 have Ks:=fun_mk (st:=oU) Ax Bj vB
 have Bp:=Ks.binds (ps:=["self","step","going","word"]) fun _ _ _ _ _ _ us hl=>match us,hl with | [_,_,_,_],_=>rfl
 have Bv:Meth K aL "move" qZ:=⟨oY,Az,vB⟩
 have sI:=PySem.W.mg_of X G HB
 have qC:=PySem.W.mg_of X G Ei
 have yD:=PySem.W.mg_of X G yH
 have mq:=PySem.W.mg_of X G yI
 have Ho:=PySem.W.mg_of X G Hy
 have Xa:=PySem.W.mg_of X G Xy
 have W4:=PySem.W.mg_of X G Xq
 have Ry:=PySem.W.mg_of X G R4
 have W5:=PySem.W.mg_of X G Xu
 have W3:=PySem.W.mg_of X G Xp
 have Mj:=PySem.W.mg_of X G M5
 have Cm:=PySem.W.mg_of X G Xr
 have Ml:=PySem.W.mg_of X G M9
 have Rx:=PySem.W.mg_of X G R3
 have Q5:=fun H=>Qq.sq (H:=H) RG
 have Rw:=PySem.W.mg_of X G R0
 have Q0:=fun H=>Qi.sq (H:=H) JF
 have Qp:∃ ob,K.lookup qH=some ob∧ob.cls=.type "tuple"∧ob.dict=none:=⟨_,JF,Qj⟩
 have qz:=PySem.W.mg_of X G Ef
 have oH:=PySem.W.mg_of X G Xw
 have fO:=PySem.W.mg_of X G RZ
 have JD:=PySem.W.mg_of X G abB
 have W6:=PySem.W.mg_of X G Xv
 have jY:=PySem.W.mg_of X G wD
 have Hq:=PySem.W.mg_of X G Hz
 have DW:=PySem.W.mg_of X G Eh
 have uK:=PySem.W.mg_of X G uN
 have Mi:=PySem.W.mg_of X G M4
 have pQ:=fun H=>Kz.sq (H:=H) Mr
 have Ar:=PySem.W.mg_of X G A_
 have Av:=PySem.W.mg_of X G Ba
 have rJ:=PySem.W.mg_of X G M8
 have qX:=PySem.W.mg_of X G Xo
 have Mq:=PySem.W.mg_of X G M_
 have K9:=fun H=>KC.sq (H:=H) Ms
 have W_:=PySem.W.mg_of X G Xx
 have GR:=fun H=>Vf.sq (H:=H) Xc
 have GR:∀ H,af3 K H vX wW:=fun H=>⟨_,GR H,.cons ⟨bE0,rfl,tE0.sq lE0⟩ (.cons ⟨bE1,rfl,tE1.sq lE1⟩ (.cons ⟨bE2,rfl,tE2.sq lE2⟩ (.cons ⟨bE3,rfl,tE3.sq lE3⟩ (.cons ⟨bE4,rfl,tE4.sq lE4⟩ (.cons ⟨bE5,rfl,tE5.sq lE5⟩ (.cons ⟨bE6,rfl,tE6.sq lE6⟩ (.cons ⟨bE7,rfl,tE7.sq lE7⟩ (.cons ⟨bE8,rfl,tE8.sq lE8⟩ (.cons ⟨bE9,rfl,tE9.sq lE9⟩ (.cons ⟨afD,rfl,aez.sq afe⟩ (.cons ⟨afC,rfl,aey.sq afd⟩ (.cons ⟨afB,rfl,aex.sq afc⟩ (.cons ⟨afA,rfl,aew.sq afb⟩ (.cons ⟨afz,rfl,aev.sq afa⟩ (.nil)))))))))))))))⟩
 refine⟨PySem.W.fnOf "law" "law" (defArgs vq) (defBody vq) (defScope vq) .none aiw aiO ahR ajD afu aiP,fun s v=>.of_eq rfl,fun base _ _=>?_⟩
 have O1:=ae2 (P:=l.prog) (w:=w) (mg:=mg) (base:=base) F1
 have O2:=agG (P:=l.prog) (w:=w) (mg:=mg) (base:=base) F2
 have O3:=aeZ (P:=l.prog) (w:=w) (mg:=mg) (base:=base) F3
 have O6:=ah8 (P:=l.prog) (w:=w) (mg:=mg) (base:=base) F6
 have O7:=aeY (P:=l.prog) (w:=w) (mg:=mg) (base:=base) F7
 have O8:=agI (P:=l.prog) (w:=w) (mg:=mg) (base:=base) oH kW F8
 have O9:=agH (P:=l.prog) (w:=w) (mg:=mg) (base:=base) fO eE F9
 have O19:=ae3 (P:=l.prog) (w:=w) (mg:=mg) (base:=base) F19
 have O20:=YW (P:=l.prog) (w:=w) (mg:=mg) (base:=base) O oH kW sI mW qC kO fO eE yD pP mq iY qz kJ Ho vO F20
 have O21:=agJ (P:=l.prog) (w:=w) (mg:=mg) (base:=base) JC rJ nq qX oF F21
 have O22:=ae4 (P:=l.prog) (w:=w) (mg:=mg) (base:=base) cV JB F22
 have O35:=Wh (P:=l.prog) (w:=w) (mg:=mg) (base:=base) O cu jZ F35
 have O43:=Wm (P:=l.prog) (w:=w) (mg:=mg) (base:=base) gM F43
 have O45:=Rk (P:=l.prog) (w:=w) (mg:=mg) (base:=base) F45
 have O49:=Y4 (P:=l.prog) (w:=w) (mg:=mg) (base:=base) abj cu cV F49
 have O50:=Y5 (P:=l.prog) (w:=w) (mg:=mg) (base:=base) F50
 have Jc:=Fv (P:=l.prog) (w:=w) (mg:=mg) (base:=base) O wj
 have N5:=J0 (P:=l.prog) (w:=w) (mg:=mg) (base:=base) O zH
 have zY:=Lr (P:=l.prog) (w:=w) (mg:=mg) (base:=base) O Ad
 have zA:=J1 (P:=l.prog) (w:=w) (mg:=mg) (base:=base) O zJ
 have Fl:=Rm (P:=l.prog) (w:=w) (mg:=mg) (base:=base) O Fo
 have PJ:=Y6 (P:=l.prog) (w:=w) (mg:=mg) (base:=base) O Qe
 have Jb:=Us (P:=l.prog) (w:=w) (mg:=mg) (base:=base) O cV Ji
 have O4:=aa0 (P:=l.prog) (w:=w) (mg:=mg) (base:=base) abe gM qz kJ F1 (O1.mono (by decide)) b1 m1 F4
 have O5:=aa3 (P:=l.prog) (w:=w) (mg:=mg) (base:=base) F2 (O2.mono (by decide)) b2 m2 F5
 have O10:=ac7 (P:=l.prog) (w:=w) (mg:=mg) (base:=base) cV Rw Q0 F7 (O7.mono (by decide)) b7 m7 Qp F10
 have O23:=ac6 (P:=l.prog) (w:=w) (mg:=mg) (base:=base) JB cV Mq K9 W_ GR F22 (O22.mono (by decide)) b22 m22 F23
 have O27:=ac8 (P:=l.prog) (w:=w) (mg:=mg) (base:=base) F6 (O6.mono (by decide)) b6 m6 F27
 have O32:=YZ (P:=l.prog) (w:=w) (mg:=mg) (base:=base) O cu F1 (O1.mono (by decide)) b1 m1 eU jZ F32
 have O36:=Ow (P:=l.prog) (w:=w) (mg:=mg) (base:=base) O cu F35 (O35.mono (by decide)) b35 m35 eU F36
 have O37:=aa6 (P:=l.prog) (w:=w) (mg:=mg) (base:=base) O cu cV F35 (O35.mono (by decide)) b35 m35 eU F37
 have O42:=Wn (P:=l.prog) (w:=w) (mg:=mg) (base:=base) jC gM F42
 have O51:=Uq (P:=l.prog) (w:=w) (mg:=mg) (base:=base) F45 (O45.mono (by decide)) b45 m45 F51
 have O12:=aa2 (P:=l.prog) (w:=w) (mg:=mg) (base:=base) F6 (O6.mono (by decide)) b6 m6 F10 (O10.mono (by decide)) b10 m10 F12
 have O17:=Uk (P:=l.prog) (w:=w) (mg:=mg) (base:=base) fO eE jY iG Ar qQ Av qR F10 (O10.mono (by decide)) b10 m10 F8 (O8.mono (by decide)) b8 m8 F17
 have O18:=Ln (P:=l.prog) (w:=w) (mg:=mg) (base:=base) fO eE F10 (O10.mono (by decide)) b10 m10 F18
 have O24:=YX (P:=l.prog) (w:=w) (mg:=mg) (base:=base) F6 (O6.mono (by decide)) b6 m6 F10 (O10.mono (by decide)) b10 m10 F24
 have O34:=ae0 (P:=l.prog) (w:=w) (mg:=mg) (base:=base) O gM jZ N6 (N5.mono (by decide)) rY F34
 have O52:=Ox (P:=l.prog) (w:=w) (mg:=mg) (base:=base) F45 (O45.mono (by decide)) b45 m45 F50 (O50.mono (by decide)) b50 m50 F52
 have Kf:=G9 (P:=l.prog) (w:=w) (mg:=mg) (base:=base) O F3 (O3.mono (by decide)) b3 m3 wN
 have PK:=Lq (P:=l.prog) (w:=w) (mg:=mg) (base:=base) O nA WW Mj yg sH vR qp (zA.mono (by decide)) eV sJ (zY.mono (by decide)) fM Ac
 have O16:=aa4 (P:=l.prog) (w:=w) (mg:=mg) (base:=base) JD zO W6 GF oH kW jY iG Hq vP DW sW uK lY Mi pQ F10 (O10.mono (by decide)) b10 m10 F8 (O8.mono (by decide)) b8 m8 F16
 have O33:=aa1 (P:=l.prog) (w:=w) (mg:=mg) (base:=base) O cu F34 (O34.mono (by decide)) b34 m34 eU jZ F33
 have PB:=Lp (P:=l.prog) (w:=w) (mg:=mg) (base:=base) O oH kW fO eE F4 (O4.mono (by decide)) b4 m4 F5 (O5.mono (by decide)) b5 m5 F1 (O1.mono (by decide)) b1 m1 F2 (O2.mono (by decide)) b2 m2 vR sJ (zY.mono (by decide)) fM Ab
 have O44:=ae5 (P:=l.prog) (w:=w) (mg:=mg) (base:=base) cV jC F43 (O43.mono (by decide)) b43 m43 F44 b44 m44 3
 have O15:=aa5 (P:=l.prog) (w:=w) (mg:=mg) (base:=base) jC nA fO eE F8 (O8.mono (by decide)) b8 m8 F17 (O17.mono (by decide)) b17 m17 F18 (O18.mono (by decide)) b18 m18 F16 (O16.mono (by decide)) b16 m16 F10 (O10.mono (by decide)) b10 m10 F15
 have O31:=Um (P:=l.prog) (w:=w) (mg:=mg) (base:=base) F24 (O24.mono (by decide)) b24 m24 F10 (O10.mono (by decide)) b10 m10 F31
 have O14:=aaZ (P:=l.prog) (w:=w) (mg:=mg) (base:=base) F10 (O10.mono (by decide)) b10 m10 F15 (O15.mono (by decide)) b15 m15 F8 (O8.mono (by decide)) b8 m8 F14
 have O29:=Uo (P:=l.prog) (w:=w) (mg:=mg) (base:=base) F10 (O10.mono (by decide)) b10 m10 F24 (O24.mono (by decide)) b24 m24 F31 (O31.mono (by decide)) b31 m31 F29
 have O30:=Rj (P:=l.prog) (w:=w) (mg:=mg) (base:=base) F10 (O10.mono (by decide)) b10 m10 F24 (O24.mono (by decide)) b24 m24 F31 (O31.mono (by decide)) b31 m31 F30
 have O41:=agF (P:=l.prog) (w:=w) (mg:=mg) (base:=base) O JD zO Xa GJ qX oF W4 GC Ry Ca W5 GD W3 Gz F33 (O33.mono (by decide)) b33 m33 F32 (O32.mono (by decide)) b32 m32 eU Fb (Jc.mono (by decide)) ql F41
 have Tf:=Oz (P:=l.prog) (w:=w) (mg:=mg) (base:=base) O gM WY Tg (PB.mono (by decide)) uh CN
 have O13:=Wi (P:=l.prog) (w:=w) (mg:=mg) (base:=base) F9 (O9.mono (by decide)) b9 m9 F14 (O14.mono (by decide)) b14 m14 F10 (O10.mono (by decide)) b10 m10 F13
 have O28:=Wj (P:=l.prog) (w:=w) (mg:=mg) (base:=base) F6 (O6.mono (by decide)) b6 m6 F10 (O10.mono (by decide)) b10 m10 F30 (O30.mono (by decide)) b30 m30 F29 (O29.mono (by decide)) b29 m29 F28
 have Zn:=Wr (P:=l.prog) (w:=w) (mg:=mg) (base:=base) O Cm vN mq iY Ml yh qC kO sI mW F41 (O41.mono (by decide)) b41 m41 sH qM (Kf.mono (by decide)) qL qp (zA.mono (by decide)) eV Ks
 have O11:=Ul (P:=l.prog) (w:=w) (mg:=mg) (base:=base) F12 (O12.mono (by decide)) b12 m12 F13 (O13.mono (by decide)) b13 m13 F11
 have Zm:=Wq (P:=l.prog) (w:=w) (mg:=mg) (base:=base) O gM Cm vN qX oF rJ nq Rx Q5 F20 (O20.mono (by decide)) b20 m20 F36 (O36.mono (by decide)) b36 m36 vd (Tf.mono (by decide)) uV nZ (PJ.mono (by decide)) nR Bv (Zn.mono (by decide)) Bp Kr
 have O25:=Y0 (P:=l.prog) (w:=w) (mg:=mg) (base:=base) F10 (O10.mono (by decide)) b10 m10 F11 (O11.mono (by decide)) b11 m11 F25
 have O40:=ac5 (P:=l.prog) (w:=w) (mg:=mg) (base:=base) O W0 Ti (PK.mono (by decide)) um Bu (Zm.mono (by decide)) Bo j5 (Fl.mono (by decide)) j4 F40
 have O38:=ah7 (P:=l.prog) (w:=w) (mg:=mg) (base:=base) O F40 (O40.mono (by decide)) b40 m40 F19 (O19.mono (by decide)) b19 m19 F21 (O21.mono (by decide)) b21 m21 F37 (O37.mono (by decide)) b37 m37 mR (Jb.mono (by decide)) mO j5 (Fl.mono (by decide)) j4 nZ (PJ.mono (by decide)) nR F38
 have O39:=YT (P:=l.prog) (w:=w) (mg:=mg) (base:=base) O F40 (O40.mono (by decide)) b40 m40 F19 (O19.mono (by decide)) b19 m19 mR (Jb.mono (by decide)) mO F39
 have O26:=ae1 (P:=l.prog) (w:=w) (mg:=mg) (base:=base) F25 (O25.mono (by decide)) b25 m25 F28 (O28.mono (by decide)) b28 m28 F27 (O27.mono (by decide)) b27 m27 F26
 have O46:=(ac9 (P:=l.prog) (w:=w) (mg:=mg) (base:=base) jC cV F43 (O43.mono (by decide)) b43 m43 F44 (O44.mono (by decide)) b44 m44 F45 (O45.mono (by decide)) b45 m45 F46 b46 m46 F47 b47 m47 3 (by decide)).1
 have O47:=(ac9 (P:=l.prog) (w:=w) (mg:=mg) (base:=base) jC cV F43 (O43.mono (by decide)) b43 m43 F44 (O44.mono (by decide)) b44 m44 F45 (O45.mono (by decide)) b45 m45 F46 b46 m46 F47 b47 m47 3 (by decide)).2
 have O53:=Ur (P:=l.prog) (w:=w) (mg:=mg) (base:=base) abf F47 (O47.mono (by decide)) b47 m47 F52 (O52.mono (by decide)) b52 m52 F50 (O50.mono (by decide)) b50 m50 F51 (O51.mono (by decide)) b51 m51 F43 (O43.mono (by decide)) b43 m43 F53
 have O48:=ac_ (P:=l.prog) (w:=w) (mg:=mg) (base:=base) JC F48 b48 m48 20
 exact ok_law (P:=l.prog) (w:=w) (mg:=mg) (base:=base) gM F42 (O42.mono (by decide)) b42 m42 F43 (O43.mono (by decide)) b43 m43 F53 (O53.mono (by decide)) b53 m53 F44 (O44.mono (by decide)) b44 m44 F26 (O26.mono (by decide)) b26 m26 F49 (O49.mono (by decide)) b49 m49 F38 (O38.mono (by decide)) b38 m38 F21 (O21.mono (by decide)) b21 m21 F23 (O23.mono (by decide)) b23 m23 F39 (O39.mono (by decide)) b39 m39 F48 (O48.mono (by decide)) b48 m48 F54
theorem walk {l:PySem.W.OpenLaw}{q:Program}{loose:List Str}{XP:(Str→Option Value)→Heap→Prop}{YP:World→Heap→Prop}{d:DefRec}{K:Params→PySem.W.Frag} (hn:l.most=some 63) (hdf:d.params.defaults=[])
  (hY:∀ (w:World) (h:Heap),YP w h→(K w.params).In h)
  (F:∀ (w:World) (mg:Str→Option Value) (fa:Addr) (h:Heap),(K w.params).In h→h.Ns mainGlobals mg→mg d.name=some (.ref fa) →
   ∃ fd:FuncData,(∀ (s:Shared) (u:Value),BindsTo s fd ⟨[u],[]⟩ [("_law_script",u)])∧∀ base:Heap,(K w.params).In base→base.Ns mainGlobals mg→FnOk l.prog w (K w.params) mg base CX0 60 fa fd ["_law_script"] (spLaw (K w.params))) :
  PySem.W.WalkO q loose XP YP l.row.toRowW d [] (fun f vs=>PySem.call f vs) :=
 L2.walk_of (n:=63) (k:=60) (x:="_law_script") (CX:=fun _=>CX0) (sp:=fun w=>spLaw (K w.params)) hn (by decide) hdf ⟨rfl,by decide,by decide⟩ hY F (fun _ _ a ns hl _ hS=>⟨a,ns,rfl,hS,hl,fun _=>rfl⟩) fun _ _ _ _ _ z=>z
theorem aej {q:Program}{loose:List Str}{XP:(Str→Option Value)→Heap→Prop}{K:Params→PySem.W.Frag}{n t:Nat}{ad:List Addr}{r:PySem.W.RowW}{d:DefRec}{kwd:List (Str×Expr)}{run:Value→List Value→Sem Value}
  (h:PySem.W.WalkO q loose XP (fun w hp=>(K w.params).In hp) r d kwd run)
  (hI:∀ (w:World) (s₀ s₁:Shared) (args:List PySem.W.WData) (vals:List Value) (as:List Addr),PySem.W.X.obsZ ad s₀=PySem.W.X.valZ K n t w→PySem.W.Laid r.records w s₀ s₁ args vals as→(K w.params).In s₁.heap) :
  PySem.W.WalkX q loose XP (PySem.W.X.obsZ ad) (PySem.W.X.valZ K n t) r d kwd run :=
 fun w s₀ s₁ mg mb G y a o pm cd doc dV kV ho hd hcd hD hmg hg args vals as L hpre hlay hrd hwl hlo=>h w s₀ s₁ mg mb G (hI w s₀ s₁ args vals as y L) a o pm cd doc dV kV ho hd hcd hD hmg hg args vals as hpre hlay hrd hwl hlo
end fH
def PySem.W.Fast.tw12904937891924595192:Nat:=0
def PySem.W.Fast.tw10661731640673170513:Nat:=0
def PySem.W.Fast.tw15515113343818735533:Nat:=0
def PySem.W.Fast.tw14171624175394525038:Nat:=0
def PySem.W.Fast.tw3300814965041752052:Nat:=0
def PySem.W.Fast.tw13480224704173889786:Nat:=0
def PySem.W.Fast.tw11933274475732343770:Nat:=0
def PySem.W.Fast.tw5971258016150797285:Nat:=0
def PySem.W.Fast.tw6414994196028832301:Nat:=0
def PySem.W.Fast.tw17089109936236786043:Nat:=0
def PySem.W.Fast.tw10569752079339893921:Nat:=0
def PySem.W.Fast.tw15914281013901745275:Nat:=0
def PySem.W.Fast.tw4543511226928967351:Nat:=0
def PySem.W.Fast.tw17196678224973909030:Nat:=0
def PySem.W.Fast.tw16919500221891913477:Nat:=0
def PySem.W.Fast.tw835064514959847823:Nat:=0
def PySem.W.Fast.tw12968230221070743704:Nat:=0
def PySem.W.Fast.tw16745063328546505857:Nat:=0
def PySem.W.Fast.tw10092612707394423959:Nat:=0
def PySem.W.Fast.tw6079571277701100729:Nat:=0
def PySem.W.Fast.tw1129338588973859294:Nat:=0
def PySem.W.Fast.tw17469209803268056601:Nat:=0
def PySem.W.Fast.tw13324853353140201309:Nat:=0
def PySem.W.Fast.tw16212473995333578969:Nat:=0
def PySem.W.Fast.tw12506044231317515752:Nat:=0
def PySem.W.Fast.tw12577761080090153912:Nat:=0
def PySem.W.Fast.tw18355246509794231284:Nat:=0
def PySem.W.Fast.tw10674310137937484586:Nat:=0
def PySem.W.Fast.tw18190920867214798038:Nat:=0
def PySem.W.Fast.tw13323969474986075668:Nat:=0
def PySem.W.Fast.tw7476073223907916221:Nat:=0
def PySem.W.Fast.tw13636064929186687967:Nat:=0
def PySem.W.Fast.tw18353417863598510403:Nat:=0
def PySem.W.Fast.tw16004506405730198794:Nat:=0
def PySem.W.Fast.tw14715668126305320989:Nat:=0
def PySem.W.Fast.tw9227505475048691142:Nat:=0
def PySem.W.Fast.tw5317156326693141158:Nat:=0
def PySem.W.Fast.tw3042944089615021427:Nat:=0
def PySem.W.Fast.tw16327249860831189537:Nat:=0
def PySem.W.Fast.tw12314871327905266433:Nat:=0
def PySem.W.Fast.tw13299598258918909490:Nat:=0
def PySem.W.Fast.tw7652721760909049007:Nat:=0
open PySem PySem.W PyProof.Rows
set_option maxRecDepth 100000 in
set_option maxHeartbeats 0 in
theorem PySem.Challenge.cw_selfword_k74_knots_of_two_holds : PySem.Challenge.rw_selfword_k74_knots_of_two.Holds := by
 w_on; o_law; z_head; (case hw=>w_witness2)
 k_fill
 refine fH.aej (fH.walk (l:=PySem.Challenge.rw_selfword_k74_knots_of_two) rfl rfl (fun w h Y=>Y) ?F) ?I
 case I =>
  intro w s₀ s₁ args vals as y L
  z_open y L KX ZH ZN ZT
  exact KX
 case F =>
  intro w mg fa h KX G hmg
  refine' fH.all_mk KX G hmg ?a1 ?l1 ?c1 ?k1 ?a2 ?l2 ?c2 ?k2 ?a3 ?l3 ?c3 ?k3 ?a4 ?l4 ?c4 ?k4 ?a5 ?l5 ?c5 ?k5 ?a6 ?l6 ?c6 ?k6 ?a7 ?l7 ?c7 ?k7 ?a8 ?l8 ?c8 ?k8 ?a9 ?l9 ?c9 ?k9 ?a10 ?l10 ?c10 ?k10 ?a11 ?l11 ?c11 ?k11 ?a12 ?l12 ?c12 ?k12 ?a13 ?l13 ?c13 ?k13 ?a14 ?l14 ?c14 ?k14 ?a15 ?l15 ?c15 ?k15 ?a16 ?l16 ?c16 ?k16 ?a17 ?l17 ?c17 ?k17 ?a18 ?l18 ?c18 ?k18 ?a19 ?l19 ?c19 ?k19 ?a20 ?l20 ?c20 ?k20 ?a21 ?l21 ?c21 ?k21 ?a22 ?l22 ?c22 ?k22 ?a23 ?l23 ?c23 ?k23 ?a24 ?l24 ?c24 ?k24 ?a25 ?l25 ?c25 ?k25 ?a26 ?l26 ?c26 ?k26 ?a27 ?l27 ?c27 ?k27 ?a28 ?l28 ?c28 ?k28 ?a29 ?l29 ?c29 ?k29 ?a30 ?l30 ?c30 ?k30 ?a31 ?l31 ?c31 ?k31 ?a32 ?l32 ?c32 ?k32 ?a33 ?l33 ?c33 ?k33 ?a34 ?l34 ?c34 ?k34 ?a35 ?l35 ?c35 ?k35 ?a36 ?l36 ?c36 ?k36 ?a37 ?l37 ?c37 ?k37 ?a38 ?l38 ?c38 ?k38 ?a39 ?l39 ?c39 ?k39 ?a40 ?l40 ?c40 ?k40 ?a41 ?l41 ?c41 ?k41 ?a42 ?l42 ?c42 ?k42 ?a43 ?l43 ?c43 ?k43 ?a44 ?l44 ?c44 ?k44 ?a45 ?l45 ?c45 ?k45 ?a46 ?l46 ?c46 ?k46 ?a47 ?l47 ?c47 ?k47 ?a48 ?l48 ?c48 ?k48 ?a49 ?l49 ?c49 ?k49 ?a50 ?l50 ?c50 ?k50 ?a51 ?l51 ?c51 ?k51 ?a52 ?l52 ?c52 ?k52 ?a53 ?l53 ?c53 ?k53 ?a54 ?l54 ?c54 ?k54 ?EY ?Dw ?Eb ?Dv ?Dn ?DQ ?D_ ?uJ ?rH ?NQ ?Lg ?MF ?K_ ?K7 ?Mf ?Mt ?yw ?wz ?Tc ?Q_ ?RQ ?Q6 ?QM ?Rp ?RJ ?Ak ?Aj ?DP ?Hi ?Al ?Ai ?Te ?Rb ?RW ?Q8 ?QX ?Rr ?RL ?Ao ?yu ?NT ?Lh ?MJ ?La ?K8 ?Mg ?Mu ?yx ?wA ?Td ?Ra ?RT ?Q7 ?QV ?Rq ?RK ?wu ?yt ?uI ?Am ?Ec ?DK ?Dg ?Dm ?Eo ?MP ?LK ?Kv ?K6 ?Nr ?cn ?ct ?iTF ?iTL ?iFF ?iLF ?iLL ?gJ ?pY ?pW ?qj ?pX ?iR ?rP ?rK ?rT ?rN ?jf ?tR ?tG ?t_ ?tL ?iC ?qJ ?qI ?qK ?lR ?d7 ?tV ?tK ?ud ?tQ ?jD ?uM ?uL ?uU ?qF ?dN ?rQ ?rM ?rW ?rO ?jg ?tU ?tH ?uc ?tO ?gA ?wC ?wB ?wG ?rC ?jq ?Ea ?DY ?Ep ?wU ?iw ?yF ?yE ?yW ?tM ?oX ?Ay ?Aw ?Bh ?vA ?oY ?Az ?Ax ?Bj ?vB ?HB ?mW ?Ei ?kO ?yH ?pP ?yI ?iY ?Hy ?vO ?Xy ?GJ ?Xq ?GC ?R4 ?Ca ?Xu ?GD ?Xp ?Gz ?M5 ?yg ?Xr ?vN ?M9 ?yh ?R3 ?RG ?Qq ?R0 ?JF ?Qi ?Qj ?Ef ?kJ ?Xw ?kW ?RZ ?eE ?abB ?zO ?Xv ?GF ?wD ?iG ?Hz ?vP ?Eh ?sW ?uN ?lY ?M4 ?Mr ?Kz ?A_ ?qQ ?Ba ?qR ?M8 ?nq ?Xo ?oF ?M_ ?Ms ?KC ?Xx ?Xc ?Vf ?lE0 ?tE0 ?lE1 ?tE1 ?lE2 ?tE2 ?lE3 ?tE3 ?lE4 ?tE4 ?lE5 ?tE5 ?lE6 ?tE6 ?lE7 ?tE7 ?lE8 ?tE8 ?lE9 ?tE9 ?afe ?aez ?afd ?aey ?afc ?aex ?afb ?aew ?afa ?aev ?aaA ?aaB ?Qg ?CQ ?Qh ?aaz ?aay ?xP ?aaD ?aaC ?Ve
  (case a1=>k_is); (case l1=>k_is); (case c1=>k_is); (case k1=>k_is)
  (case a2=>k_is); (case l2=>k_is); (case c2=>k_is); (case k2=>k_is)
  (case a3=>k_is); (case l3=>k_is); (case c3=>k_is); (case k3=>k_is)
  (case a4=>k_is); (case l4=>k_is); (case c4=>k_is); (case k4=>k_is)
  (case a5=>k_is); (case l5=>k_is); (case c5=>k_is); (case k5=>k_is)
  (case a6=>k_is); (case l6=>k_is); (case c6=>k_is); (case k6=>k_is)
  (case a7=>k_is); (case l7=>k_is); (case c7=>k_is); (case k7=>k_is)
  (case a8=>k_is); (case l8=>k_is); (case c8=>k_is); (case k8=>k_is)
  (case a9=>k_is); (case l9=>k_is); (case c9=>k_is); (case k9=>k_is)
  (case a10=>k_is); (case l10=>k_is); (case c10=>k_is); (case k10=>k_is)
  (case a11=>k_is); (case l11=>k_is); (case c11=>k_is); (case k11=>k_is)
  (case a12=>k_is); (case l12=>k_is); (case c12=>k_is); (case k12=>k_is)
  (case a13=>k_is); (case l13=>k_is); (case c13=>k_is); (case k13=>k_is)
  (case a14=>k_is); (case l14=>k_is); (case c14=>k_is); (case k14=>k_is)
  (case a15=>k_is); (case l15=>k_is); (case c15=>k_is); (case k15=>k_is)
  (case a16=>k_is); (case l16=>k_is); (case c16=>k_is); (case k16=>k_is)
  (case a17=>k_is); (case l17=>k_is); (case c17=>k_is); (case k17=>k_is)
  (case a18=>k_is); (case l18=>k_is); (case c18=>k_is); (case k18=>k_is)
  (case a19=>k_is); (case l19=>k_is); (case c19=>k_is); (case k19=>k_is)
  (case a20=>k_is); (case l20=>k_is); (case c20=>k_is); (case k20=>k_is)
  (case a21=>k_is); (case l21=>k_is); (case c21=>k_is); (case k21=>k_is)
  (case a22=>k_is); (case l22=>k_is); (case c22=>k_is); (case k22=>k_is)
  (case a23=>k_is); (case l23=>k_is); (case c23=>k_is); (case k23=>k_is)
  (case a24=>k_is); (case l24=>k_is); (case c24=>k_is); (case k24=>k_is)
  (case a25=>k_is); (case l25=>k_is); (case c25=>k_is); (case k25=>k_is)
  (case a26=>k_is); (case l26=>k_is); (case c26=>k_is); (case k26=>k_is)
  (case a27=>k_is); (case l27=>k_is); (case c27=>k_is); (case k27=>k_is)
  (case a28=>k_is); (case l28=>k_is); (case c28=>k_is); (case k28=>k_is)
  (case a29=>k_is); (case l29=>k_is); (case c29=>k_is); (case k29=>k_is)
  (case a30=>k_is); (case l30=>k_is); (case c30=>k_is); (case k30=>k_is)
  (case a31=>k_is); (case l31=>k_is); (case c31=>k_is); (case k31=>k_is)
  (case a32=>k_is); (case l32=>k_is); (case c32=>k_is); (case k32=>k_is)
  (case a33=>k_is); (case l33=>k_is); (case c33=>k_is); (case k33=>k_is)
  (case a34=>k_is); (case l34=>k_is); (case c34=>k_is); (case k34=>k_is)
  (case a35=>k_is); (case l35=>k_is); (case c35=>k_is); (case k35=>k_is)
  (case a36=>k_is); (case l36=>k_is); (case c36=>k_is); (case k36=>k_is)
  (case a37=>k_is); (case l37=>k_is); (case c37=>k_is); (case k37=>k_is)
  (case a38=>k_is); (case l38=>k_is); (case c38=>k_is); (case k38=>k_is)
  (case a39=>k_is); (case l39=>k_is); (case c39=>k_is); (case k39=>k_is)
  (case a40=>k_is); (case l40=>k_is); (case c40=>k_is); (case k40=>k_is)
  (case a41=>k_is); (case l41=>k_is); (case c41=>k_is); (case k41=>k_is)
  (case a42=>k_is); (case l42=>k_is); (case c42=>k_is); (case k42=>k_is)
  (case a43=>k_is); (case l43=>k_is); (case c43=>k_is); (case k43=>k_is)
  (case a44=>k_is); (case l44=>k_is); (case c44=>k_is); (case k44=>k_is)
  (case a45=>k_is); (case l45=>k_is); (case c45=>k_is); (case k45=>k_is)
  (case a46=>k_is); (case l46=>k_is); (case c46=>k_is); (case k46=>k_is)
  (case a47=>k_is); (case l47=>k_is); (case c47=>k_is); (case k47=>k_is)
  (case a48=>k_is); (case l48=>k_is); (case c48=>k_is); (case k48=>k_is)
  (case a49=>k_is); (case l49=>k_is); (case c49=>k_is); (case k49=>k_is)
  (case a50=>k_is); (case l50=>k_is); (case c50=>k_is); (case k50=>k_is)
  (case a51=>k_is); (case l51=>k_is); (case c51=>k_is); (case k51=>k_is)
  (case a52=>k_is); (case l52=>k_is); (case c52=>k_is); (case k52=>k_is)
  (case a53=>k_is); (case l53=>k_is); (case c53=>k_is); (case k53=>k_is)
  (case a54=>k_is); (case l54=>k_is); (case c54=>k_is); (case k54=>k_is)
  (case EY=>k_is)
  (case Dw=>k_is)
  (case Eb=>k_is)
  (case Dv=>k_is)
  (case Dn=>k_is)
  (case DQ=>k_is)
  (case D_=>k_is)
  (case uJ=>k_is)
  (case rH=>k_is)
  (case NQ=>k_is)
  (case Lg=>k_is)
  (case MF=>k_is)
  (case K_=>k_is)
  (case K7=>k_is)
  (case Mf=>k_is)
  (case Mt=>k_is)
  (case yw=>k_is)
  (case wz=>k_is)
  (case Tc=>k_is)
  (case Q_=>k_is)
  (case RQ=>k_is)
  (case Q6=>k_is)
  (case QM=>k_is)
  (case Rp=>k_is)
  (case RJ=>k_is)
  (case Ak=>k_is)
  (case Aj=>k_is)
  (case DP=>k_is)
  (case Hi=>k_is)
  (case Al=>k_is)
  (case Ai=>k_is)
  (case Te=>k_is)
  (case Rb=>k_is)
  (case RW=>k_is)
  (case Q8=>k_is)
  (case QX=>k_is)
  (case Rr=>k_is)
  (case RL=>k_is)
  (case Ao=>k_is)
  (case yu=>k_is)
  (case NT=>k_is)
  (case Lh=>k_is)
  (case MJ=>k_is)
  (case La=>k_is)
  (case K8=>k_is)
  (case Mg=>k_is)
  (case Mu=>k_is)
  (case yx=>k_is)
  (case wA=>k_is)
  (case Td=>k_is)
  (case Ra=>k_is)
  (case RT=>k_is)
  (case Q7=>k_is)
  (case QV=>k_is)
  (case Rq=>k_is)
  (case RK=>k_is)
  (case wu=>k_is)
  (case yt=>k_is)
  (case uI=>k_is)
  (case Am=>k_is)
  (case Ec=>k_is)
  (case DK=>k_is)
  (case Dg=>k_is)
  (case Dm=>k_is)
  (case Eo=>k_is)
  (case MP=>k_is)
  (case LK=>k_is)
  (case Kv=>k_is)
  (case K6=>k_is)
  (case Nr=>k_is)
  (case cn=>k_is)
  (case ct=>k_is)
  (case iTF=>kit_is)
  (case iTL=>kit_is)
  (case iFF=>kit_is)
  (case iLF=>kit_is)
  (case iLL=>kit_is)
  (case gJ=>k_is)
  (case pY=>k_is)
  (case pW=>k_is)
  (case qj=>k_is)
  (case pX=>k_is)
  (case iR=>k_is)
  (case rP=>k_is)
  (case rK=>k_is)
  (case rT=>k_is)
  (case rN=>k_is)
  (case jf=>k_is)
  (case tR=>k_is)
  (case tG=>k_is)
  (case t_=>k_is)
  (case tL=>k_is)
  (case iC=>k_is)
  (case qJ=>k_is)
  (case qI=>k_is)
  (case qK=>k_is)
  (case lR=>k_is)
  (case d7=>k_is)
  (case tV=>k_is)
  (case tK=>k_is)
  (case ud=>k_is)
  (case tQ=>k_is)
  (case jD=>k_is)
  (case uM=>k_is)
  (case uL=>k_is)
  (case uU=>k_is)
  (case qF=>k_is)
  (case dN=>k_is)
  (case rQ=>k_is)
  (case rM=>k_is)
  (case rW=>k_is)
  (case rO=>k_is)
  (case jg=>k_is)
  (case tU=>k_is)
  (case tH=>k_is)
  (case uc=>k_is)
  (case tO=>k_is)
  (case gA=>k_is)
  (case wC=>k_is)
  (case wB=>k_is)
  (case wG=>k_is)
  (case rC=>k_is)
  (case jq=>k_is)
  (case Ea=>k_is)
  (case DY=>k_is)
  (case Ep=>k_is)
  (case wU=>k_is)
  (case iw=>k_is)
  (case yF=>k_is)
  (case yE=>k_is)
  (case yW=>k_is)
  (case tM=>k_is)
  (case oX=>k_is)
  (case Ay=>k_is)
  (case Aw=>k_is)
  (case Bh=>k_is)
  (case vA=>k_is)
  (case oY=>k_is)
  (case Az=>k_is)
  (case Ax=>k_is)
  (case Bj=>k_is)
  (case vB=>k_is)
  (case HB=>k_is)
  (case mW=>exact⟨_,rfl⟩)
  (case Ei=>k_is)
  (case kO=>exact⟨_,rfl⟩)
  (case yH=>k_is)
  (case pP=>exact⟨_,rfl⟩)
  (case yI=>k_is)
  (case iY=>exact⟨_,rfl⟩)
  (case Hy=>k_is)
  (case vO=>exact⟨_,rfl⟩)
  (case Xy=>k_is)
  (case GJ=>exact⟨_,rfl⟩)
  (case Xq=>k_is)
  (case GC=>exact⟨_,rfl⟩)
  (case R4=>k_is)
  (case Ca=>exact⟨_,rfl⟩)
  (case Xu=>k_is)
  (case GD=>exact⟨_,rfl⟩)
  (case Xp=>k_is)
  (case Gz=>exact⟨_,rfl⟩)
  (case M5=>k_is)
  (case yg=>exact⟨_,rfl⟩)
  (case Xr=>k_is)
  (case vN=>exact⟨_,rfl⟩)
  (case M9=>k_is)
  (case yh=>exact⟨_,rfl⟩)
  (case R3=>k_is)
  (case RG=>k_is)
  (case Qq=>exact⟨_,_,rfl,rfl,by decide,by repeat (first | exact .nil | refine .cons ⟨_,rfl⟩ ?_)⟩)
  (case R0=>k_is)
  (case JF=>k_is)
  (case Qi=>exact⟨_,_,rfl,rfl,by decide,by repeat (first | exact .nil | refine .cons ⟨_,rfl⟩ ?_)⟩)
  (case Qj=>exact⟨rfl,rfl⟩)
  (case Ef=>k_is)
  (case kJ=>exact⟨_,rfl⟩)
  (case Xw=>k_is)
  (case kW=>exact⟨_,rfl⟩)
  (case RZ=>k_is)
  (case eE=>exact⟨_,rfl⟩)
  (case abB=>k_is)
  (case zO=>exact⟨_,rfl⟩)
  (case Xv=>k_is)
  (case GF=>exact⟨_,rfl⟩)
  (case wD=>k_is)
  (case iG=>exact⟨_,rfl⟩)
  (case Hz=>k_is)
  (case vP=>exact⟨_,rfl⟩)
  (case Eh=>k_is)
  (case sW=>exact⟨_,rfl⟩)
  (case uN=>k_is)
  (case lY=>exact⟨_,rfl⟩)
  (case M4=>k_is)
  (case Mr=>k_is)
  (case Kz=>exact⟨_,_,rfl,rfl,by decide,by repeat (first | exact .nil | refine .cons ⟨_,rfl⟩ ?_)⟩)
  (case A_=>k_is)
  (case qQ=>exact⟨_,rfl⟩)
  (case Ba=>k_is)
  (case qR=>exact⟨_,rfl⟩)
  (case M8=>k_is)
  (case nq=>exact⟨_,rfl⟩)
  (case Xo=>k_is)
  (case oF=>exact⟨_,rfl⟩)
  (case M_=>k_is)
  (case Ms=>k_is)
  (case KC=>exact⟨_,_,rfl,rfl,by decide,by repeat (first | exact .nil | refine .cons ⟨_,rfl⟩ ?_)⟩)
  (case Xx=>k_is)
  (case Xc=>k_is)
  (case Vf=>exact⟨_,_,rfl,rfl,by decide,by repeat (first | exact .nil | refine .cons rfl ?_)⟩)
  (case lE0=>k_is)
  (case tE0=>exact⟨_,_,rfl,rfl,by decide,by repeat (first | exact .nil | refine .cons ⟨_,rfl⟩ ?_)⟩)
  (case lE1=>k_is)
  (case tE1=>exact⟨_,_,rfl,rfl,by decide,by repeat (first | exact .nil | refine .cons ⟨_,rfl⟩ ?_)⟩)
  (case lE2=>k_is)
  (case tE2=>exact⟨_,_,rfl,rfl,by decide,by repeat (first | exact .nil | refine .cons ⟨_,rfl⟩ ?_)⟩)
  (case lE3=>k_is)
  (case tE3=>exact⟨_,_,rfl,rfl,by decide,by repeat (first | exact .nil | refine .cons ⟨_,rfl⟩ ?_)⟩)
  (case lE4=>k_is)
  (case tE4=>exact⟨_,_,rfl,rfl,by decide,by repeat (first | exact .nil | refine .cons ⟨_,rfl⟩ ?_)⟩)
  (case lE5=>k_is)
  (case tE5=>exact⟨_,_,rfl,rfl,by decide,by repeat (first | exact .nil | refine .cons ⟨_,rfl⟩ ?_)⟩)
  (case lE6=>k_is)
  (case tE6=>exact⟨_,_,rfl,rfl,by decide,by repeat (first | exact .nil | refine .cons ⟨_,rfl⟩ ?_)⟩)
  (case lE7=>k_is)
  (case tE7=>exact⟨_,_,rfl,rfl,by decide,by repeat (first | exact .nil | refine .cons ⟨_,rfl⟩ ?_)⟩)
  (case lE8=>k_is)
  (case tE8=>exact⟨_,_,rfl,rfl,by decide,by repeat (first | exact .nil | refine .cons ⟨_,rfl⟩ ?_)⟩)
  (case lE9=>k_is)
  (case tE9=>exact⟨_,_,rfl,rfl,by decide,by repeat (first | exact .nil | refine .cons ⟨_,rfl⟩ ?_)⟩)
  (case afe=>k_is)
  (case aez=>exact⟨_,_,rfl,rfl,by decide,by repeat (first | exact .nil | refine .cons ⟨_,rfl⟩ ?_)⟩)
  (case afd=>k_is)
  (case aey=>exact⟨_,_,rfl,rfl,by decide,by repeat (first | exact .nil | refine .cons ⟨_,rfl⟩ ?_)⟩)
  (case afc=>k_is)
  (case aex=>exact⟨_,_,rfl,rfl,by decide,by repeat (first | exact .nil | refine .cons ⟨_,rfl⟩ ?_)⟩)
  (case afb=>k_is)
  (case aew=>exact⟨_,_,rfl,rfl,by decide,by repeat (first | exact .nil | refine .cons ⟨_,rfl⟩ ?_)⟩)
  (case afa=>k_is)
  (case aev=>exact⟨_,_,rfl,rfl,by decide,by repeat (first | exact .nil | refine .cons ⟨_,rfl⟩ ?_)⟩)
  (case aaA=>k_is)
  (case aaB=>k_is)
  (case Qg=>k_is)
  (case CQ=>k_is)
  (case Qh=>k_is)
  (case aaz=>k_is)
  (case aay=>k_is)
  (case xP=>k_is)
  (case aaD=>k_is)
  (case aaC=>k_is)
  (case Ve=>k_is)
#print axioms PySem.Challenge.cw_selfword_k74_knots_of_two_holds
