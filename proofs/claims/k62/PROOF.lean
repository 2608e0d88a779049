import PyProof.Rows.All
import Wide.All
import OpenK.AllK
import Wide.FinOn
import PyProof.EqAt
import PyProof.EqKinds
import PyProof.TupleCall
import PySem.Challenge.RW_selfword_k62_towers
set_option Elab.async false
set_option linter.all false
set_option maxRecDepth 100000
namespace L2
open PySem PySem.Spec PyProof.Rows
abbrev Key:=Sum Int Str
def keyIs:Key→Value→Bool
 | .inl k,v=>Value.isInt k v
 | .inr x,v=>Value.isStrOf x v
def keyH (w:World):Key→Int
 | .inl k=>hashInt k
 | .inr x=>hashStr w x
theorem keyIs_shape:∀ {k:Key}{v:Value},keyIs k v=true→(∃ i t,k=Sum.inl i∧v=Value.int i t)∨(∃ x t,k=Sum.inr x∧v=Value.str x t)
 | .inl i,v,h=>by
  obtain⟨t,e⟩:=Value.isInt_shape (k:=i) (v:=v) h
  exact .inl ⟨i,t,rfl,e⟩
 | .inr x,v,h=>by
  obtain⟨t,e⟩:=Value.isStrOf_shape (x:=x) (v:=v) h
  exact .inr ⟨x,t,rfl,e⟩
theorem key_ll (a b:Int):decide ((Sum.inl a:Key)=Sum.inl b)=(a == b):=by
 by_cases e:a=b
 ·subst e; simp
 ·have h:¬ (Sum.inl a:Key)=Sum.inl b:=fun q=>e (Sum.inl.inj q)
  rw [decide_eq_false h]
  exact (beq_eq_false_iff_ne.mpr e).symm
theorem key_rr (a b:Str):decide ((Sum.inr a:Key)=Sum.inr b)=decide (a=b):=by
 by_cases e:a=b
 ·subst e; simp
 ·have h:¬ (Sum.inr a:Key)=Sum.inr b:=fun q=>e (Sum.inr.inj q)
  rw [decide_eq_false h,decide_eq_false e]
theorem key_lr (a:Int) (b:Str):decide ((Sum.inl a:Key)=Sum.inr b)=false:=decide_eq_false (fun q=>nomatch q)
theorem key_rl (a:Str) (b:Int):decide ((Sum.inr a:Key)=Sum.inl b)=false:=decide_eq_false (fun q=>nomatch q)
def mixKind (prog:Program) (w:World):PySem.KeyKind prog w Key where
 is:=keyIs
 hash:=keyH w
 inj:=fun v a b ha hb=>by
  rcases keyIs_shape ha with⟨i,t,rfl,rfl⟩ | ⟨x,t,rfl,rfl⟩
  ·rcases keyIs_shape hb with⟨j,u,rfl,e⟩ | ⟨y,u,rfl,e⟩
   ·injection e with e1 _; rw [e1]
   ·exact nomatch e
  ·rcases keyIs_shape hb with⟨j,u,rfl,e⟩ | ⟨y,u,rfl,e⟩
   ·exact nomatch e
   ·injection e with e1 _; rw [e1]
 byValue:=fun k v h=>by
  rcases keyIs_shape h with⟨i,t,rfl,rfl⟩ | ⟨x,t,rfl,rfl⟩ <;> rfl
 pyHash:=fun hv h=>by
  rcases keyIs_shape hv with⟨i,t,rfl,rfl⟩ | ⟨x,t,rfl,rfl⟩
  ·exact wpAny_pyHash_int h
  ·exact wpAny_pyHash_str h
 eqBool:=fun hu hv h=>by
  rcases keyIs_shape hu with⟨i,t,rfl,rfl⟩ | ⟨x,t,rfl,rfl⟩
  ·rcases keyIs_shape hv with⟨j,u,rfl,rfl⟩ | ⟨y,u,rfl,rfl⟩
   ·rw [key_ll] at h; exact wpAny_eqBool_int h
   ·rw [key_lr] at h; exact SeqAt.EqAt.int_str i t y u _ _ _ _ h
  ·rcases keyIs_shape hv with⟨j,u,rfl,rfl⟩ | ⟨y,u,rfl,rfl⟩
   ·rw [key_rl] at h; exact SeqAt.EqAt.str_int x t j u _ _ _ _ h
   ·rw [key_rr] at h; exact wpAny_eqBool_str h
 «strs»:=fun k x t v h=>by
  rcases keyIs_shape h with⟨i,u,rfl,e⟩ | ⟨y,u,rfl,e⟩
  ·exact nomatch e
  ·injection e with e1 _
   subst e1
   cases v <;> rfl
inductive V where
 | non | bl (b:Bool) | int (i:Int) | str (x:Str) | byt (b:Array UInt8) | flt (b:UInt64) | ref (a:Addr) | ty (n:String)
 deriving DecidableEq
def RelV:V→Value→Prop
 | .non,u=>u=Value.none
 | .bl b,u=>u=Value.bool b
 | .int i,u=>∃ t,u=Value.int i t
 | .str x,u=>∃ t,u=Value.str x t
 | .byt b,u=>∃ t,u=Value.bytes b t
 | .flt b,u=>∃ t,u=Value.float b t
 | .ref a,u=>u=Value.ref a
 | .ty n,u=>u=Value.type n
abbrev Vals:List V→List Value→Prop:=Paired RelV
theorem Vals.length {xs:List V}{us:List Value} (r:Vals xs us):xs.length=us.length:=Paired.length r
theorem Vals.get:∀ {xs:List V}{us:List Value}{i:Nat}{x:V},Vals xs us→xs[i]?=some x→∃ u,us[i]?=some u∧RelV x u
 | _,_,_,_,.nil,e=>by simp at e
 | _,_,0,_,.cons r _,e=>by simp at e; subst e; exact⟨_,rfl,r⟩
 | _,_,i+1,x,.cons _ t,e=>by
  obtain⟨u,h1,h2⟩:=Vals.get (i:=i) (x:=x) t (by simpa using e)
  exact⟨u,by simpa using h1,h2⟩
theorem Vals.set {x:V}{u:Value} (r:RelV x u):∀ {xs:List V}{us:List Value} (i:Nat),Vals xs us→Vals (xs.set i x) (us.set i u)
 | _,_,_,.nil=>.nil
 | _,_,0,.cons _ t=>.cons r t
 | _,_,i+1,.cons q t=>.cons q (Vals.set r i t)
theorem Vals.append:∀ {xs ys:List V}{us ws:List Value},Vals xs us→Vals ys ws→Vals (xs++ys) (us++ws)
 | _,_,_,_,.nil,s=>s
 | _,_,_,_,.cons r t,s=>.cons r (Vals.append t s)
theorem Vals.take:∀ {xs:List V}{us:List Value} (n:Nat),Vals xs us→Vals (xs.take n) (us.take n)
 | _,_,0,_=>.nil
 | _,_,_+1,.nil=>.nil
 | _,_,n+1,.cons r t=>.cons r (Vals.take n t)
theorem Vals.drop:∀ {xs:List V}{us:List Value} (n:Nat),Vals xs us→Vals (xs.drop n) (us.drop n)
 | _,_,0,r=>r
 | _,_,_+1,.nil=>.nil
 | _,_,n+1,.cons _ t=>Vals.drop n t
def RelO:Option V→Option Value→Prop
 | some v,some u=>RelV v u
 | none,none=>True
 | _,_=>False
def KV {κ:Type}:List (κ×V)→List (κ×Value)→Prop:=Paired fun (p:κ×V) (q:κ×Value)=>p.1=q.1∧RelV p.2 q.2
def kV:Key→V
 | .inl i=>.int i
 | .inr x=>.str x
inductive HO where
 | lst (xs:List V)
 | tup (xs:List V)
 | dK (kvs:List (Key×V)) | dT (kvs:List (List Key×V))
 | set (S:Int→Bool) (n:Nat)
 | ins (C dx:Addr) (fs:List (Str×V))
 | own (x:Addr)
 | xd (fs:List (Str×V))
 | met (f x:Addr)
 | rng (lo hi:Int)
 | frz (o:Obj) (u:HO)
 | tbl (ps:Array Value)
 | ext (φ:Heap→Prop)
abbrev Hp:=Addr→Option HO
def upd (H:Hp) (a:Addr) (o:HO):Hp:=fun b=>if b=a then some o else H b
theorem upd_same {H:Hp}{a:Addr}{o:HO}:upd H a o a=some o:=by unfold upd; rw [if_pos rfl]
theorem upd_ne {H:Hp}{a b:Addr}{o:HO} (h:b≠a):upd H a o b=H b:=by unfold upd; rw [if_neg h]
theorem OD {H:Hp}{a:Addr}{o u:HO}:upd (upd H a o) a u=upd H a u:=by
 funext b; unfold upd; split <;> rfl
theorem ne_of {H:Hp}{a b:Addr}{o u:HO} (h:H a=some o) (h':H b=some u) (d:o≠u):a≠b:=by
 intro e; subst e; rw [h] at h'; exact d (Option.some.inj h')
theorem ne_of_none {H:Hp}{a b:Addr}{o:HO} (h:H a=some o) (h':H b=none):a≠b:=by
 intro e; subst e; rw [h] at h'; cases h'
section
variable (P:Program) (w:World)
def ObjOk (H:Hp) (h:Heap) (a:Addr):HO→Prop
 | .lst xs=>xs.length≤sizeLine∧∃ (its:List Value) (n:Nat),Vals xs its∧h.get? a=some { cls:=.type "list",data:=.seq its.toArray n }
 | .tup xs=>xs.length≤sizeLine∧∃ its:List Value,Vals xs its∧IsTup h a its.toArray
 | .dK kvs=>kvs.length≤sizeLine∧(a == sysModules)=false∧∃ vs,KV kvs vs∧h.DictOf (mixKind P w) a vs
 | .dT kvs=>kvs.length≤sizeLine∧(a == sysModules)=false∧∃ xs:List (List Key×Addr×Value),
   Paired (fun (p:List Key×V) (q:List Key×Addr×Value)=>p.1=q.1∧H q.2.1=some (.tup (p.1.map kV))∧RelV p.2 q.2.2) kvs xs ∧
   ∃ o es ep,h.get? a=some o∧o.ExactDict∧o.data=.dict es ep∧es.toList=xs.map (entryOfKey (tupleKind (mixKind P w)))∧(xs.map (·.1)).Nodup
 | .set S n=>h.SetOf (intKind P w) a S n
 | .ins C dx fs=>H dx=some (.own a)∧fs.length≤1000∧dx≠a∧h.get? a=some (PySem.W.instObj C dx) ∧
   ∃ mA,h.Ns1 dx mA∧(∀ f,RelO (fs.lookup f) (mA f))∧PySem.Within mA (fs.map (·.1))
 | .own _=>∃ o,h.get? a=some o
 | .xd fs=>∃ mA,h.Ns1 a mA∧∀ f,RelO (fs.lookup f) (mA f)
 | .rng lo hi=>∃ t u v,h.get? a=some { cls:=.type "range",data:=.fields #[.int lo t,.int hi u,.int 1 v] }
 | .frz o u=>h.get? a=some o∧ObjOk H h a u
 | .tbl ps=>h.get? a=some { cls:=.none,data:=.fields ps }
 | .met f x=>h.get? a=some (PySem.W.methodObj (.ref f) (.ref x))
 | .ext φ=>φ h∧(∃ o,h.get? a=some o)∧∀ h1 h2:Heap,φ h1→(∀ o,h1.get? a=some o→h2.get? a=some o)→φ h2
def HOk (H:Hp) (h:Heap):Prop:=∀ a o,H a=some o→ObjOk P w H h a o
end
section
variable {P:Program}{w:World}{H H':Hp}{h h':Heap}{a:Addr}{o:HO}
theorem ObjOk.lt (x:ObjOk P w H h a o):a<h.objs.size:=by
 cases o with
 | lst xs=>obtain⟨_,_,_,_,e⟩:=x; exact Heap.lt_size e
 | tup xs=>obtain⟨_,_,_,p⟩:=x; exact p.lt
 | dK kvs=>obtain⟨_,_,_,_,o,_,_,e,_⟩:=x; exact Heap.lt_size e
 | dT kvs=>obtain⟨_,_,_,_,o,_,_,e,_⟩:=x; exact Heap.lt_size e
 | set S n=>obtain⟨o,_,_,_,e,_⟩:=x; exact Heap.lt_size e
 | ins C dx fs=>obtain⟨_,_,_,e,_⟩:=x; exact Heap.lt_size e
 | own y=>obtain⟨_,e⟩:=x; exact Heap.lt_size e
 | xd fs=>obtain⟨_,⟨_,_,_,e,_⟩,_⟩:=x; exact Heap.lt_size e
 | rng lo hi=>obtain⟨_,_,_,e⟩:=x; exact Heap.lt_size e
 | frz ob u=>obtain⟨e,_⟩:=x; exact Heap.lt_size e
 | tbl ps=>exact Heap.lt_size (show h.get? a=some _ from x)
 | met f y=>exact Heap.lt_size (show h.get? a=some _ from x)
 | ext φ=>obtain⟨_,⟨_,e⟩,_⟩:=x; exact Heap.lt_size e
theorem Paired.mapP {α β:Type}{F G:α→β→Prop}:∀ {l₁:List α}{l₂:List β},Paired F l₁ l₂→(∀ a b,F a b→G a b)→Paired G l₁ l₂
 | _,_,.nil,_=>.nil
 | _,_,.cons r t,f=>.cons (f _ _ r) (Paired.mapP t f)
theorem ObjOk.stay (x:ObjOk P w H h a o) (k:∀ b u,(b=a∨H b=some (.own a))→h.get? b=some u→h'.get? b=some u)
  (ho:∀ b,H b=some (.own a)→H' b=some (.own a)) (ht:∀ b xs,H b=some (.tup xs)→H' b=some (.tup xs)):ObjOk P w H' h' a o:=by
 induction o with
 | lst xs=>obtain⟨z,its,n,r,e⟩:=x; exact⟨z,its,n,r,k _ _ (.inl rfl) e⟩
 | tup xs=>obtain⟨z,its,r,ob,e,c⟩:=x; exact⟨z,its,r,ob,k _ _ (.inl rfl) e,c⟩
 | dK kvs=>obtain⟨z,y,vs,r,ob,es,ep,e,c⟩:=x; exact⟨z,y,vs,r,ob,es,ep,k _ _ (.inl rfl) e,c⟩
 | dT kvs =>
  obtain⟨z,y,xs,r,ob,es,ep,e,c⟩:=x
  exact⟨z,y,xs,Paired.mapP r fun p q z=>⟨z.1,ht _ _ z.2.1,z.2.2⟩,ob,es,ep,k _ _ (.inl rfl) e,c⟩
 | set S n=>obtain⟨ob,es,ep,t,e,c⟩:=x; exact⟨ob,es,ep,t,k _ _ (.inl rfl) e,c⟩
 | ins C dx fs =>
  obtain⟨d,z,ne,e,mA,⟨od,es,ep,e2,c⟩,r⟩:=x
  exact⟨ho _ d,z,ne,k _ _ (.inl rfl) e,mA,⟨od,es,ep,k _ _ (.inr d) e2,c⟩,r⟩
 | own y=>obtain⟨ob,e⟩:=x; exact⟨ob,k _ _ (.inl rfl) e⟩
 | xd fs=>obtain⟨mA,⟨od,es,ep,e,c⟩,r⟩:=x; exact⟨mA,⟨od,es,ep,k _ _ (.inl rfl) e,c⟩,r⟩
 | rng lo hi=>obtain⟨t,u,v,e⟩:=x; exact⟨t,u,v,k _ _ (.inl rfl) e⟩
 | frz ob u ih=>obtain⟨e,q⟩:=x; exact⟨k _ _ (.inl rfl) e,ih q⟩
 | tbl ps =>
  have e:h.get? a=some { cls:=.none,data:=.fields ps }:=x
  show h'.get? a=some { cls:=.none,data:=.fields ps }
  exact k a _ (.inl rfl) e
 | met f y =>
  have e:h.get? a=some (PySem.W.methodObj (.ref f) (.ref y)):=x
  show h'.get? a=some (PySem.W.methodObj (.ref f) (.ref y))
  exact k a _ (.inl rfl) e
 | ext φ=>obtain⟨p,⟨o,e⟩,st⟩:=x; exact⟨st _ _ p fun o q=>k _ _ (.inl rfl) q,⟨o,k _ _ (.inl rfl) e⟩,st⟩
theorem HOk.lt (x:HOk P w H h) (e:H a=some o):a<h.objs.size:=(x a o e).lt
theorem HOk.fresh (x:HOk P w H h) (e:h.objs.size≤a):H a=none:=by
 cases q:H a with
 | none=>rfl
 | some u=>exact absurd (Nat.lt_of_lt_of_le (x.lt q) e) (Nat.lt_irrefl _)
theorem HOk.kept (x:HOk P w H h) (k:∀ b u,h.get? b=some u→h'.get? b=some u):HOk P w H h':=fun a o e =>
 (x a o e).stay (fun b u _ q=>k b u q) (fun _ q=>q) fun _ _ q=>q
theorem HOk.laid (x:HOk P w H h) (k:∀ b u,h.get? b=some u→h'.get? b=some u) (hp:h.objs.size≤a) (new:ObjOk P w (upd H a o) h' a o):HOk P w (upd H a o) h':=fun b u e=>by
 have hn:=x.fresh hp
 by_cases hb:b=a
 ·subst hb; rw [upd_same] at e; cases e; exact new
 ·rw [upd_ne hb] at e
  exact (x b u e).stay (fun c v _ q=>k c v q) (fun c q=>by rw [upd_ne (ne_of_none q hn)]; exact q) fun c xs q=>by rw [upd_ne (ne_of_none q hn)]; exact q
end
def Rd (H:Hp) (a:Addr) (u:HO):Prop:=H a=some u∨∃ o,H a=some (.frz o u)
theorem Rd.ok {P:Program}{w:World}{H:Hp}{h:Heap}{a:Addr}{u:HO} (r:Rd H a u) (x:HOk P w H h):ObjOk P w H h a u:=by
 rcases r with r | ⟨o,r⟩
 ·exact x a u r
 ·obtain⟨_,q⟩:=x a _ r
  exact q
def Mut:Option HO→Prop
 | some (.lst _)=>True
 | some (.dK _)=>True
 | some (.dT _)=>True
 | some (.set _ _)=>True
 | some (.ins _ _ _)=>True
 | some (.ext _)=>True
 | _=>False
section
variable {P:Program}{w:World}{H:Hp}{h h':Heap}{x e:Addr}{o':HO}
theorem HOk.write (ok:HOk P w H h) (mu:Mut (H x)) (he:e=x∨H e=some (.own x)) (k:∀ b u,b≠e→h.get? b=some u→h'.get? b=some u) (heo:∃ u,h'.get? e=some u)
  (new:ObjOk P w (upd H x o') h' x o'):HOk P w (upd H x o') h':=fun b u q=>by
 have nown:∀ c y,H c=some (.own y)→c≠x:=fun c y r z=>by subst z; rw [r] at mu; exact mu
 have ntup:∀ c xs,H c=some (.tup xs)→c≠x:=fun c xs r z=>by subst z; rw [r] at mu; exact mu
 by_cases hb:b=x
 ·subst hb; rw [upd_same] at q; cases q; exact new
 ·rw [upd_ne hb] at q
  by_cases hbe:b=e
  ·have q':H b=some (.own x):=by
    rcases he with z | z
    ·exact absurd (hbe.trans z) hb
    ·rw [hbe]; exact z
   rw [q] at q'; cases q'
   obtain⟨v,hv⟩:=heo
   exact⟨v,by rw [hbe]; exact hv⟩
  ·refine (ok b u q).stay (fun c v hc r=>k c v ?_ r) (fun c r=>by rw [upd_ne (nown c b r)]; exact r) fun c xs r=>by rw [upd_ne (ntup c xs r)]; exact r
   rcases hc with rfl | hc
   ·exact hbe
   ·rintro rfl
    rcases he with z | z
    ·exact nown c b hc z
    ·rw [hc] at z; cases z; exact hb rfl
end
structure Un (fs ex:List Addr) (H H':Hp) (h h':Heap):Prop where
 keep:∀ b o,h.get? b=some o→H b=none→b ∉ fs→b ∉ ex→h'.get? b=some o
 slot:∀ b o,h.get? b=some o→H b=none→b∈fs→b ∉ ex→∃ sl,h'.get? b=some { o with slots:=sl }
 free:∀ b o,h.get? b=some o→H b=none→b ∉ ex→H' b=none
 there:∀ b o,h.get? b=some o→b ∉ ex→∃ o',h'.get? b=some o'
 tups:∀ b xs,H b=some (.tup xs)→H' b=some (.tup xs)
 frzs:∀ b o u,H b=some (.frz o u)→H' b=some (.frz o u)
 tbls:∀ b ps,H b=some (.tbl ps)→∃ more,H' b=some (.tbl (ps++more))
section
variable {fs fs' ex ex':List Addr}{H H1 H2:Hp}{h h1 h2 h':Heap}{a x e:Addr}{o:HO}
theorem Un.any (u:Un fs ex H H1 h h1) {b:Addr}{ob:Obj} (q:h.get? b=some ob) (n:H b=none) (hx:b ∉ ex):∃ sl,h1.get? b=some { ob with slots:=sl }:=by
 by_cases hb:b∈fs
 ·exact u.slot b ob q n hb hx
 ·exact⟨ob.slots,u.keep b ob q n hb hx⟩
theorem Un.kept (k:∀ b u,h.get? b=some u→h'.get? b=some u):Un fs ex H H h h' :=
 ⟨fun b ob q _ _ _=>k b ob q,fun b ob q _ _ _=>⟨ob.slots,k b ob q⟩,fun _ _ _ n _=>n,fun b ob q _=>⟨ob,k b ob q⟩,fun _ _ q=>q,fun _ _ _ q=>q,fun _ ps q=>⟨#[],by rw [q]; simp⟩⟩
theorem Un.refl:Un fs ex H H h h:=Un.kept fun _ _ q=>q
theorem Un.laid (k:∀ b u,h.get? b=some u→h'.get? b=some u) (hp:h.objs.size≤a) (hn:H a=none):Un fs ex H (upd H a o) h h' where
 keep:=fun b u q _ _ _=>k b u q
 slot:=fun b u q _ _ _=>⟨u.slots,k b u q⟩
 free:=fun b u q n _=>by rw [upd_ne (Nat.ne_of_lt (Nat.lt_of_lt_of_le (Heap.lt_size q) hp))]; exact n
 there:=fun b u q _=>⟨u,k b u q⟩
 tups:=fun b xs q=>by rw [upd_ne (ne_of_none q hn)]; exact q
 frzs:=fun b u xs q=>by rw [upd_ne (ne_of_none q hn)]; exact q
 tbls:=fun b ps q=>⟨#[],by rw [upd_ne (ne_of_none q hn),q]; simp⟩
theorem Un.write (mu:Mut (H x)) (he:e=x∨H e=some (.own x)) (k:∀ b u,b≠e→h.get? b=some u→h'.get? b=some u) (heo:∃ u,h'.get? e=some u):Un fs ex H (upd H x o) h h':=by
 have hx:∀ b,H b=none→b≠x:=fun b n z=>by subst z; rw [n] at mu; exact mu
 have hb:∀ b,H b=none→b≠e:=fun b n z=>by
  subst z
  rcases he with r | r
  ·exact hx b n r
  ·rw [n] at r; cases r
 have hm:∀ b u,H b=some u→¬ Mut (some u)→b≠x:=fun b u q nm z=>by subst z; rw [q] at mu; exact nm mu
 refine⟨fun b u q n _ _=>k b u (hb b n) q,fun b u q n _ _=>⟨u.slots,k b u (hb b n) q⟩,fun b u q n _=>by rw [upd_ne (hx b n)]; exact n,fun b u q _=>?_,
  fun b xs q=>by rw [upd_ne (hm b _ q fun z=>z)]; exact q,fun b u xs q=>by rw [upd_ne (hm b _ q fun z=>z)]; exact q,fun b ps q=>⟨#[],by rw [upd_ne (hm b _ q fun z=>z),q]; simp⟩⟩
 by_cases hbe:b=e
 ·subst hbe; exact heo
 ·exact⟨u,k b u hbe q⟩
end
def trk (h:Heap) (H:Hp):List Addr:=(List.range h.objs.size).filter fun a=>(H a).isSome
def hidT (h:Heap) (H:Hp):Heap:=PySem.W.hideAll h (trk h H)
theorem hidT_size (h:Heap) (H:Hp):(hidT h H).objs.size=h.objs.size:=PySem.W.hideAll_size _ _
theorem hidT_get {h:Heap}{H:Hp}{b:Addr}{o:Obj} (e:h.get? b=some o) (n:H b=none):(hidT h H).get? b=some o :=
 PySem.W.hideAll_get _ e fun hm=>by
  have q:(H b).isSome=true:=(List.mem_filter.mp hm).2
  rw [n] at q; simp at q
theorem of_hidT {h:Heap}{H:Hp}{b:Addr}{o:Obj} (e:(hidT h H).get? b=some o):h.get? b=some o∧H b=none:=by
 have e':h.get? b=some o:=PySem.W.of_hideAll (trk h H) e
 refine⟨e',?_⟩
 cases q:H b with
 | none=>rfl
 | some x =>
  have hm:b∈trk h H:=List.mem_filter.mpr ⟨List.mem_range.mpr (Heap.lt_size e'),by simp [q]⟩
  have z:(hidT h H).get? b=none:=PySem.W.hideAll_none (trk h H) hm
  rw [z] at e; cases e
structure Mod (K:PySem.W.Frag) (mg:Str→Option Value) (base:Heap):Prop where
 kin:K.In base
 glob:base.Ns mainGlobals mg
 blt:∃ mb,base.Ns builtinsNs mb∧∀ x:Str,x≠"__name__"→mb x=bootBuiltins x
 nolimit:base.NoLimit
structure Cx where
 prog:Program
 w:World
 K:PySem.W.Frag
 mg:Str→Option Value
 base:Heap
 A:Around
 N:List Str
 s₀:Shared
 H₀:Hp
 env:Env
 outer:List Env
 stack:List Env
 ex:List Addr
 fn:Str→Bool
 calm:Bool
 pn:List (Addr×Obj)
 xe:Value→Shared→Prop
def frs (l:List Env):List Addr:=l.filterMap (·.frame)
abbrev Cx.fs (X:Cx):List Addr:=frs X.outer
def Vis (sc:Scope) (x:Str):Prop:=sc.names.lookup x=some .local∨sc.names.lookup x=some .cell∨sc.names.lookup x=some .free
def Loc (sc:Scope) (x:Str):Prop:=sc.names.lookup x=some .local∨sc.names.lookup x=some .cell
def Look (env:Env) (h:Heap) (m:Str→Option Value) (x:Str) (u:Value):Prop :=
 (env.kindOf x=some .local∧m x=some u)∨((env.kindOf x=some .cell∨env.kindOf x=some .free)∧∃ c,env.cells.lookup x=some c∧h.IsCell c (some u))
structure Cx.Ok (X:Cx):Prop where
 mod:Mod X.K X.mg X.base
 kind:X.env.scope.kind=.function
 glob:X.env.globals=mainGlobals
 blt:X.env.builtins=builtinsNs
 above:X.s₀.heap.objs.size≤X.env.locals
 inj:∀ x y c,X.env.cells.lookup x=some c→X.env.cells.lookup y=some c→x=y
 has:∀ x,(X.env.kindOf x=some .cell∨X.env.kindOf x=some .free)→∃ c,X.env.cells.lookup x=some c
 cab:∀ x c,X.fn x=true→X.env.cells.lookup x=some c→X.s₀.heap.objs.size≤c
 hd:X.calm=true→X.A.handled=none
 frames:X.A.frames=some X.stack
 stk:X.stack=X.outer∨(X.stack=X.env::X.outer∧X.env.frame=some X.env.locals)
 exf:∀ b∈X.ex,b≠X.env.locals∧∀ x c,X.env.cells.lookup x=some c→c≠b
 bs:∀ b o,X.base.get? b=some o→X.s₀.heap.get? b=some o∧X.H₀ b=none
 bsz:X.base.objs.size≤X.s₀.heap.objs.size
 noex:∀ b o,X.base.get? b=some o→b ∉ X.ex
 exfs:∀ b∈X.ex,b ∉ X.fs
 funs:X.s₀.heap.FunFrames X.base X.outer
 frf:∀ b∈X.fs,X.H₀ b=none
structure Inv (X:Cx) (pins:List (Addr×Obj)) (σ:List (Option V)) (H:Hp) (s:Shared):Prop where
 ok:X.Ok
 os:s.os=X.s₀.os
 bare:AllBare s.gens
 base:Un X.fs X.ex X.H₀ H X.s₀.heap s.heap
 loc:∃ m,s.heap.Ns X.env.locals m∧∀ (i:Nat) (x:Str) (v:V),X.N[i]?=some x→σ[i]?=some (some v)→Vis X.env.scope x→∃ u,RelV v u∧Look X.env s.heap m x u
 cell:∀ x c,X.env.cells.lookup x=some c→∃ v,s.heap.IsCell c v
 free:H X.env.locals=none
 freeC:∀ x c,X.env.cells.lookup x=some c→H c=none
 pin:∀ p∈X.pn++pins,s.heap.get? p.1=some p.2∧H p.1=none∧p.1≠X.env.locals∧p.1 ∉ X.fs∧∀ v,p.2.data≠.cell v
 hok:HOk X.prog X.w H s.heap
 len:σ.length=X.N.length
section
variable {X:Cx}{pins:List (Addr×Obj)}{σ:List (Option V)}{H H':Hp}{s:Shared}{h':Heap}
theorem Cx.Ok.nofr (ok:X.Ok) {b:Addr}{o:Obj} (e:X.base.get? b=some o):b ∉ X.fs:=fun hb=>by
 have:=(ok.funs.mem hb).1
 rw [e] at this; cases this
theorem Inv.bs (I:Inv X pins σ H s):∀ b o,X.base.get? b=some o→s.heap.get? b=some o∧H b=none:=fun b o e =>
 ⟨I.base.keep b o (I.ok.bs b o e).1 (I.ok.bs b o e).2 (I.ok.nofr e) (I.ok.noex b o e),I.base.free b o (I.ok.bs b o e).1 (I.ok.bs b o e).2 (I.ok.noex b o e)⟩
theorem Inv.bk (I:Inv X pins σ H s):∀ b o,X.base.get? b=some o→s.heap.get? b=some o:=fun b o e=>(I.bs b o e).1
theorem Inv.mod (I:Inv X pins σ H s):Mod X.K X.mg X.base:=I.ok.mod
theorem Inv.kIn (I:Inv X pins σ H s):X.K.In s.heap:=I.ok.mod.kin.keeps I.bk
theorem Inv.lt (I:Inv X pins σ H s):X.env.locals<s.heap.objs.size:=let ⟨_,hn,_⟩:=I.loc; hn.lt
theorem Inv.sz (I:Inv X pins σ H s):X.s₀.heap.objs.size≤s.heap.objs.size:=Nat.le_trans I.ok.above (Nat.le_of_lt I.lt)
theorem Inv.nofs (I:Inv X pins σ H s) {a:Addr} (h:s.heap.objs.size≤a):a ∉ X.fs:=fun hb=>by
 obtain⟨_,o,ho,_⟩:=I.ok.funs.mem hb
 exact absurd (Nat.lt_of_lt_of_le (Heap.lt_size ho) (Nat.le_trans I.sz h)) (Nat.lt_irrefl _)
theorem Inv.cne (I:Inv X pins σ H s):∀ x c,X.env.cells.lookup x=some c→c≠X.env.locals:=fun x c e z=>by
 obtain⟨v,o,ho,hd⟩:=I.cell x c e
 obtain⟨m,⟨o',es,ep,ho',hd',_⟩,_⟩:=I.loc
 rw [z,ho'] at ho; cases ho; rw [hd'] at hd; cases hd
theorem Inv.funs (I:Inv X pins σ H s):s.heap.FunFrames X.base X.outer:=by
 have all:∀ (l:List Env),(∀ b∈frs l,b∈X.fs)→X.s₀.heap.FunFrames X.base l→s.heap.FunFrames X.base l:=by
  intro l
  induction l with
  | nil=>intro _ _; trivial
  | cons env r ih =>
   intro hs hl
   obtain⟨hk,⟨L,o,hf,hn,ho,hd⟩,hr⟩:=hl
   have hL:L∈X.fs:=hs L (by unfold frs; rw [List.filterMap_cons,hf]; exact List.mem_cons_self)
   obtain⟨sl,e⟩:=I.base.slot L o ho (I.ok.frf L hL) hL fun z=>I.ok.exfs L z hL
   exact⟨hk,⟨L,_,hf,hn,e,hd⟩,ih (fun b hb=>hs b (by unfold frs; rw [List.filterMap_cons,hf]; exact List.mem_cons_of_mem _ hb)) hr⟩
 exact all X.outer (fun _ hb=>hb) I.ok.funs
theorem Inv.stack (I:Inv X pins σ H s):s.heap.FunFrames X.base X.stack:=by
 rcases I.ok.stk with e | ⟨e,hf⟩
 ·rw [e]; exact I.funs
 ·rw [e]
  obtain⟨m,hn,_⟩:=I.loc
  refine .cons (by rw [I.ok.kind]; decide) hf hn ?_ I.funs
  exact Heap.get?_none_of_le (Nat.le_trans I.ok.bsz I.ok.above)
theorem Inv.stkSub (I:Inv X pins σ H s):∀ b∈frs X.stack,b∈X.env.locals::X.fs:=fun b hb=>by
 rcases I.ok.stk with e | ⟨e,hf⟩
 ·rw [e] at hb; exact List.mem_cons_of_mem _ hb
 ·rw [e] at hb
  unfold frs at hb
  rw [List.filterMap_cons,hf] at hb
  exact hb
theorem Inv.stkFree (I:Inv X pins σ H s):∀ b∈frs X.stack,H b=none:=fun b hb=>by
 rcases List.mem_cons.mp (I.stkSub b hb) with e | hb
 ·rw [e]; exact I.free
 ·obtain⟨_,o,ho,_⟩:=I.ok.funs.mem hb
  exact I.base.free b o ho (I.ok.frf b hb) fun z=>I.ok.exfs b z hb
theorem Inv.step {g':Array GenState}{t':Nat}{d':Drawn}{ch:List Addr} (I:Inv X pins σ H s)
  (hch:∀ b∈ch,(b∈X.ex∨X.s₀.heap.objs.size≤b)∧b≠X.env.locals∧(∀ x c,X.env.cells.lookup x=some c→c≠b)∧∀ p∈X.pn++pins,p.1≠b)
  (keep:∀ b o,b≠X.env.locals→b ∉ X.fs→b ∉ ch→s.heap.get? b=some o→H b=none→h'.get? b=some o)
  (slot:∀ b o,b≠X.env.locals→b∈X.fs→b ∉ ch→s.heap.get? b=some o→H b=none→∃ sl,h'.get? b=some { o with slots:=sl }) (free:∀ b o,b ∉ ch→s.heap.get? b=some o→H b=none→H' b=none)
  (there:∀ b o,b ∉ ch→s.heap.get? b=some o→∃ o',h'.get? b=some o')
  (tups:∀ b xs,H b=some (.tup xs)→H' b=some (.tup xs)) (frzs:∀ b o u,H b=some (.frz o u)→H' b=some (.frz o u)) (tbls:∀ b ps,H b=some (.tbl ps)→∃ more,H' b=some (.tbl (ps++more)))
  (ns:∀ m,s.heap.Ns X.env.locals m→h'.Ns X.env.locals m) (hok:HOk X.prog X.w H' h') (hg:AllBare g') :
  Inv X pins σ H' { s with heap:=h',gens:=g',drawn:=d',toks:=t' }:=by
 have neL:∀ b o,X.s₀.heap.get? b=some o→b≠X.env.locals:=fun b o e=>Nat.ne_of_lt (Nat.lt_of_lt_of_le (Heap.lt_size e) I.ok.above)
 have neC:∀ b o,X.s₀.heap.get? b=some o→b ∉ X.ex→b ∉ ch:=fun b o e hx hb=>by
  rcases (hch b hb).1 with z | z
  ·exact hx z
  ·exact absurd (Nat.lt_of_lt_of_le (Heap.lt_size e) z) (Nat.lt_irrefl _)
 have cellK:∀ x c,X.env.cells.lookup x=some c→∀ v,s.heap.IsCell c v→h'.IsCell c v:=fun x c e v ⟨o,ho,hd⟩=>by
  have nch:c ∉ ch:=fun z=>(hch c z).2.2.1 x c e rfl
  by_cases hc:c∈X.fs
  ·obtain⟨sl,q⟩:=slot c o (I.cne x c e) hc nch ho (I.freeC x c e)
   exact⟨_,q,hd⟩
  ·exact⟨o,keep c o (I.cne x c e) hc nch ho (I.freeC x c e),hd⟩
 refine⟨I.ok,I.os,hg,⟨fun b o e n hb hx=>?_,fun b o e n hb hx=>?_,fun b o e n hx=>?_,fun b o e hx=>?_,fun b xs e=>tups b xs (I.base.tups b xs e),fun b o xs e=>frzs b o xs (I.base.frzs b o xs e),fun b ps e=>?_⟩,?_,fun x c e=>?_,?_,fun x c e=>?_,fun p hp=>?_,hok,I.len⟩
 ·exact keep b o (neL b o e) hb (neC b o e hx) (I.base.keep b o e n hb hx) (I.base.free b o e n hx)
 ·obtain⟨sl,e1⟩:=I.base.slot b o e n hb hx
  obtain⟨sl',e2⟩:=slot b _ (neL b o e) hb (neC b o e hx) e1 (I.base.free b o e n hx)
  exact⟨sl',e2⟩
 ·obtain⟨o',e1⟩:=I.base.there b o e hx
  exact free b o' (neC b o e hx) e1 (I.base.free b o e n hx)
 ·obtain⟨o',e1⟩:=I.base.there b o e hx
  exact there b o' (neC b o e hx) e1
 ·obtain⟨m1,e1⟩:=I.base.tbls b ps e
  obtain⟨m2,e2⟩:=tbls b _ e1
  exact⟨m1++m2,by rw [e2,Array.append_assoc]⟩
 ·obtain⟨m,hn,hl⟩:=I.loc
  refine⟨m,ns m hn,fun i x v e1 e2 e3=>?_⟩
  obtain⟨u,r,l⟩:=hl i x v e1 e2 e3
  refine⟨u,r,?_⟩
  rcases l with l | ⟨k,c,e,z⟩
  ·exact .inl l
  ·exact .inr ⟨k,c,e,cellK x c e _ z⟩
 ·obtain⟨v,z⟩:=I.cell x c e
  exact⟨v,cellK x c e v z⟩
 ·obtain⟨m,⟨o,_,_,ho,_⟩,_⟩:=I.loc
  exact free _ o (fun z=>(hch _ z).2.1 rfl) ho I.free
 ·obtain⟨v,o,ho,hd⟩:=I.cell x c e
  exact free c o (fun z=>(hch c z).2.2.1 x c e rfl) ho (I.freeC x c e)
 ·obtain⟨e,n,ne,nf,d⟩:=I.pin p hp
  have nch:p.1 ∉ ch:=fun z=>(hch p.1 z).2.2.2 p hp rfl
  exact⟨keep p.1 p.2 ne nf nch e n,free p.1 p.2 nch e n,ne,nf,d⟩
theorem Inv.un {t':Nat} (I:Inv X pins σ H s) (u:Un X.fs [] H H' s.heap h') (hok:HOk X.prog X.w H' h'):Inv X pins σ H' { s with heap:=h',toks:=t' }:=by
 obtain⟨m,⟨o,es,ep,ho,r⟩,_⟩:=id I.loc
 obtain⟨sl,hL⟩:=u.any ho I.free (by simp)
 exact I.step (g':=s.gens) (d':=s.drawn) (ch:=[]) (fun _ z=>nomatch z) (fun b o _ hb _ e n=>u.keep b o e n hb (by simp)) (fun b o _ hb _ e n=>u.slot b o e n hb (by simp)) (fun b o _ e n=>u.free b o e n (by simp)) (fun b o _ e=>u.there b o e (by simp)) u.tups u.frzs u.tbls (fun m' hm=>by
  obtain⟨o',es',ep',ho',r'⟩:=hm
  rw [ho] at ho'; cases ho'
  exact⟨_,es',ep',hL,r'⟩) hok I.bare
theorem Inv.call {g':Array GenState}{t':Nat}{d':Drawn}{ch:List Addr} (I:Inv X pins σ H s) (u:Un (frs X.stack) ch H H' s.heap h') (hok:HOk X.prog X.w H' h') (hg:AllBare g')
  (hch:∀ b∈ch,(b∈X.ex∨X.s₀.heap.objs.size≤b)∧b≠X.env.locals∧(∀ x c,X.env.cells.lookup x=some c→c≠b)∧∀ p∈X.pn++pins,p.1≠b) :
  Inv X pins σ H' { s with heap:=h',gens:=g',drawn:=d',toks:=t' }:=by
 obtain⟨m,⟨o,es,ep,ho,r⟩,_⟩:=id I.loc
 obtain⟨sl,hL⟩:=u.any ho I.free fun z=>(hch _ z).2.1 rfl
 exact I.step (ch:=ch) hch (fun b o hL hb hc e n=>u.keep b o e n (fun z=>(List.mem_cons.mp (I.stkSub b z)).elim hL hb) hc) (fun b o _ _ hc e n=>u.any e n hc) (fun b o hc e n=>u.free b o e n hc) (fun b o hc e=>u.there b o e hc) u.tups u.frzs u.tbls (fun m' hm=>by
  obtain⟨o',es',ep',ho',r'⟩:=hm
  rw [ho] at ho'; cases ho'
  exact⟨_,es',ep',hL,r'⟩) hok hg
theorem Inv.turned {t':Nat}{it:Addr} (I:Inv X pins σ H s) (k:∀ b o,b≠it→s.heap.get? b=some o→h'.get? b=some o) (hn:H it=none) (hL:it≠X.env.locals)
  (h1:it∈X.ex∨X.s₀.heap.objs.size≤it) (h2:∀ x c,X.env.cells.lookup x=some c→c≠it) (h3:∀ p∈X.pn++pins,p.1≠it):Inv X pins σ H { s with heap:=h',toks:=t' }:=by
 have nit:∀ b u,H b=some u→b≠it:=fun b u e z=>by rw [z,hn] at e; cases e
 refine I.step (g':=s.gens) (d':=s.drawn) (ch:=[it]) (fun b hb=>?_) (fun b o _ _ hc e _=>k b o (fun z=>hc (by simp [z])) e) (fun b o _ _ hc e _=>⟨o.slots,k b o (fun z=>hc (by simp [z])) e⟩) (fun _ _ _ _ n=>n)
  (fun b o hc e=>⟨o,k b o (fun z=>hc (by simp [z])) e⟩) (fun _ _ e=>e) (fun _ _ _ e=>e) (fun b ps e=>⟨#[],by rw [e]; simp⟩) (fun m hm=>?_) (fun b u e=>?_) I.bare
 ·have e:b=it:=by simpa using hb
  subst e
  exact⟨h1,hL,h2,h3⟩
 ·obtain⟨o,es,ep,ho,r⟩:=hm
  exact⟨o,es,ep,k _ o (Ne.symm hL) ho,r⟩
 ·refine (I.hok b u e).stay (fun c v hc q=>k c v ?_ q) (fun _ q=>q) fun _ _ q=>q
  rcases hc with z | z
  ·rw [z]; exact nit b u e
  ·exact nit c _ z
theorem Inv.tok (I:Inv X pins σ H s) (t:Nat):Inv X pins σ H { s with toks:=t }:=I.un (h':=s.heap) (t':=t) Un.refl I.hok
theorem Inv.kept {t':Nat} (I:Inv X pins σ H s) (k:∀ b u,s.heap.get? b=some u→h'.get? b=some u):Inv X pins σ H { s with heap:=h',toks:=t' }:=I.un (Un.kept k) (I.hok.kept k)
theorem Inv.laid {a:Addr}{o:HO}{t':Nat} (I:Inv X pins σ H s) (k:∀ b u,s.heap.get? b=some u→h'.get? b=some u) (hp:s.heap.objs.size≤a) (new:ObjOk X.prog X.w (upd H a o) h' a o) :
  Inv X pins σ (upd H a o) { s with heap:=h',toks:=t' }:=I.un (Un.laid k hp (I.hok.fresh hp)) (I.hok.laid k hp new)
theorem Inv.write {x e:Addr}{o:HO}{t':Nat} (I:Inv X pins σ H s) (mu:Mut (H x)) (he:e=x∨H e=some (.own x)) (k:∀ b u,b≠e→s.heap.get? b=some u→h'.get? b=some u) (heo:∃ u,h'.get? e=some u)
  (new:ObjOk X.prog X.w (upd H x o) h' x o):Inv X pins σ (upd H x o) { s with heap:=h',toks:=t' }:=I.un (Un.write mu he k heo) (I.hok.write mu he k heo new)
theorem Inv.pins_of {pins':List (Addr×Obj)} (I:Inv X pins σ H s) (h:∀ p∈pins',s.heap.get? p.1=some p.2∧H p.1=none∧p.1≠X.env.locals∧p.1 ∉ X.fs∧∀ v,p.2.data≠.cell v):Inv X pins' σ H s :=
 ⟨I.ok,I.os,I.bare,I.base,I.loc,I.cell,I.free,I.freeC,fun p hp=>(List.mem_append.mp hp).elim (fun z=>I.pin p (List.mem_append_left _ z)) (h p),I.hok,I.len⟩
theorem nodup_ix {N:List Str} (hN:N.Nodup) {i j:Nat}{x:Str} (a:N[i]?=some x) (b:N[j]?=some x):i=j:=by
 obtain⟨h1,e1⟩:=List.getElem?_eq_some_iff.mp a
 obtain⟨h2,e2⟩:=List.getElem?_eq_some_iff.mp b
 exact (List.getElem_inj hN).mp (e1.trans e2.symm)
theorem store_ok2 {M:Model}{A:Around}{E:Value→Shared→Prop}{i:Nat}{x:Str}{v:V}{u:Value}{Q:Unit→Shared→Prop} (I:Inv X pins σ H s) (hN:X.N.Nodup) (hi:X.N[i]?=some x) (hx:Loc X.env.scope x) (r:RelV v u)
  (h:∀ s',Inv X pins (σ.set i (some v)) H s'→(∃ a,Heap.SameBut a s.heap s'.heap∧(a=X.env.locals∨X.env.cells.lookup x=some a))→Q () s') (hf:X.fn x=true∨X.env.scope.names.lookup x=some .local:=by first | exact .inl rfl | exact .inr rfl | assumption):wpAny M A (storeName X.env x u) Q E s:=by
 obtain⟨m,hn,hl⟩:=id I.loc
 have hcls:(X.env.scope.kind == .class || (X.env.scope.kind == .module && X.env.locals != X.env.globals))=false:=by rw [I.ok.kind]; rfl
 have hiσ:i<σ.length:=by rw [I.len]; exact (List.getElem?_eq_some_iff.mp hi).1
 have cne:=I.cne
 have tracked:∀ {a:Addr}{h':Heap},(∃ o,s.heap.get? a=some o∧H a=none)→Heap.SameBut a s.heap h'→HOk X.prog X.w H h':=fun {a h'} ha hs b ob e=>by
  obtain⟨_,_,hfree⟩:=ha
  refine (I.hok b ob e).stay (fun c w' hc q=>(hs.2 c ?_).trans q) (fun _ q=>q) fun _ _ q=>q
  rintro rfl
  rcases hc with rfl | hc
  ·rw [hfree] at e; cases e
  ·rw [hfree] at hc; cases hc
 rcases hx with hk | hk
 ·refine wpAny_storeName_local hk hn (fun h' hn' hs=>?_) hcls
  obtain⟨oL,_,_,hoL,_⟩:=id hn
  refine h _ ⟨I.ok,I.os,I.bare,⟨fun b o e n hb hx=>?_,fun b o e n hb hx=>?_,I.base.free,fun b o e hx=>?_,I.base.tups,I.base.frzs,I.base.tbls⟩,⟨_,hn',fun j y v' e1 e2 e3=>?_⟩,fun y c e=>?_,I.free,I.freeC,fun p hp=>?_,tracked ⟨oL,hoL,I.free⟩ hs,by simpa using I.len⟩ ⟨_,hs,.inl rfl⟩
  ·exact (hs.2 b (Nat.ne_of_lt (Nat.lt_of_lt_of_le (Heap.lt_size e) I.ok.above))).trans (I.base.keep b o e n hb hx)
  ·obtain⟨sl,e1⟩:=I.base.slot b o e n hb hx
   exact⟨sl,(hs.2 b (Nat.ne_of_lt (Nat.lt_of_lt_of_le (Heap.lt_size e) I.ok.above))).trans e1⟩
  ·obtain⟨o',e1⟩:=I.base.there b o e hx
   exact⟨o',(hs.2 b (Nat.ne_of_lt (Nat.lt_of_lt_of_le (Heap.lt_size e) I.ok.above))).trans e1⟩
  ·by_cases hj:j=i
   ·subst hj
    rw [hi] at e1; cases e1
    rw [List.getElem?_set_self hiσ] at e2
    cases e2
    exact⟨u,r,.inl ⟨hk,by simp⟩⟩
   ·rw [List.getElem?_set_ne (Ne.symm hj)] at e2
    obtain⟨u',r',q⟩:=hl j y v' e1 e2 e3
    refine⟨u',r',?_⟩
    rcases q with⟨k,e⟩ | ⟨k,c,e,z⟩
    ·refine .inl ⟨k,?_⟩
     have:y≠x:=fun e=>hj (nodup_ix hN e1 (e ▸ hi))
     simp [this,e]
    ·exact .inr ⟨k,c,e,z.sameBut hs (cne y c e)⟩
  ·obtain⟨w',z⟩:=I.cell y c e
   exact⟨w',z.sameBut hs (cne y c e)⟩
  ·obtain⟨e,n,ne,nf,d⟩:=I.pin p hp
   exact⟨(hs.2 p.1 ne).trans e,n,ne,nf,d⟩
 ·have hfn:X.fn x=true:=by
   rcases hf with z | z
   ·exact z
   ·rw [z] at hk; cases hk
  obtain⟨c,hc⟩:=I.ok.has x (.inl hk)
  obtain⟨w',z⟩:=I.cell x c hc
  refine wpAny_storeName_cell I.ok.kind hk hc z (fun h' hc' hs=>?_)
  obtain⟨oc,hoc,hocd⟩:=id z
  refine h { s with heap:=h' } ⟨I.ok,I.os,I.bare,⟨fun b o e n hb hx=>?_,fun b o e n hb hx=>?_,I.base.free,fun b o e hx=>?_,I.base.tups,I.base.frzs,I.base.tbls⟩,⟨m,hn.sameBut hs (Ne.symm (cne x c hc)),fun j y v' e1 e2 e3=>?_⟩,fun y c' e=>?_,I.free,I.freeC,fun p hp=>?_,tracked ⟨oc,hoc,I.freeC x c hc⟩ hs,by simpa using I.len⟩ ⟨c,hs,.inr hc⟩
  ·exact (hs.2 b (Nat.ne_of_lt (Nat.lt_of_lt_of_le (Heap.lt_size e) (I.ok.cab x c hfn hc)))).trans (I.base.keep b o e n hb hx)
  ·obtain⟨sl,e1⟩:=I.base.slot b o e n hb hx
   exact⟨sl,(hs.2 b (Nat.ne_of_lt (Nat.lt_of_lt_of_le (Heap.lt_size e) (I.ok.cab x c hfn hc)))).trans e1⟩
  ·obtain⟨o',e1⟩:=I.base.there b o e hx
   exact⟨o',(hs.2 b (Nat.ne_of_lt (Nat.lt_of_lt_of_le (Heap.lt_size e) (I.ok.cab x c hfn hc)))).trans e1⟩
  ·by_cases hj:j=i
   ·subst hj
    rw [hi] at e1; cases e1
    rw [List.getElem?_set_self hiσ] at e2
    cases e2
    exact⟨u,r,.inr ⟨.inl hk,c,hc,hc'⟩⟩
   ·rw [List.getElem?_set_ne (Ne.symm hj)] at e2
    obtain⟨u',r',q⟩:=hl j y v' e1 e2 e3
    refine⟨u',r',?_⟩
    rcases q with q | ⟨k,c',e,z'⟩
    ·exact .inl q
    ·refine .inr ⟨k,c',e,z'.sameBut hs ?_⟩
     rintro rfl
     exact hj (nodup_ix hN e1 (I.ok.inj _ _ _ e hc ▸ hi))
  ·by_cases hcc:c'=c
   ·subst hcc; exact⟨_,hc'⟩
   ·obtain⟨w2,z2⟩:=I.cell y c' e
    exact⟨w2,z2.sameBut hs hcc⟩
  ·obtain⟨e,n,ne,nf,d⟩:=I.pin p hp
   refine⟨(hs.2 p.1 ?_).trans e,n,ne,nf,d⟩
   intro q
   rw [q,hoc] at e
   have q':oc=p.2:=Option.some.inj e
   exact d w' (by rw [← q']; exact hocd)
theorem store_ok {M:Model}{A:Around}{E:Value→Shared→Prop}{i:Nat}{x:Str}{v:V}{u:Value}{Q:Unit→Shared→Prop} (I:Inv X pins σ H s) (hN:X.N.Nodup) (hi:X.N[i]?=some x) (hx:Loc X.env.scope x) (r:RelV v u)
  (h:∀ s',Inv X pins (σ.set i (some v)) H s'→Q () s') (hf:X.fn x=true∨X.env.scope.names.lookup x=some .local:=by first | exact .inl rfl | exact .inr rfl | assumption):wpAny M A (storeName X.env x u) Q E s :=
 store_ok2 I hN hi hx r (fun s' I' _=>h s' I') hf
end
abbrev XK:=Value→Option Addr→Hp→Prop
abbrev St:=List (Option V)
abbrev VK:=V→Hp→Prop
abbrev TE:=St→Hp→VK→Prop
abbrev TT:=St→Hp→(Bool→Hp→Prop)→Prop
abbrev TA:=St→Hp→(List V→Hp→Prop)→Prop
structure Ends where
 nx:St→Hp→Prop
 rt:VK
 bk:St→Hp→Prop:=fun _ _=>False
 ct:St→Hp→Prop:=fun _ _=>False
abbrev TS:=Ends→St→Hp→Prop
def EP (X:Cx) (pins:List (Addr×Obj)) (σ:St) (Q:VK) (u:Value) (s':Shared):Prop:=∃ v H',Inv X pins σ H' s'∧RelV v u∧Q v H'
def TP (X:Cx) (pins:List (Addr×Obj)) (σ:St) (Q:Bool→Hp→Prop) (b:Bool) (s':Shared):Prop:=∃ H',Inv X pins σ H' s'∧Q b H'
def AP (X:Cx) (pins:List (Addr×Obj)) (σ:St) (Q:List V→Hp→Prop) (us:List Value) (s':Shared):Prop:=∃ vs H',Inv X pins σ H' s'∧Vals vs us∧Q vs H'
def SP (X:Cx) (pins:List (Addr×Obj)) (D:Ends) (f:Flow) (s':Shared):Prop :=
 match f with
 | .next=>∃ σ' H',Inv X pins σ' H' s'∧D.nx σ' H'
 | .brk=>∃ σ' H',Inv X pins σ' H' s'∧D.bk σ' H'
 | .cont=>∃ σ' H',Inv X pins σ' H' s'∧D.ct σ' H'
 | .ret u=>∃ v σ' H',Inv X pins σ' H' s'∧RelV v u∧D.rt v H'
def PE (X:Cx) (e:Expr) (t:TE):Prop :=
 ∀ (pins:List (Addr×Obj)) (s:Shared) (σ:St) (H:Hp) (Q:VK),Inv X pins σ H s→t σ H Q→wpAny (model X.prog X.w) X.A (eval e X.env) (EP X pins σ Q) X.xe s
def PT (X:Cx) (e:Expr) (t:TT):Prop :=
 ∀ (pins:List (Addr×Obj)) (s:Shared) (σ:St) (H:Hp) (Q:Bool→Hp→Prop),Inv X pins σ H s→t σ H Q→wpAny (model X.prog X.w) X.A (isTrue e X.env (eval e X.env)) (TP X pins σ Q) X.xe s
def PW (X:Cx) (e:Expr) (t:TT):Prop :=
 ∀ (whole:Sem Value) (pins:List (Addr×Obj)) (s:Shared) (σ:St) (H:Hp) (Q:Bool→Hp→Prop),Inv X pins σ H s→t σ H Q→wpAny (model X.prog X.w) X.A (isTrue e X.env whole) (TP X pins σ Q) X.xe s
theorem PW.pt {X:Cx}{e:Expr}{t:TT} (h:PW X e t):PT X e t:=h _
def PA (X:Cx) (es:List Expr) (t:TA):Prop :=
 ∀ (pos:Pos) (pins:List (Addr×Obj)) (s:Shared) (σ:St) (H:Hp) (Q:List V→Hp→Prop),Inv X pins σ H s→t σ H Q→wpAny (model X.prog X.w) X.A (spliced (backTo pos (starEach es X.env))) (AP X pins σ Q) X.xe s
def PS (X:Cx) (st:Stmt) (t:TS):Prop :=
 ∀ (pins:List (Addr×Obj)) (s:Shared) (σ:St) (H:Hp) (D:Ends),Inv X pins σ H s→t D σ H→wpAny (model X.prog X.w) X.A (exec st X.env) (SP X pins D) X.xe s
def PSs (X:Cx) (st:List Stmt) (t:TS):Prop :=
 ∀ (pins:List (Addr×Obj)) (s:Shared) (σ:St) (H:Hp) (D:Ends),Inv X pins σ H s→t D σ H→wpAny (model X.prog X.w) X.A (execs st X.env) (SP X pins D) X.xe s
theorem thn {α:Type}{t:Sem α}{Q Q':α→Shared→Prop}{M:Model}{A:Around}{E:Value→Shared→Prop}{s:Shared} (h:wpAny M A t Q E s) (hQ:∀ a s,Q a s→Q' a s):wpAny M A t Q' E s:=wpAny_mono h hQ fun _ _ x=>x
section
variable {X:Cx}
def tVar (i:Nat):TE:=fun σ H Q=>∃ v,σ[i]?=some (some v)∧Q v H
def tC (v:V):TE:=fun _ H Q=>Q v H
theorem pe_var {i:Nat}{x:Str}{pos:Pos} (hN:X.N[i]?=some x) (hv:Vis X.env.scope x) (hd:(x == ("__debug__":Str))=false:=by decide) (hcd:(x == ("__classdict__":Str))=false:=by decide):PE X (.Name x pos) (tVar i):=by
 intro pins s σ H Q I h
 obtain⟨v,e,h⟩:=h
 obtain⟨m,hn,hl⟩:=I.loc
 obtain⟨u,r,l⟩:=hl i x v hN e hv
 have fin:EP X pins σ Q u s:=⟨v,H,I,r,h⟩
 rcases l with⟨hk,hm⟩ | ⟨hk,c,hc,hcell⟩
 ·exact wpAny_Name (wpAny_loadName_local I.ok.kind hk hn hm fin) hd
 ·rcases hk with hk | hk
  ·exact wpAny_Name (wpAny_loadName_cell I.ok.kind hk hc hcell fin) hd
  ·exact wpAny_Name (wpAny_loadName_free I.ok.kind hk hc hcell fin hcd) hd
theorem pe_int {i j pos}:PE X (.Constant (.int i) j pos) (tC (.int i)):=fun _ _ _ H _ I h=>wpAny_Constant_int ⟨.int i,H,I.tok _,⟨_,rfl⟩,h⟩
theorem pe_bl {b j pos}:PE X (.Constant (.bool b) j pos) (tC (.bl b)):=fun _ _ _ H _ I h=>Constant_bool ⟨.bl b,H,I,rfl,h⟩
theorem ahR {j pos}:PE X (.Constant .none j pos) (tC .non):=fun _ _ _ H _ I h=>Constant_none ⟨.non,H,I,rfl,h⟩
theorem ahP {x j pos}:PE X (.Constant (.str x) j pos) (tC (.str x)):=fun _ _ _ H _ I h=>Calls.Constant_str ⟨.str x,H,I.tok _,⟨_,rfl⟩,h⟩
def Gl (X:Cx) (x:Str):Prop:=X.env.kindOf x=some .globalImplicit
theorem ld_glob {E:Value→Shared→Prop}{pins:List (Addr×Obj)}{s:Shared}{σ:St}{H:Hp}{x:Str}{u:Value}{pos:Pos}{Q:Value→Shared→Prop} (I:Inv X pins σ H s) (hg:Gl X x) (hm:X.mg x=some u) (h:Q u s)
  (hd:(x == ("__debug__":Str))=false:=by decide):wpAny (model X.prog X.w) X.A (eval (.Name x pos) X.env) Q E s :=
 Calls.Name_function_global I.ok.kind hg (Calls.loadGlobal_global (by rw [I.ok.glob]; exact I.mod.glob.keeps I.bk) hm h) hd
theorem ld_blt {E:Value→Shared→Prop}{pins:List (Addr×Obj)}{s:Shared}{σ:St}{H:Hp}{x:Str}{u:Value}{pos:Pos}{Q:Value→Shared→Prop} (I:Inv X pins σ H s) (hg:Gl X x) (hm:X.mg x=none) (hv:bootBuiltins x=some u) (h:Q u s)
  (hn:x≠"__name__":=by decide) (hd:(x == ("__debug__":Str))=false:=by decide):wpAny (model X.prog X.w) X.A (eval (.Name x pos) X.env) Q E s:=by
 obtain⟨mb,h1,h2⟩:=I.mod.blt
 exact Calls.Name_function_global I.ok.kind hg (Calls.loadGlobal_builtin (by rw [I.ok.glob]; exact I.mod.glob.keeps I.bk) hm (by rw [I.ok.blt]; exact h1.keeps I.bk) ((h2 x hn).trans hv) h) hd
theorem agn {x:Str}{v:V}{u:Value}{pos:Pos} (hg:Gl X x) (hm:X.mg x=some u) (r:RelV v u) (hd:(x == ("__debug__":Str))=false:=by decide):PE X (.Name x pos) (tC v) :=
 fun _ _ _ H _ I h=>ld_glob I hg hm ⟨v,H,I,r,h⟩ hd
variable {a b:Expr}{ta tb:TE}{pos:Pos}
def tB (t:TE):TT:=fun σ H Q=>t σ H fun x H1=>∃ c,x=.bl c∧Q c H1
theorem ahG {e:Expr}{t:TE} (h:PE X e t) (he:∀ whole,isTrue e X.env whole=(do let v ← whole; standAt e.pos; holding [v] (truthy v)):=by intro _; rfl):PT X e (tB t):=by
 intro pins s σ H Q I hw
 refine isTrue_plain (thn (h pins s σ H _ I hw) fun v s1 ⟨x,H1,I1,r1,q1⟩=>?_) (he _)
 obtain⟨d,rfl,q⟩:=q1
 cases r1
 exact wpAny_truthy_bool ⟨H1,I1,q⟩
variable {tA tB':TT}{rest:List Expr}
def aaB (t u:TT):TT:=fun σ H Q=>t σ H fun c H1=>if c=true then u σ H1 Q else Q false H1
def tOr (t u:TT):TT:=fun σ H Q=>t σ H fun c H1=>if c=true then Q true H1 else u σ H1 Q
def ahe (t:TT):TT:=fun σ H Q=>t σ H fun c H1=>Q (!c) H1
theorem agb (ha:PT X a tA):PW X (.BoolOp .And [a] pos) tA:=by
 intro wh pins s σ H Q I h
 refine isTrue_and (thn (ha pins s σ H Q I h) fun c s1 e=>?_)
 cases c with
 | true=>exact isTrue_and_nil e
 | false=>exact e
theorem ahD (ha:PT X a tA):PW X (.BoolOp .Or [a] pos) tA:=by
 intro wh pins s σ H Q I h
 refine isTrue_or (thn (ha pins s σ H Q I h) fun c s1 e=>?_)
 cases c with
 | false=>exact isTrue_or_nil e
 | true=>exact e
theorem ahE (ha:PT X a tA) (hb:PW X (.BoolOp .And (b::rest) pos) tB'):PW X (.BoolOp .And (a::b::rest) pos) (aaB tA tB'):=by
 intro wh pins s σ H Q I h
 refine isTrue_and (thn (ha pins s σ H _ I h) fun c s1 ⟨H1,I1,q1⟩=>?_)
 cases c with
 | true=>exact hb wh pins s1 σ H1 Q I1 q1
 | false=>exact⟨H1,I1,q1⟩
theorem aj5 (ha:PT X a tA) (hb:PW X (.BoolOp .Or (b::rest) pos) tB'):PW X (.BoolOp .Or (a::b::rest) pos) (tOr tA tB'):=by
 intro wh pins s σ H Q I h
 refine isTrue_or (thn (ha pins s σ H _ I h) fun c s1 ⟨H1,I1,q1⟩=>?_)
 cases c with
 | true=>exact⟨H1,I1,q1⟩
 | false=>exact hb wh pins s1 σ H1 Q I1 q1
theorem ahH (ha:PT X a tA):PT X (.UnaryOp .Not a pos) (ahe tA):=by
 intro pins s σ H Q I h
 exact isTrue_not (ha pins s σ H (fun c H1=>Q (!c) H1) I h)
def afF (ta tb:TE):TE:=fun σ H Q=>ta σ H fun x H1=>∃ c,x=.bl c∧if c=true then tb σ H1 Q else Q (.bl false) H1
theorem ahQ {op}{t:TE} (h:PE X a t):PE X (.BoolOp op [a] pos) t:=fun pins s σ H Q I hw=>BoolOp_one (h pins s σ H Q I hw)
theorem ahU (ha:PE X a ta) (hb:PE X (.BoolOp .And (b::rest) pos) tb):PE X (.BoolOp .And (a::b::rest) pos) (afF ta tb):=by
 intro pins s σ H Q I h
 refine BoolOp_and (thn (ha pins s σ H _ I h) fun v s1 ⟨x,H1,I1,r1,q1⟩=>?_)
 obtain⟨c,rfl,q1⟩:=q1
 cases r1
 refine wpAny_truthy_bool ?_
 cases c with
 | true=>exact hb pins s1 σ H1 Q I1 q1
 | false=>exact⟨.bl false,H1,I1,rfl,q1⟩
def tIf (t:TT) (ta tb:TE):TE:=fun σ H Q=>t σ H fun c H1=>if c=true then ta σ H1 Q else tb σ H1 Q
theorem aeC {c:Expr} (hc:PT X c tA) (ha:PE X a ta) (hb:PE X b tb):PE X (.IfExp c a b pos) (tIf tA ta tb):=by
 intro pins s σ H Q I h
 refine wpAny_IfExp (thn (hc pins s σ H _ I h) fun d s1 ⟨H1,I1,q1⟩=>?_)
 cases d with
 | true=>exact ha pins s1 σ H1 Q I1 q1
 | false=>exact hb pins s1 σ H1 Q I1 q1
end
def SqL (K:PySem.W.Frag) (H:Hp) (a:Addr) (xs:List V):Prop :=
 Rd H a (.lst xs) ∨
  ∃ (o:Obj) (its:Array Value) (n:Nat),K.lookup a=some o∧o.cls=.type "list"∧o.dict=none∧o.data=.seq its n∧its.size≤sizeLine∧Vals xs its.toList
def SqT (K:PySem.W.Frag) (H:Hp) (a:Addr) (xs:List V):Prop :=
 Rd H a (.tup xs) ∨
  ∃ (o:Obj) (its:Array Value) (n:Nat),K.lookup a=some o∧o.cls=.type "tuple"∧o.data=.seq its n∧its.size≤sizeLine∧Vals xs its.toList
def absV:Value→Option V
 | .none=>some .non
 | .bool b=>some (.bl b)
 | .int i _=>some (.int i)
 | .str x _=>some (.str x)
 | .bytes b _=>some (.byt b)
 | .float b _=>some (.flt b)
 | .ref a=>some (.ref a)
 | .type n=>some (.ty n)
 | _=>none
theorem RelV.abs {x:V}{u:Value} (r:RelV x u):absV u=some x:=by
 cases x with
 | non=>cases r; rfl
 | bl _=>cases r; rfl
 | int _=>obtain⟨t,rfl⟩:=r; rfl
 | str _=>obtain⟨t,rfl⟩:=r; rfl
 | byt _=>obtain⟨t,rfl⟩:=r; rfl
 | flt _=>obtain⟨t,rfl⟩:=r; rfl
 | ref _=>cases r; rfl
 | ty _=>cases r; rfl
theorem RelV.inj {x y:V}{u:Value} (r:RelV x u) (q:RelV y u):x=y:=Option.some.inj (r.abs.symm.trans q.abs)
theorem Vals.inj:∀ {xs ys:List V}{us:List Value},Vals xs us→Vals ys us→xs=ys
 | _,_,_,.nil,.nil=>rfl
 | _,_,_,.cons r t,.cons r' t'=>by rw [r.inj r',Vals.inj t t']
section
variable {X:Cx}{pins:List (Addr×Obj)}{σ:St}{H:Hp}{s:Shared}{a:Addr}{xs ys:List V}
theorem SqL.of {K:PySem.W.Frag} (h:H a=some (.lst xs)):SqL K H a xs:=.inl (.inl h)
theorem SqT.of {K:PySem.W.Frag} (h:H a=some (.tup xs)):SqT K H a xs:=.inl (.inl h)
theorem Inv.list (I:Inv X pins σ H s) (h:SqL X.K H a xs):∃ its:List Value,Vals xs its∧PlainL s.heap a its.toArray∧xs.length≤sizeLine:=by
 rcases h with h | ⟨o,its,n,hk,hc,hd,hs,hz,r⟩
 ·obtain⟨z,its,n,r,e⟩:=h.ok I.hok
  exact⟨its,r,⟨_,n,e,rfl,rfl,rfl⟩,z⟩
 ·refine⟨its.toList,r,⟨o,n,I.kIn a o hk,hc,hd,by simpa using hs⟩,?_⟩
  have e:=r.length
  simp only [Array.length_toList] at e
  lia
theorem Inv.tuple (I:Inv X pins σ H s) (h:SqT X.K H a xs):∃ its:List Value,Vals xs its∧IsTup s.heap a its.toArray∧xs.length≤sizeLine:=by
 rcases h with h | ⟨o,its,n,hk,hc,hs,hz,r⟩
 ·obtain⟨z,its,r,p⟩:=h.ok I.hok
  exact⟨its,r,p,z⟩
 ·refine⟨its.toList,r,⟨o,I.kIn a o hk,hc,n,by simpa using hs⟩,?_⟩
  have e:=r.length
  simp only [Array.length_toList] at e
  lia
theorem Inv.list_inj (I:Inv X pins σ H s) (h:SqL X.K H a xs) (h':SqL X.K H a ys):xs=ys:=by
 obtain⟨its,r,⟨o,n,e,_,_,d⟩,_⟩:=I.list h
 obtain⟨its',r',⟨o',n',e',_,_,d'⟩,_⟩:=I.list h'
 rw [e] at e'; cases e'
 rw [d] at d'
 injection d' with d1 _
 have:its=its':=by simpa using congrArg Array.toList d1
 subst this
 exact r.inj r'
theorem Inv.u_ (I:Inv X pins σ H s) (h:SqT X.K H a xs) (h':SqT X.K H a ys):xs=ys:=by
 obtain⟨its,r,⟨o,e,_,n,d⟩,_⟩:=I.tuple h
 obtain⟨its',r',⟨o',e',_,n',d'⟩,_⟩:=I.tuple h'
 rw [e] at e'; cases e'
 rw [d] at d'
 injection d' with d1 _
 have:its=its':=by simpa using congrArg Array.toList d1
 subst this
 exact r.inj r'
end
abbrev Cx.wish (X:Cx) (E:Value→Shared→Prop):Cx:={ X with xe:=E }
abbrev Cx.nox (X:Cx):Cx:=X.wish fun _ _=>False
theorem Cx.Ok.wish {X:Cx} (ok:X.Ok) (E:Value→Shared→Prop):(X.wish E).Ok :=
 ⟨ok.mod,ok.kind,ok.glob,ok.blt,ok.above,ok.inj,ok.has,ok.cab,ok.hd,ok.frames,ok.stk,ok.exf,ok.bs,ok.bsz,ok.noex,ok.exfs,ok.funs,ok.frf⟩
theorem Cx.Ok.unwish {X:Cx}{E:Value→Shared→Prop} (ok:(X.wish E).Ok):X.Ok :=
 ⟨ok.mod,ok.kind,ok.glob,ok.blt,ok.above,ok.inj,ok.has,ok.cab,ok.hd,ok.frames,ok.stk,ok.exf,ok.bs,ok.bsz,ok.noex,ok.exfs,ok.funs,ok.frf⟩
section
variable {X:Cx}{pins:List (Addr×Obj)}{σ:St}{H:Hp}{s:Shared}{E:Value→Shared→Prop}
theorem Inv.wish (I:Inv X pins σ H s) (E:Value→Shared→Prop):Inv (X.wish E) pins σ H s:=⟨I.ok.wish E,I.os,I.bare,I.base,I.loc,I.cell,I.free,I.freeC,I.pin,I.hok,I.len⟩
theorem Inv.unwish (I:Inv (X.wish E) pins σ H s):Inv X pins σ H s:=⟨I.ok.unwish,I.os,I.bare,I.base,I.loc,I.cell,I.free,I.freeC,I.pin,I.hok,I.len⟩
theorem SP.unwish {D:Ends}{f:Flow}{s':Shared} (h:SP (X.wish E) pins D f s'):SP X pins D f s':=by
 cases f with
 | next=>obtain⟨σ',H',I,q⟩:=h; exact⟨σ',H',I.unwish,q⟩
 | brk=>obtain⟨σ',H',I,q⟩:=h; exact⟨σ',H',I.unwish,q⟩
 | cont=>obtain⟨σ',H',I,q⟩:=h; exact⟨σ',H',I.unwish,q⟩
 | ret u=>obtain⟨v,σ',H',I,r,q⟩:=h; exact⟨v,σ',H',I.unwish,r,q⟩
theorem PSs.nox {st:List Stmt}{t:TS} (h:PSs X.nox st t):PSs X st t:=fun pins s σ H D I hw =>
 wpAny_mono (h pins s σ H D (I.wish _) hw) (fun _ _ q=>q.unwish) fun _ _ z=>False.elim z
end
section
variable {X:Cx}{st:Stmt}{rest:List Stmt}{t u:TS}{e:Expr}{te:TE}{pos:Pos}
def tNext:TS:=fun D σ H=>D.nx σ H
def tSeq (t u:TS):TS:=fun D σ H=>t { D with nx:=u D } σ H
theorem pss_nil:PSs X [] tNext:=fun _ _ σ H _ I h=>wpAny_execs_nil ⟨σ,H,I,h⟩
theorem pss_cons (h1:PS X st t) (h2:PSs X rest u):PSs X (st::rest) (tSeq t u):=by
 intro pins s σ H D I h
 refine wpAny_execs_cons (thn (h1 pins s σ H { D with nx:=u D } I h) fun f s1 q=>?_)
 cases f with
 | next =>
  obtain⟨σ',H',I',q⟩:=q
  exact h2 pins s1 σ' H' D I' q
 | ret v=>exact q
 | brk=>exact q
 | cont=>exact q
theorem pss_one (h1:PS X st t):PSs X [st] t:=by
 intro pins s σ H D I h
 refine wpAny_execs_cons (thn (h1 pins s σ H D I h) fun f s1 q=>?_)
 cases f with
 | next=>exact wpAny_execs_nil q
 | ret v=>exact q
 | brk=>exact q
 | cont=>exact q
def afD:TS:=fun D σ H=>D.ct σ H
theorem agd:PS X (.Pass pos) tNext:=fun _ _ σ H _ I h=>wpAny_Pass ⟨σ,H,I,h⟩
theorem Ys:PS X (.Continue pos) afD:=fun _ _ σ H _ I h=>wpAny_Continue ⟨σ,H,I,h⟩
theorem Inv.quiet {pins:List (Addr×Obj)}{σ:St}{H:Hp}{s:Shared} (I:Inv X pins σ H s):interactive X.env=false:=by simp [interactive,I.ok.kind]
def tDrop (te:TE):TS:=fun D σ H=>te σ H fun _ H1=>D.nx σ H1
theorem ps_expr (he:PE X e te) (hs:swapsWith e none pos.line X.env=pure false:=by rfl):PS X (.Expr e pos) (tDrop te):=by
 intro pins s σ H D I h
 exact wpAny_Expr_any (thn (he pins s σ H _ I h) fun v s1 ⟨x,H1,I1,r1,q1⟩=>⟨σ,H1,I1,q1⟩) I.quiet hs
def tRet (te:TE):TS:=fun D σ H=>te σ H D.rt
theorem ps_ret (he:PE X e te):PS X (.Return (some e) pos) (tRet te):=by
 intro pins s σ H D I h
 exact wpAny_Return_some (thn (he pins s σ H _ I h) fun v s1 ⟨x,H1,I1,r1,q1⟩=>⟨x,σ,H1,I1,r1,q1⟩)
def afA:TS:=fun D _ H=>D.rt .non H
theorem agc:PS X (.Return none pos) afA:=fun _ _ σ H _ I h=>wpAny_Return_none ⟨.non,σ,H,I,rfl,h⟩
def tIfS (c:TT) (t u:TS):TS:=fun D σ H=>c σ H fun b H1=>if b=true then t D σ H1 else u D σ H1
theorem ps_if {c:Expr}{a b:List Stmt}{tc:TT} (hc:PT X c tc) (ha:PSs X a t) (hb:PSs X b u):PS X (.If c a b pos) (tIfS tc t u):=by
 intro pins s σ H D I h
 refine wpAny_If (thn (hc pins s σ H _ I h) fun d s1 ⟨H1,I1,q1⟩=>?_)
 cases d with
 | true=>exact ha pins s1 σ H1 D I1 q1
 | false=>exact hb pins s1 σ H1 D I1 q1
def acr:TS:=fun _ _ _=>False
theorem aey:PS X st acr:=fun _ _ _ _ _ _ h=>h.elim
end
abbrev TG:=V→St→Hp→(St→Hp→Prop)→Prop
abbrev TGs:=List V→St→Hp→(St→Hp→Prop)→Prop
def PG (X:Cx) (target:Expr) (t:TG):Prop :=
 ∀ (pins:List (Addr×Obj)) (s:Shared) (σ:St) (H:Hp) (v:V) (u:Value) (Q:St→Hp→Prop),Inv X pins σ H s→RelV v u→t v σ H Q →
  wpAny (model X.prog X.w) X.A (assign target X.env u) (fun _ s'=>∃ σ' H',Inv X pins σ' H' s'∧Q σ' H') X.xe s
def PGs (X:Cx) (ts:List Expr) (t:TGs):Prop :=
 ∀ (pins:List (Addr×Obj)) (s:Shared) (σ:St) (H:Hp) (vs:List V) (us:List Value) (Q:St→Hp→Prop),Inv X pins σ H s→Vals vs us→t vs σ H Q →
  wpAny (model X.prog X.w) X.A (assignInOrder ((assignEach ts X.env).map (·.2)) us) (fun _ s'=>∃ σ' H',Inv X pins σ' H' s'∧Q σ' H') X.xe s
abbrev MP:=V→V→V→Hp→(Hp→Prop)→Prop
def X4 (X:Cx) (t:MP):Prop :=
 ∀ (pins:List (Addr×Obj)) (s:Shared) (σ:St) (H:Hp) (o i v:V) (ov iv u:Value) (Q:Hp→Prop),Inv X pins σ H s→RelV o ov→RelV i iv→RelV v u→t o i v H Q →
  wpAny (model X.prog X.w) X.A (setItem ov iv u) (fun _ s'=>∃ H',Inv X pins σ H' s'∧Q H') X.xe s
abbrev TIp:=V→V→Hp→VK→Prop
def PIp (X:Cx) (op:Operator) (t:TIp):Prop :=
 ∀ (pins:List (Addr×Obj)) (s:Shared) (σ:St) (H:Hp) (x y:V) (v u:Value) (Q:VK),Inv X pins σ H s→RelV x v→RelV y u→t x y H Q →
  wpAny (model X.prog X.w) X.A (inplaceOp op v u) (EP X pins σ Q) X.xe s
section
variable {X:Cx}{pos:Pos}
def gName (i:Nat):TG:=fun v σ H Q=>Q (σ.set i (some v)) H
theorem pg_name {i:Nat}{x:Str} (hN:X.N.Nodup) (hi:X.N[i]?=some x) (hx:Loc X.env.scope x) (hf:X.fn x=true∨X.env.scope.names.lookup x=some .local:=by first | exact .inl rfl | exact .inr rfl | assumption):PG X (.Name x pos) (gName i):=by
 intro pins s σ H v u Q I r h
 exact wpAny_assign_Name (store_ok I hN hi hx r (fun s' I'=>⟨_,H,I',h⟩) hf)
def ae6:TGs:=fun vs σ H Q=>vs=[]∧Q σ H
def Uq (t:TG) (u:TGs):TGs:=fun vs σ H Q=>∃ v r,vs=v::r∧t v σ H fun σ' H'=>u r σ' H' Q
theorem Z5:PGs X [] ae6:=by
 intro pins s σ H vs us Q I r h
 obtain⟨e,h⟩:=h
 subst e
 cases r
 exact assignInOrder_nil ⟨σ,H,I,h⟩
theorem Ks {e:Expr}{es:List Expr}{t:TG}{u:TGs} (h1:PG X e t) (h2:PGs X es u)
  (hs:(assignEach (e::es) X.env).map (·.2)=assign e X.env::(assignEach es X.env).map (·.2):=by rfl):PGs X (e::es) (Uq t u):=by
 intro pins s σ H vs us Q I r h
 obtain⟨v,vr,e1,h⟩:=h
 subst e1
 cases r with
 | cons r rr =>
  rw [hs]
  refine assignInOrder_cons (thn (h1 pins s σ H _ _ _ I r h) fun _ s1 ⟨σ1,H1,I1,q1⟩=>?_)
  exact h2 pins s1 σ1 H1 _ _ Q I1 rr q1
def ae5 (K:PySem.W.Frag) (n:Nat) (t:TGs):TG:=fun v σ H Q=>∃ a xs,v=.ref a∧SqT K H a xs∧xs.length=n∧t xs σ H Q
theorem acN {es:List Expr}{k:Nat}{t:TGs}{n:Nat} (hc:X.calm=true) (h:PGs X es t)
  (hn:(assignEach es X.env).length=n:=by rfl) (hst:(assignEach es X.env).findIdx? (·.1)=none:=by rfl):PG X (.Tuple es k pos) (ae5 X.K n t):=by
 intro pins s σ H v u Q I r hw
 obtain⟨a,xs,e1,hq,hl,hw⟩:=hw
 subst e1
 cases r
 obtain⟨its,rv,ht,hz⟩:=I.tuple hq
 refine assign_Tuple_tuple (I.ok.hd hc) ht (by simp [hn,← hl,rv.length]) hst fun h' hx=>?_
 have I1:Inv X pins σ H { s with heap:=h' }:=I.kept (t':=s.toks) fun b o e=>hx b o (Nat.ne_of_lt (Heap.lt_size e)) e
 exact h pins _ σ H xs _ Q I1 (by simpa using rv) hw
def aiB (to ti:TE) (t:MP):TG:=fun v σ H Q=>to σ H fun o H1=>ti σ H1 fun i H2=>t o i v H2 fun H3=>Q σ H3
theorem ahN {o i:Expr}{to ti:TE}{t:MP} (ho:PE X o to) (hi:PE X i ti) (hs:X4 X t)
  (ha:∀ v,assign (.Subscript o i pos) X.env v=(do
   let ov ← holding [v] (eval o X.env)
   let iv ← holding [v,ov] (eval i X.env)
   standAt pos
   holding [v,ov,iv] (setItem ov iv v)
   release [v,ov,iv] []):=by intro _; rfl):PG X (.Subscript o i pos) (aiB to ti t):=by
 intro pins s σ H v u Q I r h
 rw [ha]
 refine wpAny_bind (wpAny_holding (thn (ho pins s σ H _ I h) fun ov s1 ⟨x,H1,I1,r1,q1⟩=>?_))
 refine wpAny_bind (wpAny_holding (thn (hi pins s1 σ H1 _ I1 q1) fun iv s2 ⟨y,H2,I2,r2,q2⟩=>?_))
 refine wpAny_bind (wpAny_standAt (wpAny_bind (wpAny_holding (thn (hs pins s2 σ H2 x y v ov iv u _ I2 r1 r2 r q2) fun _ s3 ⟨H3,I3,q3⟩=>?_))))
 exact wpAny_release ⟨σ,H3,I3,q3⟩
def tAsg (te:TE) (g:TG):TS:=fun D σ H=>te σ H fun x H1=>g x σ H1 D.nx
theorem ahJ {tg e:Expr}{te:TE}{g:TG} (he:PE X e te) (hg:PG X tg g) (hs:swapsWithSole [tg] e pos.line X.env=pure false:=by rfl) (hw:swappedStores [tg] e X.env=pure none:=by rfl)
  (h1:(assignEach [tg] X.env).map (·.2)=[assign tg X.env]:=by rfl):PS X (.Assign [tg] e pos) (tAsg te g):=by
 intro pins s σ H D I h
 refine wpAny_Assign_stores (thn (he pins s σ H _ I h) fun v s1 ⟨x,H1,I1,r1,q1⟩=>?_) hs hw
 rw [h1]
 exact thn (hg pins s1 σ H1 x v _ I1 r1 q1) fun _ s2 q=>q
theorem ps_set {i:Nat}{x:Str}{e:Expr}{te:TE}{pos':Pos} (hN:X.N.Nodup) (hi:X.N[i]?=some x) (hx:Loc X.env.scope x) (he:PE X e te) (hs:swapsWith e (some (.Name x pos')) pos.line X.env=pure false:=by rfl) (hf:X.fn x=true∨X.env.scope.names.lookup x=some .local:=by first | exact .inl rfl | exact .inr rfl | assumption) :
  PS X (.Assign [.Name x pos'] e pos) (tAsg te (gName i)):=by
 intro pins s σ H D I h
 refine wpAny_Assign_Name (thn (he pins s σ H _ I h) fun v s1 ⟨y,H1,I1,r1,q1⟩=>?_) hs
 exact store_ok I1 hN hi hx r1 (fun s2 I2=>⟨_,H1,I2,q1⟩) hf
def ahh (i:Nat) (te:TE) (ti:TIp):TS:=fun D σ H=>∃ x,σ[i]?=some (some x)∧te σ H fun y H1=>ti x y H1 fun z H2=>D.nx (σ.set i (some z)) H2
theorem ahI {i:Nat}{x:Str}{e:Expr}{te:TE}{op:Operator}{ti:TIp}{pos':Pos} (hN:X.N.Nodup) (hi:X.N[i]?=some x) (hx:Loc X.env.scope x) (he:PE X e te) (ho:PIp X op ti) (hf:X.fn x=true∨X.env.scope.names.lookup x=some .local:=by first | exact .inl rfl | exact .inr rfl | assumption) :
  PS X (.AugAssign (.Name x pos') op e pos) (ahh i te ti):=by
 intro pins s σ H D I h
 obtain⟨v,e1,h⟩:=h
 obtain⟨m,hn,hl⟩:=I.loc
 have vis:Vis X.env.scope x:=by rcases hx with k | k; exact .inl k; exact .inr (.inl k)
 obtain⟨u,r,l⟩:=hl i x v hi e1 vis
 refine wpAny_AugAssign_Name ?_
 have go:wpAny (model X.prog X.w) X.A (eval e X.env) (fun w s₂=>wpAny (model X.prog X.w) X.A (inplaceOp op u w) (fun r s₃=>wpAny (model X.prog X.w) X.A (storeName X.env x r) (fun _=>SP X pins D .next) X.xe s₃) X.xe s₂) X.xe s:=by
  refine thn (he pins s σ H _ I h) fun w s1 ⟨y,H1,I1,r1,q1⟩=>?_
  refine thn (ho pins s1 σ H1 v y u w _ I1 r r1 q1) fun z s2 ⟨zv,H2,I2,r2,q2⟩=>?_
  exact store_ok I2 hN hi hx r2 (fun s3 I3=>⟨_,H2,I3,q2⟩) hf
 rcases l with⟨hk,hm⟩ | ⟨hk,c,hc,hcell⟩
 ·exact wpAny_loadName_local I.ok.kind hk hn hm go
 ·rcases hk with hk | hk
  ·exact wpAny_loadName_cell I.ok.kind hk hc hcell go
  ·rcases hx with k | k
   ·have:X.env.scope.names.lookup x=some .free:=hk
    rw [k] at this; cases this
   ·have:X.env.scope.names.lookup x=some .free:=hk
    rw [k] at this; cases this
def afE (to ti te:TE) (JX:V→V→Hp→VK→Prop) (tip:TIp) (JW:MP):TS:=fun D σ H=>to σ H fun o H1=>ti σ H1 fun i H2=>JX o i H2 fun x H3=>te σ H3 fun y H4=>tip x y H4 fun z H5=>JW o i z H5 fun H6=>D.nx σ H6
def afv (X:Cx) (t:V→V→Hp→VK→Prop):Prop :=
 ∀ (pins:List (Addr×Obj)) (s:Shared) (σ:St) (H:Hp) (o i:V) (ov iv:Value) (Q:VK),Inv X pins σ H s→RelV o ov→RelV i iv→t o i H Q →
  wpAny (model X.prog X.w) X.A (getItem ov iv) (EP X pins σ Q) X.xe s
theorem agf {o i e:Expr}{to ti te:TE}{JX:V→V→Hp→VK→Prop}{tip:TIp}{JW:MP}{op:Operator}{tpos:Pos} (ho:PE X o to) (hi:PE X i ti) (hg:afv X JX) (he:PE X e te) (hp:PIp X op tip) (hs:X4 X JW)
  (ha:∀ ov iv new,augStore i ov iv new=(do holding [new,ov,iv] (setItem ov iv new); release [new,ov,iv] []; pure .next):=by intros; rfl):PS X (.AugAssign (.Subscript o i tpos) op e pos) (afE to ti te JX tip JW):=by
 intro pins s σ H D I h
 refine wpAny_AugAssign_SubscriptAny (thn (ho pins s σ H _ I h) fun ov s1 ⟨x1,H1,I1,r1,q1⟩=>?_) ha
 refine thn (hi pins s1 σ H1 _ I1 q1) fun iv s2 ⟨x2,H2,I2,r2,q2⟩=>?_
 refine thn (hg pins s2 σ H2 x1 x2 ov iv _ I2 r1 r2 q2) fun old s3 ⟨x3,H3,I3,r3,q3⟩=>?_
 refine thn (he pins s3 σ H3 _ I3 q3) fun v s4 ⟨x4,H4,I4,r4,q4⟩=>?_
 refine thn (hp pins s4 σ H4 x3 x4 old v _ I4 r3 r4 q4) fun new s5 ⟨x5,H5,I5,r5,q5⟩=>?_
 exact thn (hs pins s5 σ H5 x1 x2 x5 ov iv new _ I5 r1 r2 r5 q5) fun _ s6 ⟨H6,I6,q6⟩=>⟨σ,H6,I6,q6⟩
def ipI (f:Int→Int→Int):TIp:=fun x y H Q=>∃ i j,x=.int i∧y=.int j∧Q (.int (f i j)) H
theorem Gw:PIp X .Add (ipI fun i j=>i+j):=by
 intro pins s σ H x y v u Q I r1 r2 h
 obtain⟨i,j,e1,e2,q⟩:=h
 subst e1; subst e2
 obtain⟨t,rfl⟩:=r1
 obtain⟨t',rfl⟩:=r2
 exact iadd_int ⟨.int _,H,I.tok _,⟨_,rfl⟩,q⟩
end
section
variable {X:Cx}{pos:Pos}
def vf (c:TT) (tb:TS):TS:=fun D σ H=>∃ W:Nat→St→Hp→Prop,(∃ m,W m σ H)∧∀ m σ H,W m σ H →
 c σ H fun b H1=>if b=true then ∃ N:St→Hp→Prop,(∀ σ' H',N σ' H'→∃ m',m'<m∧W m' σ' H')∧tb { D with nx:=N,ct:=N,bk:=D.nx } σ H1 else D.nx σ H1
theorem aew {c:Expr}{body:List Stmt}{tc:TT}{tb:TS} (hp:PassesOwn (model X.prog X.w) X.A X.env X.xe) (hc:PT X c tc) (hb:PSs X body tb):PS X (.While c body [] pos) (vf tc tb):=by
 intro pins s σ H D I h
 obtain⟨W,⟨m0,w0⟩,turn⟩:=h
 refine wpAny_While (codeAny_whileLoop (fun n s'=>∃ σ' H',Inv X pins σ' H' s'∧W n σ' H') ?_ m0 ⟨σ,H,I,w0⟩)
 rintro n s1 ⟨σ1,H1,I1,w1⟩
 refine wpAny_passesOwn hp (thn (hc pins s1 σ1 H1 _ I1 (turn n σ1 H1 w1)) fun b s2 ⟨H2,I2,q2⟩=>?_)
 cases b with
 | true =>
  obtain⟨N,hN,q2⟩:=q2
  rw [if_pos rfl]
  refine wpAny_passesOwn hp (thn (hb pins s2 σ1 H2 _ I2 q2) fun f s3 q3=>?_)
  cases f with
  | next =>
   obtain⟨σ3,H3,I3,n3⟩:=q3
   obtain⟨m',hm,w3⟩:=hN σ3 H3 n3
   exact⟨m',hm,σ3,H3,I3,w3⟩
  | cont =>
   obtain⟨σ3,H3,I3,n3⟩:=q3
   obtain⟨m',hm,w3⟩:=hN σ3 H3 n3
   exact⟨m',hm,σ3,H3,I3,w3⟩
  | brk=>exact q3
  | ret v=>exact q3
 | false =>
  rw [if_neg Bool.false_ne_true]
  exact wpAny_execs_nil ⟨σ1,H2,I2,q2⟩
end
structure It where
 go:Nat→Hp→Prop
 yld:Nat→Hp→V→Hp→Prop
 stop:Nat→Hp→Prop
def FpOk (X:Cx) (pins:List (Addr×Obj)) (H:Hp) (b:Addr):Prop :=
 H b=none∧b≠X.env.locals∧b ∉ X.fs∧(b∈X.ex∨X.s₀.heap.objs.size≤b)∧(∀ x c,X.env.cells.lookup x=some c→c≠b)∧∀ p∈X.pn++pins,p.1≠b
theorem Inv.fpOk {X:Cx}{pins:List (Addr×Obj)}{σ:St}{H H':Hp}{s:Shared}{b:Addr} (I:Inv X pins σ H s) (hb:s.heap.objs.size≤b) (hn:H' b=none):FpOk X pins H' b:=by
 refine⟨hn,Nat.ne_of_gt (Nat.lt_of_lt_of_le I.lt hb),I.nofs hb,.inr (Nat.le_trans I.sz hb),fun x c e z=>?_,fun p hp z=>?_⟩
 ·obtain⟨v,q⟩:=I.cell x c e
  exact absurd (Nat.lt_of_lt_of_le q.lt (by rw [z]; exact hb)) (Nat.lt_irrefl _)
 ·exact absurd (Nat.lt_of_lt_of_le (Heap.lt_size (I.pin p hp).1) (by rw [z]; exact hb)) (Nat.lt_irrefl _)
structure Turn (P:Program) (w:World) (K:PySem.W.Frag) (tg:Expr) (J:It) (fp:List Addr) (it:Addr) (tn:Nat→Heap→Prop):Prop where
 mem:it∈fp
 obj:∀ i h,tn i h→∀ b∈fp,∃ o,h.get? b=some o∧∀ v,o.data≠.cell v
 keep:∀ i h h',tn i h→(∀ b∈fp,∀ o,h.get? b=some o→h'.get? b=some o)→tn i h'
 item:∀ (X:Cx),X.prog=P→X.w=w→X.K=K→X.calm=true→∀ (i:Nat) (pins:List (Addr×Obj)) (s:Shared) (σ:St) (H:Hp) (E:Value→Shared→Prop),Inv X pins σ H s→(∀ b∈fp,FpOk X pins H b)→tn i s.heap→J.go i H →
  wpAny (model P w) X.A (pyNext (.ref it)) (fun r s1=>∃ u,r=some u ∧
   wpAny (model P w) X.A (letOwnedTupleGo tg (.ref it) u) (fun _ s2=>∃ x H',Inv X pins σ H' s2∧RelV x u∧J.yld i H x H'∧tn (i+1) s2.heap∧∀ b∈fp,H' b=none) E s1) E s
 done:∀ (X:Cx),X.prog=P→X.w=w→X.K=K→X.calm=true→∀ (i:Nat) (pins:List (Addr×Obj)) (s:Shared) (σ:St) (H:Hp) (E:Value→Shared→Prop),Inv X pins σ H s→(∀ b∈fp,FpOk X pins H b)→tn i s.heap→J.stop i H →
  wpAny (model P w) X.A (pyNext (.ref it)) (fun r s1=>r=none∧Inv X pins σ H s1) E s
 self:∀ (A:Around) (i:Nat) (s:Shared) (Q:Value→Shared→Prop) (E:Value→Shared→Prop),tn i s.heap→Q (.ref it) s→wpAny (model P w) A (pyIter (.ref it)) Q E s
abbrev TI:=St→Hp→(It→Hp→Prop)→Prop
def PIE (X:Cx) (pins:List (Addr×Obj)) (σ:St) (tg:Expr) (R:It→Hp→Prop) (itv:Value) (s2:Shared):Prop :=
 ∃ (it:Addr) (fp:List Addr) (tn:Nat→Heap→Prop) (J:It) (H':Hp),itv=.ref it∧Inv X pins σ H' s2∧Turn X.prog X.w X.K tg J fp it tn∧tn 0 s2.heap∧(∀ b∈fp,FpOk X pins H' b)∧R J H'
def PI (X:Cx) (tg iter:Expr) (wi:TI):Prop :=
 ∀ (pins:List (Addr×Obj)) (s:Shared) (σ:St) (H:Hp) (R:It→Hp→Prop),Inv X pins σ H s→wi σ H R →
  wpAny (model X.prog X.w) X.A (eval iter X.env) (fun v s1=>wpAny (model X.prog X.w) X.A (pyIter v) (PIE X pins σ tg R) X.xe s1) X.xe s
theorem go_of {M:Model}{A:Around}{E:Value→Shared→Prop}{s:Shared}{tg:Expr}{it:Addr}{u:Value}{o:Obj}{n:String}{vs:Array Value}{Q:Unit→Shared→Prop} (ho:s.heap.get? it=some o) (hc:o.cls=.type n) (hd:o.data=.fields vs)
  (hn:["enumerate","zip","dict_itemiterator","dict_reverseitemiterator","odict_iterator","itertools.zip_longest","itertools.pairwise"].contains n=false) (hQ:Q () s):wpAny M A (letOwnedTupleGo tg (.ref it) u) Q E s:=by
 unfold letOwnedTupleGo
 cases tg <;> first
  | exact wpAny_pure hQ
  | (cases u <;> first
    | exact wpAny_pure hQ
    | (refine wpAny_bind (wpAny_load ho ?_);rw [hc,hd];show wpAny M A (if (["enumerate","zip","dict_itemiterator","dict_reverseitemiterator","odict_iterator","itertools.zip_longest","itertools.pairwise"].contains n && vs[0]? == some (rawInt _))=true then _ else _) Q E s;rw [if_neg (by intro h; rw [hn,Bool.false_and] at h; cases h)];exact wpAny_pure hQ))
def Itl (K:PySem.W.Frag) (a:Addr):It :=
 ⟨fun i H=>∃ xs x,SqL K H a xs∧xs[i]?=some x,fun i H x H'=>H'=H∧∀ xs,SqL K H a xs→xs[i]?=some x,fun i H=>∃ xs,SqL K H a xs∧xs.length≤i⟩
def Itt (K:PySem.W.Frag) (a:Addr):It :=
 ⟨fun i H=>∃ xs x,SqT K H a xs∧xs[i]?=some x,fun i H x H'=>H'=H∧∀ xs,SqT K H a xs→xs[i]?=some x,fun i H=>∃ xs,SqT K H a xs∧xs.length≤i⟩
def Itr (lo:Int) (n:Nat):It:=⟨fun i _=>i<n,fun i H x H'=>H'=H∧x=.int (lo+i),fun i _=>n≤i⟩
theorem turn_list {P:Program}{w:World}{K:PySem.W.Frag}{tg:Expr} (a it:Addr):Turn P w K tg (Itl K a) [it] it (fun i h=>h.IsListIter it a i) where
 mem:=by simp
 obj:=fun i h st b hb=>by
  have e:b=it:=by simpa using hb
  subst e
  obtain⟨o,e,c,d⟩:=st
  exact⟨o,e,fun v z=>by rw [d] at z; cases z⟩
 keep:=fun i h h' st k=>st.at fun o e=>k it (by simp) o e
 item:=by
  intro X hP hw hK hc i pins s σ H E I hf st hg
  subst hP hw hK
  obtain⟨xs,x,hq,hx⟩:=hg
  obtain⟨its,rv,p,hz⟩:=I.list hq
  obtain⟨u,hu,ru⟩:=rv.get hx
  obtain⟨f0,f1,f2,f3,f4,f5⟩:=hf it (by simp)
  refine wpAny_pyNext_list_item st p.isList (x:=u) (by simpa using hu) fun h' st' sb=>?_
  have I1:Inv X pins σ H { s with heap:=h' }:=I.turned (t':=s.toks) (fun b o hb e=>(sb.2 b hb).trans e) f0 f1 f3 f4 f5
  obtain⟨o,e,c,d⟩:=id st'
  exact⟨u,rfl,go_of (s:={ s with heap:=h' }) e c d (by decide) ⟨x,H,I1,ru,⟨rfl,fun ys hy=>by rw [I.list_inj hy hq]; exact hx⟩,st',fun b hb=>(hf b hb).1⟩⟩
 done:=by
  intro X hP hw hK hc i pins s σ H E I hf st hg
  subst hP hw hK
  obtain⟨xs,hq,hx⟩:=hg
  obtain⟨its,rv,p,hz⟩:=I.list hq
  obtain⟨f0,f1,f2,f3,f4,f5⟩:=hf it (by simp)
  have hl:=rv.length
  exact wpAny_pyNext_list_end (I.ok.hd hc) st p.isList (by simp; lia) fun h' eb=>⟨rfl,I.turned (t':=s.toks) (fun b o hb e=>eb b o hb e) f0 f1 f3 f4 f5⟩
 self:=fun _ _ _ _ _ st h=>wpAny_pyIter_listiter st h
theorem aav {P:Program}{w:World}{K:PySem.W.Frag}{tg:Expr} (a it:Addr):Turn P w K tg (Itt K a) [it] it (fun i h=>h.IsTupleIter it a i) where
 mem:=by simp
 obj:=fun i h st b hb=>by
  have e:b=it:=by simpa using hb
  subst e
  obtain⟨o,e,c,d⟩:=st
  exact⟨o,e,fun v z=>by rw [d] at z; cases z⟩
 keep:=fun i h h' st k=>st.at fun o e=>k it (by simp) o e
 item:=by
  intro X hP hw hK hc i pins s σ H E I hf st hg
  subst hP hw hK
  obtain⟨xs,x,hq,hx⟩:=hg
  obtain⟨its,rv,p,hz⟩:=I.tuple hq
  obtain⟨u,hu,ru⟩:=rv.get hx
  obtain⟨f0,f1,f2,f3,f4,f5⟩:=hf it (by simp)
  refine wpAny_pyNext_tuple_item st (show s.heap.IsTuple a its.toArray from p) (x:=u) (by simpa using hu) fun h' st' sb=>?_
  have I1:Inv X pins σ H { s with heap:=h' }:=I.turned (t':=s.toks) (fun b o hb e=>(sb.2 b hb).trans e) f0 f1 f3 f4 f5
  obtain⟨o,e,c,d⟩:=id st'
  exact⟨u,rfl,go_of (s:={ s with heap:=h' }) e c d (by decide) ⟨x,H,I1,ru,⟨rfl,fun ys hy=>by rw [I.u_ hy hq]; exact hx⟩,st',fun b hb=>(hf b hb).1⟩⟩
 done:=by
  intro X hP hw hK hc i pins s σ H E I hf st hg
  subst hP hw hK
  obtain⟨xs,hq,hx⟩:=hg
  obtain⟨its,rv,p,hz⟩:=I.tuple hq
  obtain⟨f0,f1,f2,f3,f4,f5⟩:=hf it (by simp)
  have hl:=rv.length
  exact wpAny_pyNext_tuple_end (I.ok.hd hc) st (show s.heap.IsTuple a its.toArray from p) (by simp; lia) fun h' eb=>⟨rfl,I.turned (t':=s.toks) (fun b o hb e=>eb b o hb e) f0 f1 f3 f4 f5⟩
 self:=fun _ _ _ _ _ st h=>wpAny_pyIter_tupleiter st h
theorem aaw {P:Program}{w:World}{K:PySem.W.Frag}{tg:Expr} (it:Addr) (lo:Int) (n:Nat):Turn P w K tg (Itr lo n) [it] it (fun i h=>IsRangeIter h it (lo+(i:Nat) * 1) ((n:Int) - (i:Nat)) 1) where
 mem:=by simp
 obj:=fun i h st b hb=>by
  have e:b=it:=by simpa using hb
  subst e
  exact⟨_,st,fun v z=>by
   have z':Data.fields _=Data.cell v:=z
   cases z'⟩
 keep:=fun i h h' st k=>k it (by simp) _ st
 item:=by
  intro X hP hw hK hc i pins s σ H E I hf st hg
  subst hP hw hK
  obtain⟨f0,f1,f2,f3,f4,f5⟩:=hf it (by simp)
  have W:=Walks.range (prog:=X.prog) (w:=X.w) (I.ok.hd hc) it lo 1 n
  refine W.item i s _ _ hg st fun v h' tk hv st' kk=>?_
  obtain⟨t,rfl⟩:=hv
  have I1:Inv X pins σ H { s with heap:=h',toks:=tk }:=I.turned (fun b o hb e=>kk b o (by simpa using hb) e) f0 f1 f3 f4 f5
  refine⟨_,rfl,go_of (s:={ s with heap:=h',toks:=tk }) (n:="range_iterator") st' rfl rfl (by decide) ⟨.int (lo+i),H,I1,⟨t,?_⟩,⟨rfl,rfl⟩,st',fun b hb=>(hf b hb).1⟩⟩
  rw [Int.mul_one]
 done:=by
  intro X hP hw hK hc i pins s σ H E I hf st hg
  subst hP hw hK
  obtain⟨f0,f1,f2,f3,f4,f5⟩:=hf it (by simp)
  exact wpAny_pyNext_range_end (I.ok.hd hc) st (by have:n≤i:=hg; lia) fun h' eb=>⟨rfl,I.turned (t':=s.toks) (fun b o hb e=>eb b o hb e) f0 f1 f3 f4 f5⟩
 self:=fun _ _ _ _ _ st h=>wpAny_pyIter_rangeiter st h
section
variable {X:Cx}{tg:Expr}
def iList (K:PySem.W.Frag) (tl:TE):TI:=fun σ H R=>tl σ H fun x H1=>∃ a,x=.ref a∧(∃ xs,SqL K H1 a xs)∧R (Itl K a) H1
def aio (K:PySem.W.Frag) (tl:TE):TI:=fun σ H R=>tl σ H fun x H1=>∃ a,x=.ref a∧(∃ xs,SqT K H1 a xs)∧R (Itt K a) H1
theorem pi_list {l:Expr}{tl:TE} (hl:PE X l tl):PI X tg l (iList X.K tl):=by
 intro pins s σ H R I h
 refine thn (hl pins s σ H _ I h) fun v s1 ⟨x,H1,I1,r1,q1⟩=>?_
 obtain⟨a,e,⟨xs,hq⟩,q⟩:=q1
 subst e
 cases r1
 obtain⟨its,rv,p,hz⟩:=I1.list hq
 refine wpAny_pyIter_list p.isList ?_
 refine⟨s1.heap.objs.size,[s1.heap.objs.size],_,_,H1,rfl,I1.kept (t':=s1.toks) fun b o e=>Heap.get?_push_of_some _ e,turn_list a _,⟨_,Heap.get?_push_size _ rfl,rfl,rfl⟩,fun b hb=>?_,q⟩
 have e:b=s1.heap.objs.size:=by simpa using hb
 subst e
 exact I1.fpOk (Nat.le_refl _) (I1.hok.fresh (Nat.le_refl _))
theorem ahM {l:Expr}{tl:TE} (hl:PE X l tl):PI X tg l (aio X.K tl):=by
 intro pins s σ H R I h
 refine thn (hl pins s σ H _ I h) fun v s1 ⟨x,H1,I1,r1,q1⟩=>?_
 obtain⟨a,e,⟨xs,hq⟩,q⟩:=q1
 subst e
 cases r1
 obtain⟨its,rv,p,hz⟩:=I1.tuple hq
 refine wpAny_pyIter_tuple (show s1.heap.IsTuple a its.toArray from p) ?_
 refine⟨s1.heap.objs.size,[s1.heap.objs.size],_,_,H1,rfl,I1.kept (t':=s1.toks) fun b o e=>Heap.get?_push_of_some _ e,aav a _,⟨_,Heap.get?_push_size _ rfl,rfl,rfl⟩,fun b hb=>?_,q⟩
 have e:b=s1.heap.objs.size:=by simpa using hb
 subst e
 exact I1.fpOk (Nat.le_refl _) (I1.hok.fresh (Nat.le_refl _))
theorem aep {pins:List (Addr×Obj)}{σ:St}{H:Hp}{s:Shared}{R:It→Hp→Prop}{E:Value→Shared→Prop}{lo hi:Int}{t u v:Tok}{tk:Nat} (I:Inv X pins σ H s) (h1:-(2 ^ 62)≤lo) (h2:lo<2 ^ 62) (h3:-(2 ^ 62)≤hi) (h4:hi<2 ^ 62)
  (q:R (Itr lo (hi - lo).toNat) H):wpAny (model X.prog X.w) X.A (pyIter (.ref s.heap.objs.size)) (PIE X pins σ tg R) E { s with heap:=s.heap.push { cls:=.type "range",data:=.fields #[.int lo t,.int hi u,.int 1 v] },toks:=tk }:=by
 refine wpAny_pyIter_range (IsRange.new ..) (small_one h1 h2 h3 h4) ?_
 have I1:Inv X pins σ H { s with heap:=s.heap.push { cls:=.type "range",data:=.fields #[.int lo t,.int hi u,.int 1 v] },toks:=tk }:=I.kept fun b o e=>Heap.get?_push_of_some _ e
 refine⟨(s.heap.push { cls:=.type "range",data:=.fields #[.int lo t,.int hi u,.int 1 v] }).objs.size,[(s.heap.push { cls:=.type "range",data:=.fields #[.int lo t,.int hi u,.int 1 v] }).objs.size],_,_,H,rfl,
  I1.kept (t':=tk) fun b o e=>Heap.get?_push_of_some _ e,aaw _ lo (hi - lo).toNat,?_,fun b hb=>?_,q⟩
 ·have e1:lo+((0:Nat):Int) * 1=lo:=by simp
  have e2:(((hi - lo).toNat:Nat):Int) - ((0:Nat):Int)=Builtin.Range.rangeSize lo hi 1:=by rw [rangeSize_one]; split <;> lia
  show IsRangeIter _ _ (lo+((0:Nat):Int) * 1) ((((hi - lo).toNat:Nat):Int) - ((0:Nat):Int)) 1
  rw [e1,e2]
  exact Heap.get?_push_size _ rfl
 ·have e:b=(s.heap.push { cls:=.type "range",data:=.fields #[.int lo t,.int hi u,.int 1 v] }).objs.size:=by simpa using hb
  subst e
  exact I1.fpOk (Nat.le_refl _) (I1.hok.fresh (Nat.le_refl _))
def afJ (ta:TA):TI:=fun σ H R=>ta σ H fun vs H1=>∃ j:Int,vs=[.int j]∧-(2 ^ 62)≤j∧j<2 ^ 62∧R (Itr 0 j.toNat) H1
theorem acM {a:Expr}{ta:TA}{p pos:Pos} (hg:Gl X "range") (hm:X.mg "range"=none) (ha:PA X [a] ta) (hs:starEach [a] X.env=[(false,eval a X.env)]:=by rfl):PI X tg (.Call (.Name "range" p) [a] [] pos) (afJ ta):=by
 intro pins s σ H R I h
 refine Call_ (ld_blt I hg hm boot_range (PyProof.Rows.callWith_type1 (thn (ha pos pins s σ H _ I h) fun us s1 ⟨vs,H1,I1,r1,q1⟩=>?_) hs rfl))
 obtain⟨j,e,q1,q2,q⟩:=q1
 subst e
 cases r1 with
 | cons r rr =>
  cases rr
  obtain⟨t,rfl⟩:=r
  exact call_range_1 (aep I1 (by lia) (by lia) q1 q2 (by simpa using q))
def tFor (wi:TI) (g:TG) (tb:TS):TS:=fun D σ H=>wi σ H fun J H1=>∃ W:Nat→Nat→St→Hp→Prop,(∃ m,W 0 m σ H1)∧∀ i m σ H,W i m σ H →
 (J.stop i H∧D.nx σ H)∨(J.go i H∧∃ N:St→Hp→Prop,(∀ σ' H',N σ' H'→∃ m',m'<m∧W (i+1) m' σ' H')∧∀ x H',J.yld i H x H'→g x σ H' fun σ2 H2=>tb { D with nx:=N,ct:=N,bk:=D.nx } σ2 H2)
def pinsAt (fp:List Addr) (h:Heap):List (Addr×Obj):=fp.filterMap fun b=>(h.get? b).map fun o=>(b,o)
theorem mem_pinsAt {fp:List Addr}{h:Heap}{b:Addr}{o:Obj} (hb:b∈fp) (e:h.get? b=some o):(b,o)∈pinsAt fp h:=List.mem_filterMap.mpr ⟨b,hb,by rw [e]; rfl⟩
theorem of_pinsAt {fp:List Addr}{h:Heap}{p:Addr×Obj} (hp:p∈pinsAt fp h):p.1∈fp∧h.get? p.1=some p.2:=by
 obtain⟨b,hb,e⟩:=List.mem_filterMap.mp hp
 cases q:h.get? b with
 | none=>rw [q] at e; cases e
 | some o =>
  rw [q] at e
  have e':(b,o)=p:=Option.some.inj e
  subst e'
  exact⟨hb,q⟩
theorem Inv.pinned {pins:List (Addr×Obj)}{σ:St}{H:Hp}{s:Shared}{fp:List Addr} (I:Inv X pins σ H s) (hf:∀ b∈fp,FpOk X pins H b) (ho:∀ b∈fp,∃ o,s.heap.get? b=some o∧∀ v,o.data≠.cell v):Inv X (pins++pinsAt fp s.heap) σ H s :=
 I.pins_of fun p hp=>(List.mem_append.mp hp).elim (fun z=>I.pin p (List.mem_append_right _ z)) fun z=>by
  obtain⟨hb,e⟩:=of_pinsAt z
  obtain⟨f0,f1,f2,_⟩:=hf p.1 hb
  obtain⟨o,e',d⟩:=ho p.1 hb
  rw [e] at e'; cases e'
  exact⟨e,f0,f1,f2,d⟩
theorem Inv.unpinned {pins pl:List (Addr×Obj)}{σ:St}{H:Hp}{s:Shared} (I:Inv X (pins++pl) σ H s):Inv X pins σ H s:=I.pins_of fun p hp=>I.pin p (List.mem_append_right _ (List.mem_append_left _ hp))
theorem ps_for {iter:Expr}{body:List Stmt}{wi:TI}{g:TG}{tb:TS}{pos:Pos} (hp:PassesOwn (model X.prog X.w) X.A X.env X.xe) (hc:X.calm=true) (hi:PI X tg iter wi) (hg:PG X tg g) (hb:PSs X body tb)
  (hs:∀ x,foldedSetIterable iter X.env x=pure x:=by intro _; rfl):PS X (.For tg iter body [] pos) (tFor wi g tb):=by
 intro pins s σ H D I h
 refine wpAny_For (thn (hi pins s σ H _ I h) fun v s1 h1=>thn h1 fun itv s2 h2=>?_) hs
 obtain⟨it,fp,tn,J,H2,e,I2,T,st2,f2,W,⟨m0,w0⟩,turn⟩:=h2
 subst e
 have stat:∀ {H':Hp},(∀ b∈fp,H' b=none)→∀ b∈fp,FpOk X pins H' b:=fun hn b hb=>⟨hn b hb,(f2 b hb).2⟩
 refine codeAny_forLoop_any (fun n s'=>∃ i σ' H',Inv X pins σ' H' s'∧tn i s'.heap∧(∀ b∈fp,H' b=none)∧W i n σ' H') ?_ m0 ⟨0,σ,H2,I2,st2,fun b hb=>(f2 b hb).1,w0⟩
 rintro n s3 ⟨i,σ3,H3,I3,st3,fr3,w3⟩
 rcases turn i n σ3 H3 w3 with⟨stop,qn⟩ | ⟨go,N,hN,step⟩
 ·refine wpAny_passesOwn hp (thn (T.done X rfl rfl rfl hc i pins s3 σ3 H3 X.xe I3 (stat fr3) st3 stop) fun r s4 ⟨hr,I4⟩=>?_)
  subst hr
  exact wpAny_execs_nil ⟨σ3,H3,I4,qn⟩
 ·refine wpAny_passesOwn hp (thn (T.item X rfl rfl rfl hc i pins s3 σ3 H3 X.xe I3 (stat fr3) st3 go) fun r s4 ⟨u,hr,h4⟩=>?_)
  subst hr
  refine wpAny_passesOwn hp (thn h4 fun _ s5 ⟨x,H5,I5,r5,y5,st5,fr5⟩=>?_)
  have I5':=I5.pinned (stat fr5) (T.obj _ _ st5)
  refine wpAny_passesOwn hp (thn (hg _ s5 σ3 H5 x u _ I5' r5 (step x H5 y5)) fun _ s6 ⟨σ6,H6,I6,q6⟩=>?_)
  refine wpAny_passesOwn hp (thn (hb _ s6 σ6 H6 _ I6 q6) fun f s7 q7=>?_)
  have again:∀ {σ7:St}{H7:Hp},Inv X (pins++pinsAt fp s5.heap) σ7 H7 s7→N σ7 H7→∃ m,m<n∧∃ i σ' H',Inv X pins σ' H' s7∧tn i s7.heap∧(∀ b∈fp,H' b=none)∧W i m σ' H':=fun {σ7 H7} I7 n7=>by
   obtain⟨m',hm,w7⟩:=hN σ7 H7 n7
   refine⟨m',hm,i+1,σ7,H7,I7.unpinned,T.keep _ _ _ st5 fun b hb o e=>(I7.pin (b,o) (List.mem_append_right _ (List.mem_append_right _ (mem_pinsAt hb e)))).1,fun b hb=>?_,w7⟩
   obtain⟨o,e,d⟩:=T.obj _ _ st5 b hb
   exact (I7.pin (b,o) (List.mem_append_right _ (List.mem_append_right _ (mem_pinsAt hb e)))).2.1
  cases f with
  | next=>obtain⟨σ7,H7,I7,n7⟩:=q7; exact again I7 n7
  | cont=>obtain⟨σ7,H7,I7,n7⟩:=q7; exact again I7 n7
  | brk=>obtain⟨σ7,H7,I7,q7⟩:=q7; exact⟨σ7,H7,I7.unpinned,q7⟩
  | ret v=>obtain⟨x7,σ7,H7,I7,r7,q7⟩:=q7; exact⟨x7,σ7,H7,I7.unpinned,r7,q7⟩
end
theorem vD {lo:Int}{n:Nat}{g:TG}{tb:TS}{D:Ends}{σ:St}{H:Hp} (Pv:Nat→St→Hp→Prop) (h0:Pv 0 σ H)
  (hs:∀ i σ H,i<n→Pv i σ H→g (.int (lo+i)) σ H fun σ2 H2=>tb { D with nx:=Pv (i+1),ct:=Pv (i+1),bk:=D.nx } σ2 H2) (hd:∀ σ H,Pv n σ H→D.nx σ H) :
  ∃ W:Nat→Nat→St→Hp→Prop,(∃ m,W 0 m σ H)∧∀ i m σ H,W i m σ H →
   ((Itr lo n).stop i H∧D.nx σ H)∨((Itr lo n).go i H∧∃ N:St→Hp→Prop,(∀ σ' H',N σ' H'→∃ m',m'<m∧W (i+1) m' σ' H')∧∀ x H',(Itr lo n).yld i H x H'→g x σ H' fun σ2 H2=>tb { D with nx:=N,ct:=N,bk:=D.nx } σ2 H2):=by
 refine⟨fun i m σ H=>m=n - i∧i≤n∧Pv i σ H,⟨n,by simp,Nat.zero_le _,h0⟩,?_⟩
 rintro i m σ H ⟨rfl,hi,p⟩
 by_cases hlt:i<n
 ·refine .inr ⟨hlt,Pv (i+1),fun σ' H' p'=>⟨n - (i+1),by lia,rfl,hlt,p'⟩,fun x H' y=>?_⟩
  obtain⟨e,y⟩:=y
  subst e y
  exact hs i σ _ hlt p
 ·have e:i=n:=by lia
  subst e
  exact .inl ⟨Nat.le_refl _,hd σ H p⟩
abbrev R2:=V→V→Hp→VK→Prop
def OpR (X:Cx) (f:Value→Value→Sem Value) (r:R2):Prop :=
 ∀ (pins:List (Addr×Obj)) (s:Shared) (σ:St) (H:Hp) (x y:V) (v u:Value) (Q:VK),Inv X pins σ H s→RelV x v→RelV y u→r x y H Q →
  wpAny (model X.prog X.w) X.A (f v u) (EP X pins σ Q) X.xe s
def UnR (X:Cx) (f:Value→Sem Value) (r:V→Hp→VK→Prop):Prop :=
 ∀ (pins:List (Addr×Obj)) (s:Shared) (σ:St) (H:Hp) (x:V) (v:Value) (Q:VK),Inv X pins σ H s→RelV x v→r x H Q →
  wpAny (model X.prog X.w) X.A (f v) (EP X pins σ Q) X.xe s
def CallR (X:Cx) (f:Value) (r:List V→Hp→VK→Prop):Prop :=
 ∀ (pins:List (Addr×Obj)) (s:Shared) (σ:St) (H:Hp) (xs:List V) (us:List Value) (Q:VK),Inv X pins σ H s→Vals xs us→r xs H Q →
  wpAny (model X.prog X.w) X.A (call f us) (EP X pins σ Q) X.xe s
def aqr (X:Cx) (r:V→Hp→(Bool→Hp→Prop)→Prop):Prop :=
 ∀ (pins:List (Addr×Obj)) (s:Shared) (σ:St) (H:Hp) (x:V) (v:Value) (Q:Bool→Hp→Prop),Inv X pins σ H s→RelV x v→r x H Q →
  wpAny (model X.prog X.w) X.A (truthy v) (TP X pins σ Q) X.xe s
def tOp (r:R2) (ta tb:TE):TE:=fun σ H Q=>ta σ H fun x H1=>tb σ H1 fun y H2=>r x y H2 Q
def tUn (r:V→Hp→VK→Prop) (ta:TE):TE:=fun σ H Q=>ta σ H fun x H1=>r x H1 Q
def rI (C:Int→Int→Prop) (g:Int→Int→V):R2:=fun x y H Q=>∃ i j,x=.int i∧y=.int j∧C i j∧Q (g i j) H
def rI0 (g:Int→Int→V):R2:=fun x y H Q=>∃ i j,x=.int i∧y=.int j∧Q (g i j) H
def rU (g:Int→V):V→Hp→VK→Prop:=fun x H Q=>∃ i,x=.int i∧Q (g i) H
section
variable {X:Cx}{a b c:Expr}{ta tb tc:TE}{pos:Pos}
theorem binT (ha:PE X a ta) (hb:PE X b tb) {pins:List (Addr×Obj)}{s:Shared}{σ:St}{H:Hp}{R:V→V→Hp→Prop} (I:Inv X pins σ H s)
  (h:ta σ H fun x H1=>tb σ H1 fun y H2=>R x y H2) {Q:Value→Shared→Prop}{f:Value→Value→Sem Value}
  (hf:∀ v u s2 x y H2,Inv X pins σ H2 s2→RelV x v→RelV y u→R x y H2→wpAny (model X.prog X.w) X.A (f v u) Q X.xe s2) :
  wpAny (model X.prog X.w) X.A (eval a X.env) (fun v s₁=>wpAny (model X.prog X.w) X.A (eval b X.env) (fun u s₂=>wpAny (model X.prog X.w) X.A (f v u) Q X.xe s₂) X.xe s₁) X.xe s:=by
 refine thn (ha pins s σ H _ I h) fun v s1 ⟨x,H1,I1,r1,q1⟩=>?_
 refine thn (hb pins s1 σ H1 _ I1 q1) fun u s2 ⟨y,H2,I2,r2,q2⟩=>?_
 exact hf v u s2 x y H2 I2 r1 r2 q2
theorem pe_op {op:Operator}{r:R2} (ho:OpR X (binaryOp op) r) (ha:PE X a ta) (hb:PE X b tb):PE X (.BinOp a op b pos) (tOp r ta tb):=by
 intro pins s σ H Q I h
 exact wpAny_BinOp (binT ha hb I h fun v u s2 x y H2 I2 rx ry q=>ho pins s2 σ H2 x y v u Q I2 rx ry q)
theorem aj7 {op:UnaryOp}{r:V→Hp→VK→Prop} (ho:UnR X (unaryOp op) r) (ha:PE X a ta):PE X (.UnaryOp op a pos) (tUn r ta):=by
 intro pins s σ H Q I h
 exact UnaryOp_ (thn (ha pins s σ H _ I h) fun v s1 ⟨x,H1,I1,r1,q1⟩=>ho pins s1 σ H1 x v Q I1 r1 q1)
theorem opI {f:Value→Value→Sem Value}{C:Int→Int→Prop}{g:Int→Int→Int}
  (rule:∀ (i j:Int) (t u:Tok) (s:Shared) (Q:Value→Shared→Prop) (E:Value→Shared→Prop),C i j→Q (.int (g i j) s.toks) { s with toks:=s.toks+1 }→wpAny (model X.prog X.w) X.A (f (.int i t) (.int j u)) Q E s) :
  OpR X f (rI C fun i j=>.int (g i j)):=by
 intro pins s σ H x y v u Q I rx ry h
 obtain⟨i,j,rfl,rfl,hc,q⟩:=h
 obtain⟨t,rfl⟩:=rx
 obtain⟨t',rfl⟩:=ry
 exact rule i j t t' s _ _ hc ⟨.int (g i j),H,I.tok _,⟨_,rfl⟩,q⟩
theorem opI0 {f:Value→Value→Sem Value}{g:Int→Int→Int}
  (rule:∀ (i j:Int) (t u:Tok) (s:Shared) (Q:Value→Shared→Prop) (E:Value→Shared→Prop),Q (.int (g i j) s.toks) { s with toks:=s.toks+1 }→wpAny (model X.prog X.w) X.A (f (.int i t) (.int j u)) Q E s) :
  OpR X f (rI0 fun i j=>.int (g i j)):=by
 intro pins s σ H x y v u Q I rx ry h
 obtain⟨i,j,rfl,rfl,q⟩:=h
 obtain⟨t,rfl⟩:=rx
 obtain⟨t',rfl⟩:=ry
 exact rule i j t t' s _ _ ⟨.int (g i j),H,I.tok _,⟨_,rfl⟩,q⟩
theorem opB0 {f:Value→Value→Sem Value}{g:Int→Int→Bool}
  (rule:∀ (i j:Int) (t u:Tok) (s:Shared) (Q:Value→Shared→Prop) (E:Value→Shared→Prop),Q (.bool (g i j)) s→wpAny (model X.prog X.w) X.A (f (.int i t) (.int j u)) Q E s) :
  OpR X f (rI0 fun i j=>.bl (g i j)):=by
 intro pins s σ H x y v u Q I rx ry h
 obtain⟨i,j,rfl,rfl,q⟩:=h
 obtain⟨t,rfl⟩:=rx
 obtain⟨t',rfl⟩:=ry
 exact rule i j t t' s _ _ ⟨.bl (g i j),H,I,rfl,q⟩
def CDiv (i j:Int):Prop:=0<j∧j<1073741824
def aqt (i j:Int):Prop:=0≤j∧j≤1000000∧i.natAbs<2 ^ 64
def CMul (i j:Int):Prop:=(-(2 ^ 64)<i∧i<2 ^ 64)∨(-(2 ^ 64)<j∧j<2 ^ 64)
theorem CMul.ok {i j:Int} (h:CMul i j):IntMulOk i j:=by
 rcases h with⟨h1,h2⟩ | ⟨h1,h2⟩
 ·exact .of_left (intBits_le_64 h1 h2)
 ·exact .of_right (intBits_le_64 h1 h2)
theorem op_add:OpR X (binaryOp .Add) (rI0 fun i j=>.int (i+j)):=opI0 fun _ _ _ _ _ _ _ q=>add_int q
theorem op_sub:OpR X (binaryOp .Sub) (rI0 fun i j=>.int (i - j)):=opI0 fun _ _ _ _ _ _ _ q=>sub_int q
theorem yp:OpR X (binaryOp .Mult) (rI CMul fun i j=>.int (i * j)):=opI fun _ _ _ _ _ _ _ hc q=>mul_int q hc.ok
theorem op_fdiv:OpR X (binaryOp .FloorDiv) (rI CDiv fun i j=>.int (i / j)):=opI fun i j _ _ _ _ _ hc q=>by
 have h1:(0:Int)<j:=hc.1
 have h2:j<1073741824:=hc.2
 exact floordiv_int (by lia) (by rw [Int.fdiv_eq_ediv_of_nonneg i (by lia)]; exact q) (.inl (PyProof.noPylong_small (by lia)))
theorem op_mod:OpR X (binaryOp .Mod) (rI (fun _ j=>0<j) fun i j=>.int (i % j)):=opI fun i j _ _ _ _ _ hc q=>by
 have h1:(0:Int)<j:=hc
 exact mod_int' (by lia) (by rw [Int.fmod_eq_emod_of_nonneg i (by lia)]; exact q)
theorem acP:OpR X (binaryOp .Pow) (rI aqt fun i j=>.int (i ^ j.toNat)):=opI fun _ _ _ _ _ _ _ hc q=>pow_int_small hc.1 hc.2.1 hc.2.2 q
theorem unI {f:Value→Sem Value}{g:Int→Int}
  (rule:∀ (i:Int) (t:Tok) (s:Shared) (Q:Value→Shared→Prop) (E:Value→Shared→Prop),Q (.int (g i) s.toks) { s with toks:=s.toks+1 }→wpAny (model X.prog X.w) X.A (f (.int i t)) Q E s) :
  UnR X f (rU fun i=>.int (g i)):=by
 intro pins s σ H x v Q I rx h
 obtain⟨i,rfl,q⟩:=h
 obtain⟨t,rfl⟩:=rx
 exact rule i t s _ _ ⟨.int (g i),H,I.tok _,⟨_,rfl⟩,q⟩
theorem uY:UnR X (unaryOp .USub) (rU fun i=>.int (-i)):=unI fun _ _ _ _ _ q=>neg_int q
end
def scal:V→V→Bool
 | .non,.non=>true | .non,.int _=>true | .int _,.non=>true | .non,.bl _=>true | .bl _,.non=>true | .non,.str _=>true | .str _,.non=>true
 | .int _,.int _=>true | .bl _,.bl _=>true | .str _,.str _=>true | .byt _,.byt _=>true
 | .int _,.str _=>true | .str _,.int _=>true | .bl _,.str _=>true | .str _,.bl _=>true
 | _,_=>false
def rEq:R2:=fun x y H Q=>scal x y=true∧Q (.bl (decide (x=y))) H
theorem dec_int {i j:Int}:decide (V.int i=V.int j)=(i == j):=by
 rw [Bool.eq_iff_iff]
 simp
theorem dec_bl {i j:Bool}:decide (V.bl i=V.bl j)=(i == j):=by
 rw [Bool.eq_iff_iff]
 simp
theorem dec_str {i j:Str}:decide (V.str i=V.str j)=(i == j):=by
 rw [Bool.eq_iff_iff]
 simp
theorem dec_byt {i j:Array UInt8}:decide (V.byt i=V.byt j)=(i.toList == j.toList):=by
 rw [Bool.eq_iff_iff]
 cases i
 cases j
 simp
section
variable {X:Cx}{a b c:Expr}{ta tb tc:TE}{pos:Pos}
theorem fin_bl {pins:List (Addr×Obj)}{σ:St}{H:Hp}{s:Shared}{Q:VK}{k k':Bool} (I:Inv X pins σ H s) (q:Q (.bl k) H) (e:k=k'):EP X pins σ Q (.bool k') s:=by
 subst e
 exact⟨.bl k,H,I,rfl,q⟩
theorem op_eq:OpR X (compareOp .Eq) rEq:=by
 intro pins s σ H x y v u Q I rx ry h
 obtain⟨hs,q⟩:=h
 cases x with
 | non =>
  cases rx
  cases y with
  | non=>cases ry; exact PySem.EqNone.eq_none_none (fin_bl I q (by simp))
  | bl j=>cases ry; exact PySem.EqNone.eq_none_bool (fin_bl I q (by simp))
  | int j=>obtain⟨t',rfl⟩:=ry; exact PySem.EqNone.eq_none_int (fin_bl I q (by simp))
  | str j=>obtain⟨t',rfl⟩:=ry; exact PySem.EqNone.eq_none_str (fin_bl I q (by simp))
  | _=>exact absurd (show false=true from hs) Bool.false_ne_true
 | bl i =>
  cases rx
  cases y with
  | non=>cases ry; exact PySem.EqNone.eq_bool_none (fin_bl I q (by simp))
  | bl j=>cases ry; exact eq_bool (fin_bl I q dec_bl)
  | str j=>obtain⟨t',rfl⟩:=ry; exact PySem.EqMixed.eq_bool_str (fin_bl I q (by simp))
  | _=>exact absurd (show false=true from hs) Bool.false_ne_true
 | int i =>
  obtain⟨t,rfl⟩:=rx
  cases y with
  | non=>cases ry; exact PySem.EqNone.eq_int_none (fin_bl I q (by simp))
  | int j=>obtain⟨t',rfl⟩:=ry; exact eq_int (fin_bl I q dec_int)
  | str j=>obtain⟨t',rfl⟩:=ry; exact PySem.EqMixed.eq_int_str (fin_bl I q (by simp))
  | _=>exact absurd (show false=true from hs) Bool.false_ne_true
 | str i =>
  obtain⟨t,rfl⟩:=rx
  cases y with
  | non=>cases ry; exact PySem.EqNone.eq_str_none (fin_bl I q (by simp))
  | bl j=>cases ry; exact PySem.EqMixed.eq_str_bool (fin_bl I q (by simp))
  | int j=>obtain⟨t',rfl⟩:=ry; exact PySem.EqMixed.eq_str_int (fin_bl I q (by simp))
  | str j=>obtain⟨t',rfl⟩:=ry; exact eq_str (fin_bl I q dec_str)
  | _=>exact absurd (show false=true from hs) Bool.false_ne_true
 | byt i =>
  obtain⟨t,rfl⟩:=rx
  cases y with
  | byt j=>obtain⟨t',rfl⟩:=ry; exact PySem.W.eq_bytes (fin_bl I q dec_byt)
  | _=>exact absurd (show false=true from hs) Bool.false_ne_true
 | _=>cases y <;> exact absurd (show false=true from hs) Bool.false_ne_true
theorem aaP:OpR X (compareOp .Lt) (rI0 fun i j=>.bl (decide (i<j))):=opB0 fun _ _ _ _ _ _ _ q=>lt_int q
theorem akc:OpR X (compareOp .LtE) (rI0 fun i j=>.bl (decide (i≤j))):=opB0 fun _ _ _ _ _ _ _ q=>le_int q
theorem Im:OpR X (compareOp .Gt) (rI0 fun i j=>.bl (decide (j<i))):=opB0 fun _ _ _ _ _ _ _ q=>gt_int q
theorem acQ:OpR X (compareOp .Is) (fun x y H Q=>y=.non∧Q (.bl (decide (x=.non))) H):=by
 intro pins s σ H x y v u Q I rx ry h
 obtain⟨rfl,q⟩:=h
 cases ry
 refine is_none_gen (fin_bl I q ?_)
 cases x <;> first
  | (cases rx; rfl)
  | (obtain⟨t,rfl⟩:=rx; rfl)
theorem nomark (b:Expr) {op:CmpOp} (h:op≠.In:=by decide) (h2:op≠.NotIn:=by decide):behindInMarks op b=false:=by
 have e1:(op == CmpOp.In)=false:=by cases op <;> first | rfl | exact absurd rfl h
 have e2:(op == CmpOp.NotIn)=false:=by cases op <;> first | rfl | exact absurd rfl h2
 cases b <;> simp [behindInMarks,e1,e2]
theorem pe_cmpR {op:CmpOp}{r:R2} (ho:OpR X (compareOp op) r) (ha:PE X a ta) (hb:PE X b tb) (hm:behindInMarks op b=false):PE X (.Compare a [op] [b] pos) (tOp r ta tb):=by
 intro pins s σ H Q I h
 exact wpAny_Compare1 (binT ha hb I h fun v u s2 x y H2 I2 rx ry q=>ho pins s2 σ H2 x y v u Q I2 rx ry q) hm
def tTest (t:TE):TT:=fun σ H Q=>t σ H fun x H'=>∃ k,x=.bl k∧Q k H'
theorem pt_cmpR {op:CmpOp}{r:R2} (ho:OpR X (compareOp op) r) (ha:PE X a ta) (hb:PE X b tb) (hm:behindInMarks op b=false):PT X (.Compare a [op] [b] pos) (tTest (tOp r ta tb)):=by
 intro pins s σ H Q I h
 refine wpAny_isTrue_Compare1 (thn (ha pins s σ H _ I h) fun v s1 ⟨x,H1,I1,r1,q1⟩=>thn (hb pins s1 σ H1 _ I1 q1) fun u s2 ⟨y,H2,I2,r2,q2⟩ =>
  thn (ho pins s2 σ H2 x y v u _ I2 r1 r2 q2) fun c s3 ⟨z,H3,I3,r3,k,e,q3⟩=>?_) hm
 subst e
 cases r3
 exact wpAny_truthy_bool ⟨H3,I3,q3⟩
def XM (K:PySem.W.Frag) (x:V) (H:Hp) (k:Bool):Prop :=
 match x with
 | .non=>k=false
 | .bl b=>k=b
 | .int i=>k=(i != 0)
 | .str y=>y.length≤sizeLine∧k=((y.length:Int) != 0)
 | .byt y=>y.size≤sizeLine∧k=((y.size:Int) != 0)
 | .ref p=>(∃ xs,SqL K H p xs∧k=!xs.isEmpty)∨(∃ xs,SqT K H p xs∧k=!xs.isEmpty)∨∃ kvs,H p=some (.dK kvs)∧k=!kvs.isEmpty
 | _=>False
theorem abk {κ:Type}{kvs:List (κ×V)}{vs:List (κ×Value)} (r:KV kvs vs):(!vs.isEmpty)=!kvs.isEmpty:=by
 cases r <;> rfl
theorem N7 {xs:List V}{its:List Value} (r:Vals xs its):(!its.toArray.isEmpty)=!xs.isEmpty:=by
 cases r <;> simp
theorem line63:(sizeLine:Nat)<2 ^ 63:=by rw [sizeLine_eq]; decide
theorem acg:aqr X (fun x H Q=>∃ k,XM X.K x H k∧Q k H):=by
 intro pins s σ H x v Q I rx h
 obtain⟨k,e,q⟩:=h
 have hl:=line63
 have hs:sizeLine=16777216:=sizeLine_eq
 cases x with
 | non =>
  cases rx
  have e':k=false:=e
  subst e'
  exact truthy_none ⟨H,I,q⟩
 | bl b =>
  cases rx
  have e':k=b:=e
  subst e'
  exact wpAny_truthy_bool ⟨H,I,q⟩
 | int i =>
  obtain⟨t,rfl⟩:=rx
  have e':k=(i != 0):=e
  subst e'
  exact PySem.P.truthy_int ⟨H,I,q⟩
 | str y =>
  obtain⟨t,rfl⟩:=rx
  obtain⟨hy,e'⟩:y.length≤sizeLine∧k=((y.length:Int) != 0):=e
  subst e'
  exact PySem.P.truthy_str (by lia) ⟨H,I.tok _,q⟩
 | byt y =>
  obtain⟨t,rfl⟩:=rx
  obtain⟨hy,e'⟩:y.size≤sizeLine∧k=((y.size:Int) != 0):=e
  subst e'
  exact PySem.W.truthy_bytes (by lia) ⟨H,I.tok _,q⟩
 | ref p =>
  cases rx
  have e':(∃ xs,SqL X.K H p xs∧k=!xs.isEmpty)∨(∃ xs,SqT X.K H p xs∧k=!xs.isEmpty)∨∃ kvs,H p=some (.dK kvs)∧k=!kvs.isEmpty:=e
  rcases e' with⟨xs,hx,e'⟩ | ⟨xs,hx,e'⟩ | ⟨kvs,hx,e'⟩
  ·subst e'
   obtain⟨its,r,pl,hz⟩:=I.list hx
   have hlen:=r.length
   exact wpAny_truthy_list pl.isList (by simp only [List.size_toArray]; lia) ⟨H,I.tok _,by rw [N7 r]; exact q⟩
  ·subst e'
   obtain⟨its,r,pl,hz⟩:=I.tuple hx
   have hlen:=r.length
   exact truthy_tuple pl (by simp only [List.size_toArray]; lia) ⟨H,I.tok _,by rw [N7 r]; exact q⟩
  ·subst e'
   obtain⟨hz,hS,vs,r,m⟩:kvs.length≤sizeLine∧(p == sysModules)=false∧∃ vs,KV kvs vs∧s.heap.DictOf (mixKind X.prog X.w) p vs:=I.hok p _ hx
   have hlen:kvs.length=vs.length:=Paired.length r
   exact wpAny_truthy_dict hS m (by lia) ⟨H,I.tok _,by rw [abk r]; exact q⟩
 | _=>exact (show False from e).elim
theorem aev (ha:PE X a ta) (he:∀ whole,isTrue a X.env whole=(do let v ← whole; standAt a.pos; holding [v] (truthy v))) :
  PT X a (fun σ H Q=>ta σ H fun x H'=>∃ k,XM X.K x H' k∧Q k H'):=by
 intro pins s σ H Q I h
 exact isTrue_plain (thn (ha pins s σ H _ I h) fun v s1 ⟨x,H1,I1,r1,q1⟩=>acg pins s1 σ H1 x v Q I1 r1 q1) (he _)
theorem vals1 {x:V}{us:List Value} (r:Vals [x] us):∃ u,us=[u]∧RelV x u:=by
 cases r with
 | cons r1 r2=>cases r2; exact⟨_,rfl,r1⟩
theorem vals2 {x y:V}{us:List Value} (r:Vals [x,y] us):∃ u w',us=[u,w']∧RelV x u∧RelV y w':=by
 cases r with
 | cons r1 r2 =>
  cases r2 with
  | cons r3 r4=>cases r4; exact⟨_,_,rfl,r1,r3⟩
theorem Sx (hc:X.calm=true):CallR X (.builtin "min") (fun xs H Q=>∃ i j,xs=[.int i,.int j]∧Q (.int (if j<i then j else i)) H):=by
 intro pins s σ H xs us Q I r h
 obtain⟨i,j,rfl,q⟩:=h
 obtain⟨u,w',rfl,⟨t,rfl⟩,⟨t',rfl⟩⟩:=vals2 r
 refine min_two_ints (I.ok.hd hc) fun h' tk k=>⟨_,H,I.kept k,?_,q⟩
 by_cases hj:j<i
 ·rw [if_pos hj,if_pos hj]; exact⟨_,rfl⟩
 ·rw [if_neg hj,if_neg hj]; exact⟨_,rfl⟩
theorem adt:CallR X (.type "int") (fun xs H Q=>(∃ i,xs=[.int i]∧Q (.int i) H)∨∃ k,xs=[.bl k]∧Q (.int (if k then 1 else 0)) H):=by
 intro pins s σ H xs us Q I r h
 rcases h with⟨i,rfl,q⟩ | ⟨k,rfl,q⟩
 ·obtain⟨u,rfl,t,rfl⟩:=vals1 r
  exact call_int_int ⟨.int i,H,I,⟨_,rfl⟩,q⟩
 ·obtain⟨u,rfl,r1⟩:=vals1 r
  cases r1
  exact call_int_bool ⟨.int (if k then 1 else 0),H,I.tok _,⟨_,rfl⟩,q⟩
end
structure ObjM (h:Heap) (x dx C:Addr) (mA:Str→Option Value):Prop where
 obj:h.get? x=some (PySem.W.instObj C dx)
 ns:h.Ns1 dx mA
 ne:dx≠x
theorem lookIn_ns {h:Heap}{dx:Addr}{mA:Str→Option Value} (n:h.Ns1 dx mA):∃ od,h.get? dx=some od∧∀ name,PySem.W.lookIn name od=some (mA name):=by
 obtain⟨o,es,ep,ho,hd,hk,_,hm⟩:=n
 refine⟨o,ho,fun name=>?_⟩
 have e:=hm name
 unfold nsFind findBy at e
 rw [← Array.find?_toList] at e
 unfold PySem.W.lookIn
 rw [hd]
 dsimp only
 split
 ·rename_i y q
  rw [q] at e
  exact congrArg some e
 ·rename_i q
  rw [q] at e
  have a:es.toList.any (·.refKey)=false:=by
   rw [List.any_eq_false]
   intro y hy
   obtain⟨z,t,hkey⟩:=hk y (Array.mem_toList_iff.mp hy)
   simp [DictEntry.refKey,hkey]
  have a':¬ es.toList.any (·.refKey)=true:=by rw [a]; exact Bool.false_ne_true
  rw [if_neg a']
  exact congrArg some e
theorem ObjM.look {h:Heap}{x dx C:Addr}{mA:Str→Option Value} (I:ObjM h x dx C mA):∃ od,PySem.W.InstAt h x (PySem.W.instObj C dx) C (some od)∧∀ name,PySem.W.lookIn name od=some (mA name) :=
 let ⟨od,ho,hl⟩:=lookIn_ns I.ns
 ⟨od,⟨I.obj,rfl,rfl,ho⟩,hl⟩
section
variable {prog:Program}{w:World}{A:Around}{E:Value→Shared→Prop}{s:Shared}{K:PySem.W.Frag}{x dx C f:Addr}{mA:Str→Option Value}{name:Str}{v:Value}
theorem get_map {expr:Bool}{Q:Value→Shared→Prop} (X:K.In s.heap) (I:ObjM s.heap x dx C mA) (hg:PySem.W.plainGet K C name=true) (hh:PySem.W.hasDictIn K C=true)
  (ha:PySem.W.findIn K (.ref C) name=some none) (hv:mA name=some v) (hv':PySem.W.handedIn v=true) (h:Q v { s with toks:=s.toks+1 }) :
  wpAny (model prog w) A (getAttr (.ref x) name expr) Q E s:=by
 obtain⟨od,J,hl⟩:=I.look
 exact PySem.W.get_value X J (PySem.W.plainGet_of hg).1 (PySem.W.findObj_own hh ha rfl (by rw [hl,hv])) hv' h
theorem get_meth {pl:Sem Bool}{Q:Value×List Value→Shared→Prop} (X:K.In s.heap) (I:ObjM s.heap x dx C mA) (hg:PySem.W.plainGet K C name=true)
  (hf:PySem.W.findIn K (.ref C) name=some (some (.ref f))) (ht:PySem.W.isFn K (.ref f)=true) (hv:mA name=none) (h:Q (.ref f,[.ref x]) s) :
  wpAny (model prog w) A (getMethod (.ref x) name pl) Q E s:=by
 obtain⟨od,J,hl⟩:=I.look
 exact PySem.W.method_fn X J (PySem.W.plainGet_of hg).1 (PySem.W.plainGet_of hg).2 hf (beq_iff_eq.mp ht) (by show (PySem.W.lookIn name od).map (·.isSome)=some false; rw [hl,hv]; rfl) h
theorem set_map {ns:List Str}{Q:Unit→Shared→Prop} (X:K.In s.heap) (I:ObjM s.heap x dx C mA)
  (hs:PySem.W.findIn K (.ref C) "__setattr__"=some (some (.builtin "object.__setattr__"))) (hp:PySem.W.plainOver K C=true) (ht:PySem.W.takerIn K C name=some none) (hh:PySem.W.hasDictIn K C=true)
  (hw:PySem.Within mA ns) (hsz:ns.length≤sizeLine)
  (h:∀ h',ObjM h' x dx C (fun y=>if y=name then some v else mA y)→Heap.SameBut dx s.heap h'→Q () { s with heap:=h',toks:=s.toks+2 }) :
  wpAny (model prog w) A (setAttr (.ref x) name v) Q E s:=by
 obtain⟨od,J,hl⟩:=I.look
 refine PySem.W.set_plain X J hs (PySem.W.osa_open (s:={ s with toks:=s.toks+1 }) (r:=none) X J hp ht fun b=>?_)
 obtain⟨cd,hc,hd'⟩:=PySem.W.any_some hh
 have hx:s.heap.get? x=some ⟨.ref C,some dx,.plain,#[]⟩:=I.obj
 refine wpAny_bind (wpAny_pure (wpAny_bind (wpAny_bind (wpAny_loadPart hx (wpAny_bind (PySem.W.Looks.here (s:={ s with toks:=s.toks+1 }) (PySem.W.looks_clsIn X hc) ?_))))))
 rw [hd']
 refine wpAny_pure (a:=some dx) (wpAny_bind (wpAny_pure (wpAny_bind ?_)))
 refine wpAny_nsSet1 (s:={ s with toks:=s.toks+1 }) I.ns fun h' hn2 hs2=>?_
 obtain⟨oD,esD,epD,hoD,hdD,hcD⟩:=hn2.count (PySem.Within.cons name v hw)
 refine wpAny_bind (wpAny_lookBehind hoD (by rw [hdD]; exact pastItsLine_dict (Nat.le_trans hcD (by rw [List.length_cons]; lia))) ?_)
 exact wpAny_pure (h _ ⟨(hs2.2 _ (Ne.symm I.ne)).trans I.obj,hn2,I.ne⟩ hs2)
theorem make_map {R:Result→Shared→Prop}{vs:List Value}{kw:List (Str×Value)} (X:K.In s.heap) (hm:PySem.W.makesIn K C=true)
  (hi:PySem.W.findIn K (.ref C) "__init__"=some (some (.ref f))) (hf:PySem.W.typeIn K (.ref f)=some (.type "function"))
  (h:codeAny (model prog w) (A.under (.builtin "type.__call__" ⟨.ref C::vs,kw⟩)) (.call (.ref f) ⟨.ref (s.heap.objs.size+1)::vs,kw⟩) (PySem.W.InitBack (s.heap.objs.size+1) R)
   { s with heap:=(s.heap.push PySem.W.emptyDict).push (PySem.W.instObj C s.heap.objs.size) }) :
  codeAny (model prog w) A (.call (.ref C) ⟨vs,kw⟩) R s:=by
 obtain⟨hh,g,d,t,os⟩:=s
 exact PySem.W.make_core (PySem.W.makes_of X hm) (PySem.W.looks_findIn X hi) (fun self=>PySem.W.bind_fn X self hf) (.inl rfl) h
end
def putF (f:Str) (v:V):List (Str×V)→List (Str×V)
 | []=>[(f,v)]
 | (g,x)::r=>if g=f then (g,v)::r else (g,x)::putF f v r
theorem lookup_putF (f g:Str) (v:V):∀ fs:List (Str×V),(putF f v fs).lookup g=if g=f then some v else fs.lookup g
 | []=>by
  show List.lookup g [(f,v)]=_
  by_cases h:g=f
  ·have hb:(g == f)=true:=beq_iff_eq.mpr h
   simp only [List.lookup,hb,if_pos h]
  ·have hb:(g == f)=false:=beq_eq_false_iff_ne.mpr h
   simp only [List.lookup,hb,if_neg h]
 | (k,x)::r=>by
  have ih:=lookup_putF f g v r
  rw [show putF f v ((k,x)::r)=(if k=f then (k,v)::r else (k,x)::putF f v r) from rfl]
  by_cases hk:k=f
  ·rw [if_pos hk]
   by_cases h:g=k
   ·have hb:(g == k)=true:=beq_iff_eq.mpr h
    simp only [List.lookup,hb,if_pos (h.trans hk)]
   ·have hb:(g == k)=false:=beq_eq_false_iff_ne.mpr h
    simp only [List.lookup,hb,if_neg (fun e:g=f=>h (e.trans hk.symm))]
  ·rw [if_neg hk]
   by_cases h:g=k
   ·have hb:(g == k)=true:=beq_iff_eq.mpr h
    simp only [List.lookup,hb,if_neg (fun e:g=f=>hk (h.symm.trans e))]
   ·have hb:(g == k)=false:=beq_eq_false_iff_ne.mpr h
    simp only [List.lookup,hb]
    exact ih
theorem keys_putF (f:Str) (v:V):∀ fs:List (Str×V),f∈(putF f v fs).map (·.1)∧∀ g,g∈fs.map (·.1)→g∈(putF f v fs).map (·.1)
 | []=>⟨by simp [putF],fun g h=>by simp at h⟩
 | (k,x)::r=>by
  obtain⟨i1,i2⟩:=keys_putF f v r
  rw [show putF f v ((k,x)::r)=(if k=f then (k,v)::r else (k,x)::putF f v r) from rfl]
  by_cases hk:k=f
  ·rw [if_pos hk]
   subst hk
   exact⟨by simp,fun g h=>by simpa using h⟩
  ·rw [if_neg hk]
   refine⟨?_,fun g h=>?_⟩
   ·rw [List.map_cons]
    exact List.mem_cons_of_mem _ i1
   ·rw [List.map_cons] at h ⊢
    rcases List.mem_cons.mp h with e | e
    ·exact List.mem_cons.mpr (.inl e)
    ·exact List.mem_cons_of_mem _ (i2 g e)
theorem length_putF (f:Str) (v:V):∀ fs:List (Str×V),(putF f v fs).length≤fs.length+1
 | []=>by simp [putF]
 | (k,x)::r=>by
  have ih:=length_putF f v r
  rw [show putF f v ((k,x)::r)=(if k=f then (k,v)::r else (k,x)::putF f v r) from rfl]
  by_cases hk:k=f
  ·rw [if_pos hk,List.length_cons,List.length_cons]; lia
  ·rw [if_neg hk,List.length_cons,List.length_cons]; lia
theorem RelO.some_of {v:V}{o:Option Value} (r:RelO (some v) o):∃ u,o=some u∧RelV v u:=by
 cases o with
 | none=>exact (show False from r).elim
 | some u=>exact⟨u,rfl,r⟩
theorem RelO.none_of {o:Option Value} (r:RelO none o):o=none:=by
 cases o with
 | none=>rfl
 | some u=>exact (show False from r).elim
theorem handed_of {v:V}{u:Value} (r:RelV v u):PySem.W.handedIn u=true:=by
 cases v with
 | non=>cases (show u=Value.none from r); rfl
 | bl b=>cases (show u=Value.bool b from r); rfl
 | int i=>obtain⟨t,e⟩:=(show ∃ t,u=Value.int i t from r); cases e; rfl
 | str x=>obtain⟨t,e⟩:=(show ∃ t,u=Value.str x t from r); cases e; rfl
 | byt b=>obtain⟨t,e⟩:=(show ∃ t,u=Value.bytes b t from r); cases e; rfl
 | flt b=>obtain⟨t,e⟩:=(show ∃ t,u=Value.float b t from r); cases e; rfl
 | ref a=>cases (show u=Value.ref a from r); rfl
 | ty n=>cases (show u=Value.type n from r); rfl
section
variable {P:Program}{w:World}{H H':Hp}{h h':Heap}{a C dx:Addr}{fs fs':List (Str×V)}
theorem ins_get (hok:HOk P w H h) (e:H a=some (.ins C dx fs)):∃ mA,ObjM h a dx C mA∧(∀ f,RelO (fs.lookup f) (mA f))∧PySem.Within mA (fs.map (·.1))∧fs.length≤1000∧H dx=some (.own a):=by
 obtain⟨d,z,ne,ob,mA,n,r,q⟩:=(show ObjOk P w H h a (.ins C dx fs) from hok a _ e)
 exact⟨mA,⟨ob,n,ne⟩,r,q,z,d⟩
end
structure Cls (K:PySem.W.Frag) (C:Addr):Prop where
 pg:PySem.W.plainGet K C Str.empty=true
 hd:PySem.W.hasDictIn K C=true
 po:PySem.W.plainOver K C=true
 sa:PySem.W.findIn K (.ref C) "__setattr__"=some (some (.builtin "object.__setattr__"))
theorem Cls.get {K:PySem.W.Frag}{C:Addr} (c:Cls K C) (f:Str):PySem.W.plainGet K C f=true:=c.pg
def NoAttr (K:PySem.W.Frag) (C:Addr) (f:Str):Prop:=PySem.W.findIn K (.ref C) f=some none
theorem NoAttr.taker {K:PySem.W.Frag}{C:Addr}{f:Str} (n:NoAttr K C f):PySem.W.takerIn K C f=some none:=by
 unfold PySem.W.takerIn
 rw [show PySem.W.findIn K (.ref C) f=some none from n]
 rfl
structure Meth (K:PySem.W.Frag) (C:Addr) (m:Str) (f:Addr):Prop where
 at_:PySem.W.findIn K (.ref C) m=some (some (.ref f))
 fn:PySem.W.isFn K (.ref f)=true
 kp:PySem.W.keepIn K (.ref f)=true
section
variable {X:Cx}{pins:List (Addr×Obj)}{σ:St}{H:Hp}{s:Shared}{a C dx:Addr}{fs:List (Str×V)}{f:Str}{v:V}{A:Around}{E:Value→Shared→Prop}
theorem getattr_ok {b:Bool}{Q:Value→Shared→Prop} (I:Inv X pins σ H s) (e:H a=some (.ins C dx fs)) (c:Cls X.K C) (n:NoAttr X.K C f) (l:fs.lookup f=some v)
  (h:∀ u s',Inv X pins σ H s'→RelV v u→Q u s'):wpAny (model X.prog X.w) A (getAttr (.ref a) f b) Q E s:=by
 obtain⟨mA,O,r,_,_,_⟩:=ins_get I.hok e
 obtain⟨u,hu,ru⟩:=RelO.some_of (v:=v) (o:=mA f) (by rw [← l]; exact r f)
 exact get_map I.kIn O (c.get f) c.hd n hu (handed_of ru) (h u _ (I.tok _) ru)
theorem getmeth_ok {m:Str}{g:Addr}{pl:Sem Bool}{Q:Value×List Value→Shared→Prop} (I:Inv X pins σ H s) (e:H a=some (.ins C dx fs)) (c:Cls X.K C) (k:Meth X.K C m g) (l:fs.lookup m=none)
  (h:Q (.ref g,[.ref a]) s):wpAny (model X.prog X.w) A (getMethod (.ref a) m pl) Q E s:=by
 obtain⟨mA,O,r,_,_,_⟩:=ins_get I.hok e
 have hn:mA m=none:=RelO.none_of (by rw [← l]; exact r m)
 exact get_meth I.kIn O (c.get m) k.at_ k.fn hn h
theorem setattr_ok {y:V}{u:Value}{Q:Unit→Shared→Prop} (I:Inv X pins σ H s) (e:H a=some (.ins C dx fs)) (c:Cls X.K C) (n:NoAttr X.K C f) (hl:fs.length<1000) (ry:RelV y u)
  (h:∀ s',Inv X pins σ (upd H a (.ins C dx (putF f y fs))) s'→Q () s'):wpAny (model X.prog X.w) A (setAttr (.ref a) f u) Q E s:=by
 obtain⟨mA,O,r,wi,_,ho⟩:=ins_get I.hok e
 have hz:(fs.map (·.1)).length≤sizeLine:=by rw [List.length_map,sizeLine_eq]; lia
 refine set_map I.kIn O c.sa c.po n.taker c.hd wi hz fun h' O' sb=>h _ ?_
 have hd:∃ o,h'.get? dx=some o:=let ⟨o,_,_,e',_⟩:=O'.ns; ⟨o,e'⟩
 refine I.write (x:=a) (e:=dx) (by rw [e]; exact True.intro) (.inr ho) (fun b q hb z=>(sb.2 b hb).trans z) hd ?_
 refine⟨by rw [upd_ne O.ne]; exact ho,?_,O.ne,O'.obj,_,O'.ns,fun g=>?_,fun g hg=>?_⟩
 ·have:=length_putF f y fs; lia
 ·show RelO ((putF f y fs).lookup g) (if g=f then some u else mA g)
  rw [lookup_putF]
  by_cases q:g=f
  ·rw [if_pos q,if_pos q]; exact ry
  ·rw [if_neg q,if_neg q]; exact r g
 ·by_cases q:g=f
  ·rw [q]; exact (keys_putF f y fs).1
  ·refine (keys_putF f y fs).2 g (wi g fun z=>hg ?_)
   show (if g=f then some u else mA g)=none
   rw [if_neg q]; exact z
theorem Inv.made (I:Inv X pins σ H s):Inv X pins σ (upd (upd H s.heap.objs.size (.own (s.heap.objs.size+1))) (s.heap.objs.size+1) (.ins C s.heap.objs.size []))
  { s with heap:=(s.heap.push PySem.W.emptyDict).push (PySem.W.instObj C s.heap.objs.size) }:=by
 have e1:(s.heap.push PySem.W.emptyDict).get? s.heap.objs.size=some PySem.W.emptyDict:=Heap.get?_push_size s.heap rfl
 have e2:((s.heap.push PySem.W.emptyDict).push (PySem.W.instObj C s.heap.objs.size)).get? (s.heap.objs.size+1)=some (PySem.W.instObj C s.heap.objs.size):=by
  have:=Heap.get?_push_size (s.heap.push PySem.W.emptyDict) (o:=PySem.W.instObj C s.heap.objs.size) rfl
  rwa [Heap.size_push] at this
 have e3:(s.heap.push PySem.W.emptyDict).Ns s.heap.objs.size (fun _=>none):=⟨PySem.W.emptyDict,#[],_,e1,rfl,(fun e he=>absurd he (by simp)),fun _=>rfl⟩
 have I1:=I.laid (a:=s.heap.objs.size) (o:=.own (s.heap.objs.size+1)) (h':=s.heap.push PySem.W.emptyDict) (t':=s.toks) (fun b u q=>Heap.get?_push_of_some _ q) (Nat.le_refl _) ⟨_,e1⟩
 refine I1.laid (a:=s.heap.objs.size+1) (o:=.ins C s.heap.objs.size []) (t':=s.toks) (fun b u q=>Heap.get?_push_of_some _ q) (Nat.le_of_eq (Heap.size_push _ _)) ?_
 have ne:s.heap.objs.size≠s.heap.objs.size+1:=Nat.ne_of_lt (Nat.lt_succ_self _)
 refine⟨by rw [upd_ne ne,upd_same],Nat.zero_le _,ne,e2,fun _=>none,(Heap.Ns1.of_empty e3).at fun o q=>Heap.get?_push_of_some _ q,fun _=>True.intro,fun y hy=>absurd rfl hy⟩
theorem attr_of {prog:Program}{w:World}{env:Env}{e:Expr}{f:Str}{pos:Pos}{s:Shared}{Q:Value→Shared→Prop} (hb:attributeBase e f env (eval e env)=eval e env)
  (h:wpAny (model prog w) A (eval e env) (fun o s₁=>wpAny (model prog w) A (getAttr o f true) Q E s₁) E s):wpAny (model prog w) A (eval (.Attribute e f pos) env) Q E s :=
 Attribute_any_ h (by rw [arm_eval_Attribute,hb])
end
def tFld (K:PySem.W.Frag) (ta:TE) (f:Str):TE:=fun σ H Q=>ta σ H fun x H1=>∃ a C dx fs v,x=.ref a∧H1 a=some (.ins C dx fs)∧Cls K C∧NoAttr K C f∧fs.lookup f=some v∧Q v H1
def sFld (K:PySem.W.Frag) (ta tv:TE) (f:Str):TS:=fun D σ H=>tv σ H fun y H1=>ta σ H1 fun x H2=>∃ a C dx fs,x=.ref a∧H2 a=some (.ins C dx fs)∧Cls K C∧NoAttr K C f∧fs.length<1000 ∧
 D.nx σ (upd H2 a (.ins C dx (putF f y fs)))
def abT (X:Cx) (op:Operator) (rd:V→V→Hp→VK→Prop):Prop :=
 ∀ (pins:List (Addr×Obj)) (s:Shared) (σ:St) (H:Hp) (x y:V) (u v:Value) (Q:VK),Inv X pins σ H s→RelV x u→RelV y v→rd x y H Q→wpAny (model X.prog X.w) X.A (inplaceOp op u v) (EP X pins σ Q) X.xe s
def ZS (K:PySem.W.Frag) (ta tv:TE) (rd:V→V→Hp→VK→Prop) (f:Str):TS:=fun D σ H=>ta σ H fun x H1=>∃ a C dx fs v,x=.ref a∧H1 a=some (.ins C dx fs)∧Cls K C∧NoAttr K C f∧fs.lookup f=some v ∧
 tv σ H1 fun y H2=>rd v y H2 fun z H3=>∃ dx' fs',H3 a=some (.ins C dx' fs')∧fs'.length<1000∧D.nx σ (upd H3 a (.ins C dx' (putF f z fs')))
section
variable {X:Cx}{o e value:Expr}{f:Str}{pos pos' tpos:Pos}{ta tv:TE}
theorem pe_fld (he:PE X e ta) (hb:attributeBase e f X.env (eval e X.env)=eval e X.env):PE X (.Attribute e f pos) (tFld X.K ta f):=by
 intro pins s σ H Q I h
 refine attr_of hb (thn (he pins s σ H _ I h) fun u s1 ⟨x,H1,I1,rx,a,C,dx,fs,v,ex,ea,c,n,l,q⟩=>?_)
 subst ex
 obtain rfl:u=Value.ref a:=rx
 exact getattr_ok I1 ea c n l fun u' s2 I2 ru=>⟨v,H1,I2,ru,q⟩
theorem ps_fld (ha:PE X o ta) (hv:PE X value tv) (hs:swapsWith value (some (.Attribute o f pos')) pos.line X.env=pure false):PS X (.Assign [.Attribute o f pos'] value pos) (sFld X.K ta tv f):=by
 intro pins s σ H D I h
 refine plainObj_wpAny_Assign_Attribute (thn (hv pins s σ H _ I h) fun u s1 ⟨y,H1,I1,ry,q⟩=>thn (ha pins s1 σ H1 _ I1 q) fun ov s2 ⟨x,H2,I2,rx,a,C,dx,fs,ex,ea,c,n,l,q2⟩=>?_) hs
 subst ex
 obtain rfl:ov=Value.ref a:=rx
 exact setattr_ok I2 ea c n l ry fun s3 I3=>⟨σ,_,I3,q2⟩
theorem acL {op:Operator}{rd:V→V→Hp→VK→Prop} (ha:PE X o ta) (hv:PE X value tv) (hop:abT X op rd):PS X (.AugAssign (.Attribute o f tpos) op value pos) (ZS X.K ta tv rd f):=by
 intro pins s σ H D I h
 refine wpAny_AugAssign_AttributeAny (thn (ha pins s σ H _ I h) fun ov s1 ⟨x,H1,I1,rx,a,C,dx,fs,v,ex,ea,c,n,l,q⟩=>?_)
 subst ex
 obtain rfl:ov=Value.ref a:=rx
 refine getattr_ok I1 ea c n l fun u s2 I2 ru=>thn (hv pins s2 σ H1 _ I2 q) fun w3 s3 ⟨y,H2,I3,ry,q3⟩=>thn (hop pins s3 σ H2 v y u w3 _ I3 ru ry q3) fun w4 s4 ⟨z,H3,I4,rz,dx',fs',ea',l',q4⟩=>?_
 exact setattr_ok I4 ea' c n l' rz fun s5 I5=>⟨σ,_,I5,q4⟩
def alh:V→V→Hp→VK→Prop:=fun x y H Q=>∃ i j,x=.int i∧y=.int j∧Q (.int (i+j)) H
def alc:V→V→Hp→VK→Prop:=fun x y H Q=>∃ i j,x=.int i∧y=.int j∧Q (.int (i - j)) H
theorem ail:abT X .Add alh:=by
 rintro pins s σ H x y u v Q I rx ry ⟨i,j,rfl,rfl,q⟩
 obtain⟨t,rfl⟩:=(show ∃ t,u=Value.int i t from rx)
 obtain⟨t',rfl⟩:=(show ∃ t',v=Value.int j t' from ry)
 exact PyProof.Rows.iadd_int ⟨.int (i+j),H,I.tok _,⟨_,rfl⟩,q⟩
theorem aik:abT X .Sub alc:=by
 rintro pins s σ H x y u v Q I rx ry ⟨i,j,rfl,rfl,q⟩
 obtain⟨t,rfl⟩:=(show ∃ t,u=Value.int i t from rx)
 obtain⟨t',rfl⟩:=(show ∃ t',v=Value.int j t' from ry)
 exact PyProof.Rows.isub_int ⟨.int (i - j),H,I.tok _,⟨_,rfl⟩,q⟩
end
section
variable {X:Cx}{pins:List (Addr×Obj)}{σ:St}{H:Hp}{s:Shared}{A:Around}{E:Value→Shared→Prop}{Q:Value→Shared→Prop}{c:Value}{b:Bool}
inductive TyOf (K:PySem.W.Frag) (H:Hp):V→Value→Prop where
 | non:TyOf K H .non (.type "NoneType")
 | bl (x:Bool):TyOf K H (.bl x) (.type "bool")
 | int (i:Int):TyOf K H (.int i) (.type "int")
 | str (x:Str):TyOf K H (.str x) (.type "str")
 | flt (x:UInt64):TyOf K H (.flt x) (.type "float")
 | lst {a:Addr}{xs:List V} (e:H a=some (.lst xs)):TyOf K H (.ref a) (.type "list")
 | frz {a:Addr}{o:Obj}{xs:List V} (e:H a=some (.frz o (.lst xs))):TyOf K H (.ref a) (.type "list")
 | tup {a:Addr}{xs:List V} (e:H a=some (.tup xs)):TyOf K H (.ref a) (.type "tuple")
 | dK {a:Addr}{kvs:List (Key×V)} (e:H a=some (.dK kvs)):TyOf K H (.ref a) (.type "dict")
 | dT {a:Addr}{kvs:List (List Key×V)} (e:H a=some (.dT kvs)):TyOf K H (.ref a) (.type "dict")
 | ins {a C dx:Addr}{fs:List (Str×V)} (e:H a=some (.ins C dx fs)) (cl:Cls K C) (ha:PySem.W.findIn K (.ref C) "__class__"=some (some (.builtin "object.__class__")))
   (hn:PySem.W.specialIn K (.builtin "object.__class__") "__get__"=some (some (.builtin "getset_descriptor.__get__"))) (htk:PySem.W.takesIn K (.builtin "object.__class__")=some true)
   (hm:PySem.W.mroIn K C (.type "object")=some true):TyOf K H (.ref a) (.ref C)
theorem adf {x:V}{u t:Value} (I:Inv X pins σ H s) (rx:RelV x u) (ty:TyOf X.K H x t) (e:PySem.W.kitOne X.K t c=some b) (h:∀ tk,Q (.bool b) { s with toks:=tk }) :
  wpAny (model X.prog X.w) A (call (.builtin "isinstance") [u,c]) Q E s:=by
 cases ty with
 | non=>cases (show u=Value.none from rx); exact PySem.W.kia_one PySem.W.kitx_none I.kIn True.intro e (fun z=>nomatch z) h
 | bl y=>cases (show u=Value.bool y from rx); exact PySem.W.kia_one PySem.W.kitx_bool I.kIn True.intro e (fun z=>nomatch z) h
 | int i=>obtain⟨t,q⟩:=(show ∃ t,u=Value.int i t from rx); cases q; exact PySem.W.kia_one PySem.W.kitx_int I.kIn True.intro e (fun z=>nomatch z) h
 | str y=>obtain⟨t,q⟩:=(show ∃ t,u=Value.str y t from rx); cases q; exact PySem.W.kia_one PySem.W.kitx_str I.kIn True.intro e (fun z=>nomatch z) h
 | flt y=>obtain⟨t,q⟩:=(show ∃ t,u=Value.float y t from rx); cases q; exact PySem.W.kia_one PySem.W.kitx_float I.kIn True.intro e (fun z=>nomatch z) h
 | @lst a xs ea =>
  cases (show u=Value.ref a from rx)
  obtain⟨_,_,n,_,h1⟩:=(show ObjOk X.prog X.w H s.heap a (.lst xs) from I.hok a _ ea)
  exact PySem.W.kia_one PySem.W.kitx_list I.kIn ⟨_,h1,rfl⟩ e (fun z=>nomatch z) h
 | @frz a ob xs ea =>
  cases (show u=Value.ref a from rx)
  obtain⟨_,_,_,n,_,h1⟩:=(show ObjOk X.prog X.w H s.heap a (.frz ob (.lst xs)) from I.hok a _ ea)
  exact PySem.W.kia_one PySem.W.kitx_list I.kIn ⟨_,h1,rfl⟩ e (fun z=>nomatch z) h
 | @tup a xs ea =>
  cases (show u=Value.ref a from rx)
  obtain⟨_,_,_,p⟩:=(show ObjOk X.prog X.w H s.heap a (.tup xs) from I.hok a _ ea)
  obtain⟨o,h1,h2,_⟩:=p
  exact PySem.W.kia_one PySem.W.kitx_tuple I.kIn ⟨o,h1,h2⟩ e (fun z=>nomatch z) h
 | @dK a kvs ea =>
  cases (show u=Value.ref a from rx)
  obtain⟨_,_,vs,_,p⟩:=(show ObjOk X.prog X.w H s.heap a (.dK kvs) from I.hok a _ ea)
  obtain⟨o,es,ep,h1,h2,_⟩:=p
  exact PySem.W.kia_one PySem.W.kitx_dict I.kIn ⟨o,h1,h2.1⟩ e (fun z=>nomatch z) h
 | @dT a kvs ea =>
  cases (show u=Value.ref a from rx)
  obtain⟨_,_,xs,_,o,es,ep,h1,h2,_⟩:=(show ObjOk X.prog X.w H s.heap a (.dT kvs) from I.hok a _ ea)
  exact PySem.W.kia_one PySem.W.kitx_dict I.kIn ⟨o,h1,h2.1⟩ e (fun z=>nomatch z) h
 | @ins a C dx fs ea cl ha hn htk hm =>
  cases (show u=Value.ref a from rx)
  obtain⟨mA,O,_⟩:=ins_get I.hok ea
  obtain⟨od,J,_⟩:=O.look
  exact PySem.W.kia_one (PySem.W.kitx_own (cl.get _) cl.hd ha hn htk hm) I.kIn J e (fun z=>nomatch z) h
end
structure Room (k:Nat) (A:Around):Prop where
 hd:A.handled=none
 dp:A.depth+3 * k+5<recursionLimit
 un:A.units+16 * k+200<cLine
theorem Room.mono {j k:Nat}{A:Around} (r:Room k A) (h:j≤k):Room j A:=⟨r.hd,by have:=r.dp; lia,by have:=r.un; lia⟩
theorem Room.deeper {k:Nat}{A:Around} (r:Room (k+1) A) (env:Env):Room k (A.deeper env) :=
 ⟨r.hd,by have:=r.dp; show A.depth+1+3 * k+5<_; lia,by have:=r.un; show A.units+3+16 * k+200<_; lia⟩
theorem make_depth {A:Around}{C:Addr}{us:List Value}{kw:List (Str×Value)}:(A.under (.builtin "type.__call__" ⟨.ref C::us,kw⟩)).depth=A.depth+1:=by
 first | rfl | simp [Around.under,Code.weight,Code.isCreation,Code.isGuard,Code.isCaller,Code.frames,Code.isFrame,guardIds]
theorem make_units {A:Around}{C:Addr}{us:List Value}{kw:List (Str×Value)}:(A.under (.builtin "type.__call__" ⟨.ref C::us,kw⟩)).units=A.units+1:=by
 first | rfl | simp [Around.under,Code.cUnits,Code.frames,Code.isFrame]
theorem Room.make {k:Nat}{A:Around} (r:Room (k+1) A) (C:Addr) (us:List Value) (kw:List (Str×Value)):Room k (A.under (.builtin "type.__call__" ⟨.ref C::us,kw⟩)) :=
 ⟨r.hd,by have:=r.dp; rw [make_depth]; lia,by have:=r.un; rw [make_units]; lia⟩
theorem Room.depth {k:Nat}{A:Around} (r:Room k A):A.depth<recursionLimit:=by have:=r.dp; lia
def tNil:TA:=fun _ H Q=>Q [] H
def tCons (ta:TE) (tr:TA):TA:=fun σ H Q=>ta σ H fun x H1=>tr σ H1 fun xs H2=>Q (x::xs) H2
section
variable {X:Cx}{e:Expr}{es:List Expr}{te:TE}{t:TA}{pos:Pos}
theorem pa_nil:PA X [] tNil:=fun _ _ _ _ H Q I h=>Calls.spliced_nil ⟨[],H,I,.nil,h⟩
theorem pa_cons (ha:PE X e te) (hr:PA X es t) (hs:starEach (e::es) X.env=(false,eval e X.env)::starEach es X.env:=by rfl):PA X (e::es) (tCons te t):=by
 intro pos pins s σ H Q I h
 rw [hs]
 show wpAny _ _ (spliced ((false,eval e X.env)::backTo pos (starEach es X.env))) _ _ s
 refine Calls.spliced_cons (thn (ha pins s σ H _ I h) fun u s1 ⟨x,H1,I1,r1,q1⟩=>?_)
 exact thn (hr pos pins s1 σ H1 _ I1 q1) fun us s2 ⟨xs,H2,I2,r2,q2⟩=>⟨x::xs,H2,I2,.cons r1 r2,q2⟩
def ahd (t:TA):TE:=fun σ H Q=>t σ H fun xs H1=>xs.length≤sizeLine∧∀ p,H1 p=none→Q (.ref p) (upd H1 p (.tup xs))
def tLst (t:TA):TE:=fun σ H Q=>t σ H fun xs H1=>xs.length≤sizeLine∧∀ p,H1 p=none→Q (.ref p) (upd H1 p (.lst xs))
theorem ahO {x1} (h:PA X es t):PE X (.Tuple es x1 pos) (ahd t):=by
 intro pins s σ H Q I hq
 refine wpAny_Tuple_spliced (thn (h pos pins s σ H _ I hq) fun us s1 ⟨xs,H1,I1,r,z,q⟩=>⟨by rw [← r.length]; exact z,?_⟩)
 have hf:H1 s1.heap.objs.size=none:=I1.hok.fresh (Nat.le_refl _)
 refine⟨.ref s1.heap.objs.size,upd H1 s1.heap.objs.size (.tup xs),I1.laid (t':=s1.toks) (fun b u e=>Heap.get?_push_of_some _ e) (Nat.le_refl _) ?_,rfl,q _ hf⟩
 exact⟨z,us,r,⟨_,Heap.get?_push_size _ rfl,rfl,_,rfl⟩⟩
theorem pe_lst (h:PA X es t):PE X (.List es pos) (tLst t):=by
 intro pins s σ H Q I hq
 refine wpAny_List_spliced (thn (h pos pins s σ H _ I hq) fun us s1 ⟨xs,H1,I1,r,z,q⟩=>⟨by rw [← r.length]; exact z,?_⟩)
 have hf:H1 s1.heap.objs.size=none:=I1.hok.fresh (Nat.le_refl _)
 refine⟨.ref s1.heap.objs.size,upd H1 s1.heap.objs.size (.lst xs),I1.laid (t':=s1.toks) (fun b u e=>Heap.get?_push_of_some _ e) (Nat.le_refl _) ?_,rfl,q _ hf⟩
 exact⟨z,us,0,r,Heap.get?_push_size _ rfl⟩
end
abbrev Sp:=List V→Hp→VK→XK→Prop
abbrev CXT:=List Env→Hp→Shared→XK→Value→Shared→Prop
structure Env0 (P:Program) (w:World) (K:PySem.W.Frag) (mg:Str→Option Value) (base:Heap) (A:Around) (outer:List Env) (s:Shared) (H:Hp):Prop where
 frames:A.frames=some outer
 mod:Mod K mg base
 bs:∀ b o,base.get? b=some o→s.heap.get? b=some o∧H b=none
 bsz:base.objs.size≤s.heap.objs.size
 funs:s.heap.FunFrames base outer
 frf:∀ b∈frs outer,H b=none
 hok:HOk P w H s.heap
 bare:AllBare s.gens
def CE (outer:List Env) (P:Program) (w:World) (H:Hp) (s:Shared) (Q:VK) (u:Value) (s':Shared):Prop :=
 ∃ v H',s'.os=s.os∧AllBare s'.gens∧Un (frs outer) [] H H' s.heap s'.heap∧HOk P w H' s'.heap∧RelV v u∧Q v H'
def CR (CX:CXT) (outer:List Env) (P:Program) (w:World) (H:Hp) (s:Shared) (Q:VK) (E:XK) (r:Result) (s':Shared):Prop :=
 match r with
 | .ok (.ret u)=>CE outer P w H s Q u s'
 | .ok _=>False
 | .error e=>CX outer H s E e s'
structure FnOk (P:Program) (w:World) (K:PySem.W.Frag) (mg:Str→Option Value) (base:Heap) (CX:CXT) (k:Nat) (f:Addr) (fd:FuncData) (ps:List Str) (sp:Sp):Prop where
 len:∀ vs H Q E,sp vs H Q E→vs.length=ps.length
 run:∀ (A:Around) (outer:List Env) (s:Shared) (H:Hp) (args:Args) (us:List Value) (vs:List V) (Q:VK) (E:XK),Room k A→Env0 P w K mg base A outer s H→BindsTo s fd args (ps.zip us)→Vals vs us→sp vs H Q E →
  codeAny (model P w) A (.call (.ref f) args) (CR CX outer P w H s Q E) s
theorem FnOk.mono {P:Program}{w:World}{K:PySem.W.Frag}{mg:Str→Option Value}{base:Heap}{CX:CXT}{j k:Nat}{f:Addr}{fd:FuncData}{ps:List Str}{sp:Sp} (F:FnOk P w K mg base CX j f fd ps sp) (h:j≤k) :
  FnOk P w K mg base CX k f fd ps sp:=⟨F.len,fun A outer s H args us vs Q E hr=>F.run A outer s H args us vs Q E (hr.mono h)⟩
theorem Env0.make {P:Program}{w:World}{K:PySem.W.Frag}{mg:Str→Option Value}{base:Heap}{A:Around}{outer:List Env}{s:Shared}{H:Hp} (e:Env0 P w K mg base A outer s H) (C:Addr) (us:List Value) (kw:List (Str×Value)) :
  Env0 P w K mg base (A.under (.builtin "type.__call__" ⟨.ref C::us,kw⟩)) outer s H:=⟨by first | exact e.frames | (simpa [Around.under,Code.envs,Code.isFrame,pushEnvs] using e.frames),e.mod,e.bs,e.bsz,e.funs,e.frf,e.hok,e.bare⟩
section
variable {X:Cx}{pins:List (Addr×Obj)}{σ:St}{H:Hp}{s s':Shared}
theorem Inv.env0 (I:Inv X pins σ H s):Env0 X.prog X.w X.K X.mg X.base X.A X.stack s H :=
 ⟨I.ok.frames,I.ok.mod,I.bs,Nat.le_trans I.ok.bsz I.sz,I.stack,I.stkFree,I.hok,I.bare⟩
theorem Inv.after {Q:VK}{u:Value} (I:Inv X pins σ H s) (h:CE X.stack X.prog X.w H s Q u s'):EP X pins σ Q u s':=by
 obtain⟨v,H',os,bare,un,hok,r,q⟩:=h
 obtain⟨hh,g,d,t,os'⟩:=s'
 obtain rfl:os'=s.os:=os
 exact⟨v,H',I.call (h':=hh) (g':=g) (d':=d) (t':=t) (ch:=[]) un hok bare (fun b z=>absurd z (by simp)),r,q⟩
end
def tCall (sp:Sp) (dvs:List V) (E:XK) (t:TA):TE:=fun σ H Q=>t σ H fun vs H1=>sp (vs++dvs) H1 Q E
def tMeth (C:Addr) (m:Str) (sp:Sp) (dvs:List V) (E:XK) (ta:TE) (t:TA):TE:=fun σ H Q=>ta σ H fun x H1=>∃ a dx fs,x=.ref a∧H1 a=some (.ins C dx fs)∧fs.lookup m=none ∧
 t σ H1 fun vs H2=>sp (x::(vs++dvs)) H2 Q E
def tMake (C:Addr) (sp:Sp) (dvs:List V) (E:XK) (t:TA):TE:=fun σ H Q=>t σ H fun vs H1=>∀ x dx,H1 x=none→H1 dx=none→dx≠x →
 sp (.ref x::(vs++dvs)) (upd (upd H1 dx (.own x)) x (.ins C dx [])) (fun v H2=>v=.non∧Q (.ref x) H2) E
def Binds (K:PySem.W.Frag) (fd:FuncData) (ps:List Str) (ds:List Value):Prop :=
 ∀ (s:Shared) (us:List Value),K.In s.heap→(us++ds).length=ps.length→BindsTo s fd ⟨us,[]⟩ (ps.zip (us++ds))
theorem Binds.all {K:PySem.W.Frag}{fd:FuncData}{ps:List Str} (h:∀ us:List Value,us.length=ps.length→bindArgs fd ⟨us,[]⟩=pure (ps.zip us)):Binds K fd ps []:=fun s us _ hl=>by
 rw [List.append_nil] at hl ⊢
 exact .of_eq (h us hl)
def Passes (CX:CXT) (X:Cx) (E:XK):Prop:=∀ (pins:List (Addr×Obj)) (σ:St) (H:Hp) (s:Shared) (e:Value) (s':Shared),Inv X pins σ H s→CX X.stack H s E e s'→X.xe e s'
section
variable {X:Cx}{CX:CXT}{k:Nat}{f C:Addr}{fd:FuncData}{ps:List Str}{sp:Sp}{dvs:List V}{ds:List Value}{E:XK}{x m:Str}{p pos apos:Pos}{e o:Expr}{es:List Expr}{ta:TE}{t:TA}
theorem run_fn {pins:List (Addr×Obj)}{σ:St}{H:Hp}{s:Shared}{Q:VK}{us:List Value}{vs:List V} (F:FnOk X.prog X.w X.K X.mg X.base CX k f fd ps sp) (hr:Room k X.A) (hb:Binds X.K fd ps ds) (hd:Vals dvs ds) (hx:Passes CX X E)
  (I:Inv X pins σ H s) (r:Vals vs us) (h:sp (vs++dvs) H Q E):wpAny (model X.prog X.w) X.A (call (.ref f) us) (EP X pins σ Q) X.xe s:=by
 have r2:Vals (vs++dvs) (us++ds):=r.append hd
 have hl:(us++ds).length=ps.length:=by rw [← r2.length]; exact F.len _ _ _ _ h
 refine wpAny_call (codeAny_mono (F.run X.A X.stack s H ⟨us,[]⟩ (us++ds) (vs++dvs) Q E hr I.env0 (hb s us I.kIn hl) r2 h) fun r s' hq=>?_)
 cases r with
 | error e=>exact hx pins σ H s e s' I hq
 | ok fl =>
  cases fl with
  | ret u=>exact I.after hq
  | next=>exact False.elim hq
  | brk=>exact False.elim hq
  | cont=>exact False.elim hq
theorem pe_call (F:FnOk X.prog X.w X.K X.mg X.base CX k f fd ps sp) (hr:Room k X.A) (hg:Gl X x) (hm:X.mg x=some (.ref f)) (hk:PySem.W.keepIn X.K (.ref f)=true) (hb:Binds X.K fd ps ds) (hd:Vals dvs ds) (hx:Passes CX X E)
  (ha:PA X (e::es) t) (hdb:(x == ("__debug__":Str))=false:=by decide) (he:starEach (e::es) X.env=(false,eval e X.env)::starEach es X.env:=by rfl) (hpl:(backTo pos (starEach es X.env)).any (·.1)=false:=by rfl) :
  PE X (.Call (.Name x p) (e::es) [] pos) (tCall sp dvs E t):=by
 intro pins s σ H Q I h
 refine wpAny_Call_Name_kw (ld_glob I hg hm ?_ hdb)
 refine PySem.W.callWith_K (h₀:=X.base) I.ok.mod.kin hk (thn (ha pos pins s σ H _ I h) fun us s1 ⟨vs,H1,I1,r,q⟩=>⟨I1.kIn,?_⟩) he hpl
 exact run_fn F hr hb hd hx I1 r q
theorem aeD (F:FnOk X.prog X.w X.K X.mg X.base CX k f fd ps sp) (hr:Room k X.A) (hg:Gl X x) (hm:X.mg x=some (.ref f)) (hk:PySem.W.keepIn X.K (.ref f)=true) (hb:Binds X.K fd ps ds) (hd:Vals dvs ds) (hx:Passes CX X E)
  (hdb:(x == ("__debug__":Str))=false:=by decide):PE X (.Call (.Name x p) [] [] pos) (tCall sp dvs E tNil):=by
 intro pins s σ H Q I h
 refine wpAny_Call_Name_kw (ld_glob I hg hm ?_ hdb)
 exact PySem.W.callWith_K0 I.kIn hk (run_fn (us:=[]) F hr hb hd hx I .nil h)
theorem pe_meth {pl:Sem Bool} (he:PE X o ta) (c:Cls X.K C) (hm:Meth X.K C m f) (F:FnOk X.prog X.w X.K X.mg X.base CX k f fd ps sp) (hr:Room k X.A) (hb:Binds X.K fd ps ds) (hd:Vals dvs ds) (hx:Passes CX X E) (ha:PA X (e::es) t)
  (hst:starEach (e::es) X.env=(false,eval e X.env)::starEach es X.env:=by rfl) (hpl:(backTo pos (starEach es X.env)).any (·.1)=false:=by rfl)
  (ht:eval (.Call (.Attribute o m apos) (e::es) [] pos) X.env=(do
   let ov ← eval o X.env
   standAt apos.atName
   let (f,first) ← holding [ov] (getMethod ov m pl)
   callWith pos f first (backTo pos (starEach (e::es) X.env)) (backToKw pos (keywordEach [] X.env))):=by rfl) :
  PE X (.Call (.Attribute o m apos) (e::es) [] pos) (tMeth C m sp dvs E ta t):=by
 intro pins s σ H Q I h
 refine PySem.W.methodCall_KW (pl:=pl) (thn (he pins s σ H _ I h) fun u s1 ⟨x,H1,I1,rx,a,dx,fs,ex,ea,l,q⟩=>?_) ht
 subst ex
 obtain rfl:u=Value.ref a:=rx
 refine getmeth_ok I1 ea c hm l ?_
 refine PySem.W.callWith_K (first:=[.ref a]) (h₀:=X.base) I.ok.mod.kin hm.kp (thn (ha pos pins s1 σ H1 _ I1 q) fun us s2 ⟨vs,H2,I2,r,q2⟩=>⟨I2.kIn,?_⟩) hst hpl
 exact run_fn (us:=.ref a::us) (vs:=.ref a::vs) F hr hb hd hx I2 (.cons rfl r) q2
theorem aeB {pl:Sem Bool} (he:PE X o ta) (c:Cls X.K C) (hm:Meth X.K C m f) (F:FnOk X.prog X.w X.K X.mg X.base CX k f fd ps sp) (hr:Room k X.A) (hb:Binds X.K fd ps ds) (hd:Vals dvs ds) (hx:Passes CX X E)
  (ht:eval (.Call (.Attribute o m apos) [] [] pos) X.env=(do
   let ov ← eval o X.env
   standAt apos.atName
   let (f,first) ← holding [ov] (getMethod ov m pl)
   callWith pos f first (backTo pos (starEach [] X.env)) (backToKw pos (keywordEach [] X.env))):=by rfl) :
  PE X (.Call (.Attribute o m apos) [] [] pos) (tMeth C m sp dvs E ta tNil):=by
 intro pins s σ H Q I h
 refine PySem.W.methodCall_KW (pl:=pl) (thn (he pins s σ H _ I h) fun u s1 ⟨x,H1,I1,rx,a,dx,fs,ex,ea,l,q⟩=>?_) ht
 subst ex
 obtain rfl:u=Value.ref a:=rx
 refine getmeth_ok I1 ea c hm l ?_
 exact PySem.W.callWith_K0 (first:=[.ref a]) I1.kIn hm.kp (run_fn (us:=[.ref a]) (vs:=[.ref a]) F hr hb hd hx I1 (.cons rfl .nil) q)
structure Mk (K:PySem.W.Frag) (C f:Addr):Prop where
 makes:PySem.W.makesIn K C=true
 init:PySem.W.findIn K (.ref C) "__init__"=some (some (.ref f))
 fn:PySem.W.isFn K (.ref f)=true
 kp:PySem.W.keepIn K (.ref C)=true
theorem run_make {pins:List (Addr×Obj)}{σ:St}{H:Hp}{s:Shared}{Q:VK}{us:List Value}{vs:List V} (M:Mk X.K C f) (F:FnOk X.prog X.w X.K X.mg X.base CX k f fd ps sp) (hr:Room (k+1) X.A) (hb:Binds X.K fd ps ds) (hd:Vals dvs ds)
  (hx:Passes CX X E) (I:Inv X pins σ H s) (r:Vals vs us)
  (h:∀ x dx,H x=none→H dx=none→dx≠x→sp (.ref x::(vs++dvs)) (upd (upd H dx (.own x)) x (.ins C dx [])) (fun v H2=>v=.non∧Q (.ref x) H2) E) :
  wpAny (model X.prog X.w) X.A (call (.ref C) us) (EP X pins σ Q) X.xe s:=by
 have hq:=h (s.heap.objs.size+1) s.heap.objs.size (I.hok.fresh (Nat.le_succ _)) (I.hok.fresh (Nat.le_refl _)) (Nat.ne_of_lt (Nat.lt_succ_self _))
 have I2:=Inv.made (C:=C) I
 have r2:Vals (V.ref (s.heap.objs.size+1)::(vs++dvs)) (Value.ref (s.heap.objs.size+1)::(us++ds)):=.cons rfl (r.append hd)
 have hl:(Value.ref (s.heap.objs.size+1)::us++ds).length=ps.length:=by
  have e:=r2.length
  rw [F.len _ _ _ _ hq] at e
  exact e.symm
 refine wpAny_call (make_map (f:=f) I.kIn M.makes M.init (beq_iff_eq.mp M.fn) (codeAny_mono (F.run _ X.stack _ _ ⟨Value.ref (s.heap.objs.size+1)::us,[]⟩ (Value.ref (s.heap.objs.size+1)::(us++ds)) _ _ E (hr.make C us [])
  (I2.env0.make C us []) (hb _ (Value.ref (s.heap.objs.size+1)::us) I2.kIn hl) r2 hq) fun r s' hq'=>?_))
 cases r with
 | error e=>exact hx pins σ _ _ e s' I2 hq'
 | ok fl =>
  cases fl with
  | ret u =>
   obtain⟨v,H',I3,rv,ev,q3⟩:=I2.after hq'
   subst ev
   exact⟨rv,⟨V.ref (s.heap.objs.size+1),H',I3,rfl,q3⟩⟩
  | next=>exact False.elim hq'
  | brk=>exact False.elim hq'
  | cont=>exact False.elim hq'
theorem agm (M:Mk X.K C f) (F:FnOk X.prog X.w X.K X.mg X.base CX k f fd ps sp) (hr:Room (k+1) X.A) (hg:Gl X x) (hm:X.mg x=some (.ref C)) (hb:Binds X.K fd ps ds) (hd:Vals dvs ds) (hx:Passes CX X E)
  (ha:PA X (e::es) t) (hdb:(x == ("__debug__":Str))=false:=by decide) (he:starEach (e::es) X.env=(false,eval e X.env)::starEach es X.env:=by rfl) (hpl:(backTo pos (starEach es X.env)).any (·.1)=false:=by rfl) :
  PE X (.Call (.Name x p) (e::es) [] pos) (tMake C sp dvs E t):=by
 intro pins s σ H Q I h
 refine wpAny_Call_Name_kw (ld_glob I hg hm ?_ hdb)
 refine PySem.W.callWith_K (h₀:=X.base) I.ok.mod.kin M.kp (thn (ha pos pins s σ H _ I h) fun us s1 ⟨vs,H1,I1,r,q⟩=>⟨I1.kIn,?_⟩) he hpl
 exact run_make M F hr hb hd hx I1 r q
end
section
variable {X:Cx}{CX:CXT}{k:Nat}{f C:Addr}{fd:FuncData}{ps ks:List Str}{sp:Sp}{E:XK}{x m:Str}{p pos apos kpos:Pos}{e o:Expr}{es:List Expr}{kws:List Keyword}{te ta:TE}{t tk:TA}{nm:Option Str}
variable {g:List Value→List Value→List Value}{gV:List V→List V→List V}
end
structure FnScope (N P:List Str) (sc:Scope):Prop where
 kind:sc.kind=.function
 co:sc.isCoroutine=false
 gen:sc.isGenerator=false
 nd:N.Nodup
 pre:N.take P.length=P
 par:∀ x∈P,sc.names.lookup x=some .local∨sc.names.lookup x=some .cell
 nofree:∀ y∈sc.names,y.2≠.free
theorem bindL_out {kindOf:Str→Option NameKind}{x:Str}:∀ {binds:List (Str×Value)}{m:Str→Option Value},(∀ v,(x,v) ∉ binds)→bindL kindOf binds m x=m x
 | [],_,_=>rfl
 | (n,v)::r,m,h=>by
  unfold bindL
  rw [bindL_out fun w hw=>h w (List.mem_cons_of_mem _ hw)]
  split
  ·have:x≠n:=by rintro rfl; exact h v List.mem_cons_self
   simp [this]
  ·rfl
theorem bindC_out {kindOf:Str→Option NameKind}{x:Str}:∀ {binds:List (Str×Value)}{m:Str→Option Value},(∀ v,(x,v) ∉ binds)→bindC kindOf binds m x=m x
 | [],_,_=>rfl
 | (n,v)::r,m,h=>by
  unfold bindC
  rw [bindC_out fun w hw=>h w (List.mem_cons_of_mem _ hw)]
  split
  ·rfl
  ·have:x≠n:=by rintro rfl; exact h v List.mem_cons_self
   simp [this]
theorem bindL_get {kindOf:Str→Option NameKind}{x:Str}{v:Value}:∀ {P:List Str}{vs:List Value}{i:Nat}{m:Str→Option Value},P.Nodup→P[i]?=some x→vs[i]?=some v→kindOf x=some .local →
  bindL kindOf (P.zip vs) m x=some v
 | [],_,_,_,_,h,_,_=>by simp at h
 | _::_,[],_,_,_,_,h,_=>by simp at h
 | p::P,w::vs,0,m,nd,h1,h2,hk=>by
  simp at h1 h2; subst h1; subst h2
  show bindL kindOf ((p,w)::P.zip vs) m p=_
  unfold bindL
  rw [bindL_out fun v hv=>(List.nodup_cons.mp nd).1 (List.of_mem_zip hv).1,if_pos hk]
  simp
 | p::P,w::vs,i+1,m,nd,h1,h2,hk=>by
  show bindL kindOf ((p,w)::P.zip vs) m x=_
  unfold bindL
  exact bindL_get (i:=i) (List.nodup_cons.mp nd).2 (by simpa using h1) (by simpa using h2) hk
theorem bindC_get {kindOf:Str→Option NameKind}{x:Str}{v:Value}:∀ {P:List Str}{vs:List Value}{i:Nat}{m:Str→Option Value},P.Nodup→P[i]?=some x→vs[i]?=some v→kindOf x≠some .local →
  bindC kindOf (P.zip vs) m x=some v
 | [],_,_,_,_,h,_,_=>by simp at h
 | _::_,[],_,_,_,_,h,_=>by simp at h
 | p::P,w::vs,0,m,nd,h1,h2,hk=>by
  simp at h1 h2; subst h1; subst h2
  show bindC kindOf ((p,w)::P.zip vs) m p=_
  unfold bindC
  rw [bindC_out fun v hv=>(List.nodup_cons.mp nd).1 (List.of_mem_zip hv).1,if_neg hk]
  simp
 | p::P,w::vs,i+1,m,nd,h1,h2,hk=>by
  show bindC kindOf ((p,w)::P.zip vs) m x=_
  unfold bindC
  exact bindC_get (i:=i) (List.nodup_cons.mp nd).2 (by simpa using h1) (by simpa using h2) hk
def start (N:List Str) (vs:List V):St:=vs.map some++List.replicate (N.length - vs.length) none
def cxOf (CX:CXT) (P:Program) (w:World) (K:PySem.W.Frag) (mg:Str→Option Value) (base:Heap) (N:List Str) (qual:Str) (scope:Scope) (f:Addr) (cd:Value) (A:Around) (outer:List Env) (s:Shared) (H:Hp) (E:XK):Cx where
 prog:=P
 w:=w
 K:=K
 mg:=mg
 base:=base
 A:=A.deeper (envOfC qual scope s.heap.objs.size f cd)
 N:=N
 s₀:=s
 H₀:=H
 env:=envOfC qual scope s.heap.objs.size f cd
 outer:=outer
 stack:=envOfC qual scope s.heap.objs.size f cd::outer
 ex:=[]
 calm:=true
 fn:=fun _=>true
 pn:=[]
 xe:=fun e s'=>wpAny (model P w) (A.deeper (envOfC qual scope s.heap.objs.size f cd)) (leaving (envOfC qual scope s.heap.objs.size f cd) e) (fun _ s''=>CX outer H s E e s'') (fun e' s''=>CX outer H s E e' s'') s'
theorem cell_has {sc:Scope}{n:Nat}{x:Str} (h:sc.names.lookup x=some .cell):∃ c,(cellsFrom n sc.names []).lookup x=some c:=by
 have q:=PySem.W.cellsFrom_some sc.names n [] (.inl h)
 exact Option.isSome_iff_exists.mp q
theorem inv_start {CX:CXT}{P:Program}{w:World}{K:PySem.W.Frag}{mg:Str→Option Value}{base:Heap}{N ps:List Str}{qual:Str}{scope:Scope}{f:Addr}{cd:Value}{A:Around}{outer:List Env}{s s1:Shared}{H:Hp}{E:XK}{us:List Value}{vs:List V}
  (S:FnScope N ps scope) (hd:A.handled=none) (e0:Env0 P w K mg base A outer s H) (hl:vs.length=ps.length) (r:Vals vs us)
  (x:InCallC s s.heap.objs.size (bindL (envOfC qual scope s.heap.objs.size f cd).kindOf (ps.zip us) fun _=>none) (cellsFrom (s.heap.objs.size+1) scope.names []) (bindC (envOfC qual scope s.heap.objs.size f cd).kindOf (ps.zip us) fun _=>none) s1) :
  Inv (cxOf CX P w K mg base N qual scope f cd A outer s H E) [] (start N vs) H s1:=by
 have hpl:ps.length≤N.length:=by have:=congrArg List.length S.pre; rw [List.length_take] at this; lia
 obtain⟨h1,tk,rfl,hk⟩:=x.done
 have noA:∀ b:Addr,b ∉ (cxOf CX P w K mg base N qual scope f cd A outer s H E).ex:=fun b z=>absurd (show b∈([]:List Addr) from z) (by simp)
 refine⟨⟨e0.mod,S.kind,rfl,rfl,Nat.le_refl _,fun y z c h1 h2=>?_,fun y hy=>?_,fun y c _ h=>?_,fun _=>hd,Around.frames_deeper e0.frames,.inr ⟨rfl,rfl⟩,fun b z=>absurd z (noA b),e0.bs,e0.bsz,fun b _ _=>noA b,fun b z=>absurd z (noA b),e0.funs,e0.frf⟩,
  rfl,e0.bare,Un.kept hk,⟨_,x.toInCall.ns,fun i y v h1 h2 h3=>?_⟩,fun y c h=>⟨_,x.cell y c h⟩,e0.hok.fresh (Nat.le_refl _),fun y c h=>?_,fun p hp=>absurd (show p∈([]:List (Addr×Obj)) from hp) (by simp),e0.hok.kept hk,?_⟩
 ·exact name_of_addr x.apart (PySem.mem_of_lookup h1) (PySem.mem_of_lookup h2)
 ·have hy:scope.names.lookup y=some .cell∨scope.names.lookup y=some .free:=hy
  rcases hy with hy | hy
  ·exact cell_has hy
  ·exact absurd rfl (S.nofree _ (PySem.mem_of_lookup hy))
 ·exact Nat.le_of_lt (x.above y c (PySem.mem_of_lookup h))
 ·have hi:i<vs.length:=by
   unfold start at h2
   by_cases hi:i<vs.length
   ·exact hi
   ·rw [List.getElem?_append_right (by simpa using hi)] at h2
    rw [List.getElem?_replicate] at h2
    split at h2 <;> cases h2
  have ha:vs[i]?=some v:=by
   unfold start at h2
   rw [List.getElem?_append_left (by simpa using hi),List.getElem?_map] at h2
   cases e:vs[i]? with
   | none=>rw [e] at h2; cases h2
   | some a=>rw [e] at h2; cases h2; rfl
  obtain⟨u,hu,rv⟩:=r.get ha
  have hp:ps[i]?=some y:=by
   rw [← S.pre,List.getElem?_take_of_lt (by lia)]; exact h1
  have ndP:ps.Nodup:=by rw [← S.pre]; exact S.nd.sublist (List.take_sublist _ _)
  refine⟨u,rv,?_⟩
  rcases S.par y (List.mem_of_getElem? hp) with k | k
  ·exact .inl ⟨k,bindL_get ndP hp hu k⟩
  ·obtain⟨c,e⟩:=cell_has (n:=s.heap.objs.size+1) k
   refine .inr ⟨.inl k,c,e,?_⟩
   have q:=x.cell y c e
   rw [bindC_get ndP hp hu (by show scope.names.lookup y≠_; rw [k]; decide)] at q
   exact q
 ·exact e0.hok.fresh (Nat.le_of_lt (x.above y c (PySem.mem_of_lookup h)))
 ·unfold start
  show _=N.length
  rw [List.length_append,List.length_map,List.length_replicate]
  lia
theorem fn_of {CX:CXT}{P:Program}{w:World}{K:PySem.W.Frag}{mg:Str→Option Value}{base:Heap}{k:Nat}{f:Addr}{name qual:Str}{params:Arguments}{body:List Stmt}{scope:Scope}{dV kV doc pm cdv ct oc:Value}{an od:Option Addr}
  {osl:Array (Option Value)}{N ps:List Str}{sp:Sp} (lk:K.lookup f=some ⟨oc,od,.func (PySem.W.fnOf name qual params body scope dV kV doc pm an cdv ct),osl⟩) (hcd:PySem.W.codeIn K cdv qual=true) (S:FnScope N ps scope)
  (len:∀ vs H Q E,sp vs H Q E→vs.length=ps.length)
  (hbody:∀ (A:Around) (outer:List Env) (s:Shared) (H:Hp) (vs:List V) (Q:VK) (E:XK),Room k (A.deeper (envOfC qual scope s.heap.objs.size f cdv))→sp vs H Q E →
   ∃ t,PSs (cxOf CX P w K mg base N qual scope f cdv A outer s H E) body t∧t { nx:=fun _ H'=>Q .non H',rt:=Q } (start N vs) H) :
  FnOk P w K mg base CX (k+1) f (PySem.W.fnOf name qual params body scope dV kV doc pm an cdv ct) ps sp:=by
 refine⟨len,fun A outer s H args us vs Q E hr e0 hb r hsp=>?_⟩
 have hl:=len _ _ _ _ hsp
 have KX:K.In s.heap:=e0.mod.kin.keeps fun b o e=>(e0.bs b o e).1
 have lim:s.heap.NoLimit:=e0.mod.nolimit.keeps fun b o e=>(e0.bs b o e).1
 have hkind:∀ y∈ps.zip us,scope.names.lookup y.1=some .local∨(scope.names.lookup y.1=some .cell∧((cellsFrom (s.heap.objs.size+1) scope.names []).lookup y.1).isSome=true):=fun ⟨n,v⟩ hy=>by
  rcases S.par n (List.of_mem_zip hy).1 with q | q
  ·exact .inl q
  ·exact .inr ⟨q,PySem.W.cellsFrom_some _ _ _ (.inl q)⟩
 refine codeAny_call_function hr.depth (KX _ _ lk) rfl S.co S.gen rfl (PySem.W.codeRec_of KX hcd) (hb _ _ _ _ ?_)
 refine wpAny_newFunctionEnv_cells S.kind hkind fun env he s1 x=>?_
 subst he
 refine⟨lim.keeps x.toInCall.keep,codeAny_func ?_⟩
 obtain⟨t,ht,hq⟩:=hbody A outer s H vs Q E (hr.deeper _) hsp
 have I:Inv (cxOf CX P w K mg base N qual scope f cdv A outer s H E) [] (start N vs) H s1:=inv_start S hr.hd e0 hl r x
 refine wpAny_mono (ht [] s1 (start N vs) H _ I hq) (fun fl s' hs=>?_) fun e s' hs=>hs
 have fin:∀ {σ':St}{H':Hp}{v:V}{u:Value},Inv (cxOf CX P w K mg base N qual scope f cdv A outer s H E) [] σ' H' s'→RelV v u→Q v H'→CE outer P w H s Q u s' :=
  fun {σ' H' v u} J rv q=>⟨v,H',J.os,J.bare,J.base,J.hok,rv,q⟩
 cases fl with
 | ret u =>
  obtain⟨v,σ',H',J,rv,q⟩:=hs
  exact fin J rv q
 | next =>
  obtain⟨σ',H',J,q⟩:=hs
  exact fin (v:=V.non) (u:=Value.none) J rfl q
 | brk =>
  obtain⟨_,_,_,q⟩:=hs
  exact False.elim q
 | cont =>
  obtain⟨_,_,_,q⟩:=hs
  exact False.elim q
section
variable {X:Cx}{x:Str}{p pos:Pos}{e:Expr}{es:List Expr}{t:TA}{id T:String}{r:List V→Hp→VK→Prop}
def tCB (r:List V→Hp→VK→Prop) (t:TA):TE:=fun σ H Q=>t σ H fun vs H1=>r vs H1 Q
theorem pe_callB (hc:CallR X (.builtin id) r) (hg:Gl X x) (hm:X.mg x=none) (hv:bootBuiltins x=some (.builtin id)) (ha:PA X (e::es) t) (hn:x≠"__name__":=by decide) (hdb:(x == ("__debug__":Str))=false:=by decide)
  (he:starEach (e::es) X.env=(false,eval e X.env)::starEach es X.env:=by rfl) (hpl:(backTo pos (starEach es X.env)).any (·.1)=false:=by rfl):PE X (.Call (.Name x p) (e::es) [] pos) (tCB r t):=by
 intro pins s σ H Q I h
 refine wpAny_Call_Name_kw (ld_blt I hg hm hv ?_ hn hdb)
 exact PyProof.Rows.callWith_builtin1 (thn (ha pos pins s σ H _ I h) fun us s1 ⟨vs,H1,I1,r1,q1⟩=>hc pins s1 σ H1 vs us Q I1 r1 q1) he hpl
theorem acO (hc:CallR X (.type T) r) (hg:Gl X x) (hm:X.mg x=none) (hv:bootBuiltins x=some (.type T)) (ha:PA X (e::es) t) (hn:x≠"__name__":=by decide) (hdb:(x == ("__debug__":Str))=false:=by decide)
  (he:starEach (e::es) X.env=(false,eval e X.env)::starEach es X.env:=by rfl) (hpl:(backTo pos (starEach es X.env)).any (·.1)=false:=by rfl):PE X (.Call (.Name x p) (e::es) [] pos) (tCB r t):=by
 intro pins s σ H Q I h
 refine wpAny_Call_Name_kw (ld_blt I hg hm hv ?_ hn hdb)
 exact PyProof.Rows.callWith_type1 (thn (ha pos pins s σ H _ I h) fun us s1 ⟨vs,H1,I1,r1,q1⟩=>hc pins s1 σ H1 vs us Q I1 r1 q1) he hpl
end
end L2
namespace HT
open PySem PyProof.Rows
section
open PySem.SeqAt
open PySem.AutoSeq1 (wpAny_loadPart')
open PySem.MeetsSeq PySem.MeetsSeq2 PySem.MeetsSeq3
end
section
variable {prog:Program}{w:World}{A:Around}{E:Value→Shared→Prop}{s:Shared}
theorem ag0 {t b:Addr}{vs ws:List Value}{Q:Value→Shared→Prop} (ht:IsTup s.heap t vs.toArray) (hb:IsTup s.heap b ws.toArray) (hv:vs≠[])
  (h1:ws=[]→Q (.ref t) s) (h2:ws≠[]→Q (.ref s.heap.objs.size) { s with heap:=s.heap.push { cls:=.type "tuple",data:=.seq (vs++ws).toArray } })
  (hsz:vs.length+ws.length≤sizeLine):wpAny (model prog w) A (binaryOp .Add (.ref t) (.ref b)) Q E s:=by
 obtain⟨⟨cls,dd,data,sl⟩,ho,hc,n,hd⟩:=id ht
 obtain⟨⟨cls2,dd2,data2,sl2⟩,ho2,hc2,n2,hd2⟩:=id hb
 simp only at hc hd hc2 hd2
 subst hc hd hc2 hd2
 have e:vs.toArray++ws.toArray=(vs++ws).toArray:=by simp
 by_cases hw:ws=[]
 ·exact concat_meets ⟨_,ho,rfl⟩ ⟨_,ho2,rfl⟩ noFill_tuple_add seq_tuple_add PySem.F.slot_tuple_add PySem.F.entry_tuple_add (PySem.F.args_tuple_add_2 _ _)
   (tuple_addW1 t b vs.toArray ws.toArray n n2 dd dd2 sl sl2 (by simpa using hv) (by simp [hw])) ⟨ho,ho2,h1 hw⟩
 ·refine concat_meets ⟨_,ho,rfl⟩ ⟨_,ho2,rfl⟩ noFill_tuple_add seq_tuple_add PySem.F.slot_tuple_add PySem.F.entry_tuple_add (PySem.F.args_tuple_add_2 _ _)
   (tuple_addW2 t b vs.toArray ws.toArray n n2 dd dd2 sl sl2 (by simpa using hv) (by simpa using hw) (by rw [List.size_toArray,List.size_toArray]; exact hsz)) ⟨ho,ho2,?_⟩
  rw [e]
  exact h2 hw
def sIx (n d:Nat):Option Int→Nat
 | none=>d
 | some v=>if v<0 then (v+(n:Int)).toNat else min v.toNat n
theorem Vk (n d:Nat):sIx n d none=d:=rfl
theorem ZR (n d k:Nat):sIx n d (some (k:Int))=min k n:=by
 show (if (k:Int)<0 then ((k:Int)+(n:Int)).toNat else min (k:Int).toNat n)=min k n
 rw [if_neg (by lia),Int.toNat_natCast]
theorem ahs (n d:Nat) (hd:d≤n) (o:Option Int):sIx n d o≤n:=by
 cases o with
 | none=>exact hd
 | some v =>
  show (if v<0 then (v+(n:Int)).toNat else min v.toNat n)≤n
  by_cases hv:v<0
  ·rw [if_pos hv]; lia
  ·rw [if_neg hv]; exact Nat.min_le_right _ _
theorem aag (v:Int) (n d:Nat):(if v<0 then max (v+(n:Int)) 0 else min v (n:Int))=((sIx n d (some v):Nat):Int):=by
 show (if v<0 then max (v+(n:Int)) 0 else min v (n:Int))=(((if v<0 then (v+(n:Int)).toNat else min v.toNat n):Nat):Int)
 by_cases hv:v<0
 ·simp only [if_pos hv]; lia
 ·simp only [if_neg hv]; lia
theorem abM (lo hi:Option Int) (n:Nat):Builtin.Slice.sliceAdjust lo hi 1 (n:Int)=(((sIx n 0 lo:Nat):Int),((sIx n n hi:Nat):Int)):=by
 have h1:¬ ((1:Int)<0):=by lia
 unfold Builtin.Slice.sliceAdjust
 simp only [h1,if_false]
 refine Prod.ext ?_ ?_
 ·cases lo with
  | none=>rfl
  | some v=>exact aag v n 0
 ·cases hi with
  | none=>rfl
  | some v=>exact aag v n n
theorem aaN (i j:Nat):Builtin.Slice.slicePlaces (i:Int) (j:Int) 1=j - i:=by
 unfold Builtin.Slice.slicePlaces
 have h1:(1:Int) > 0:=by lia
 simp only [h1,if_true,Int.ediv_one]
 split <;> lia
theorem Nk {v:Value}{o:Option Int}{Q:Option Int→Shared→Prop} (p:IsPart v o) (h:Q o s):wpAny (model prog w) A (Builtin.Slice.slicePartIndex v) Q E s:=by
 cases p with
 | none=>exact slicePart_none h
 | int i t=>exact slicePart_int h
theorem xP {sl:Addr}{vl vu:Value}{lo hi:Option Int}{n:Nat}{Q:Int×Int×Nat→Shared→Prop} (hs:s.heap.IsSliceOf sl vl vu .none) (pl:IsPart vl lo) (pu:IsPart vu hi)
  (h:Q (((sIx n 0 lo:Nat):Int),1,sIx n n hi - sIx n 0 lo) s):wpAny (model prog w) A (Builtin.Slice.sliceApplied (.ref sl) (pure (n:Int))) Q E s:=by
 obtain⟨os,hos,hcs,hds⟩:=id hs
 unfold Builtin.Slice.sliceApplied Builtin.Slice.sliceFields
 refine wpAny_bind (wpAny_bind (wpAny_field hos hds (x:=vl) rfl (wpAny_bind (wpAny_field hos hds (x:=vu) rfl (wpAny_bind (wpAny_field hos hds (x:=.none) rfl (wpAny_pure ?_)))))))
 refine wpAny_bind (slicePart_none ?_)
 show wpAny _ _ (if ((1:Int) == 0)=true then _ else _) _ _ s
 rw [if_neg (by decide)]
 refine wpAny_bind (Nk pl (wpAny_bind (Nk pu (wpAny_bind (wpAny_pure ?_)))))
 show wpAny _ _ (match Builtin.Slice.sliceAdjust lo hi 1 (n:Int) with | (lo,hi)=>pure (lo,(1:Int),Builtin.Slice.slicePlaces lo hi 1)) _ _ s
 rw [abM lo hi n]
 show wpAny _ _ (pure (((sIx n 0 lo:Nat):Int),(1:Int),Builtin.Slice.slicePlaces ((sIx n 0 lo:Nat):Int) ((sIx n n hi:Nat):Int) 1)) _ _ s
 rw [aaN]
 exact wpAny_pure h
theorem aez (xs:Array Value) (i k:Nat):((List.range k).filterMap fun (m:Nat)=>xs[((i:Int)+(m:Int) * 1).toNat]?).toArray=((xs.toList.drop i).take k).toArray:=by
 have e:(fun (m:Nat)=>xs[((i:Int)+(m:Int) * 1).toNat]?)=fun m=>xs[i+m]?:=by
  funext m
  have:((i:Int)+(m:Int) * 1).toNat=i+m:=by lia
  rw [this]
 rw [e]
 have:=pick_run xs i k
 rw [List.filterMap_map] at this
 have e2:((fun x=>xs[x]?)∘fun x=>i+x)=fun m=>xs[i+m]?:=rfl
 rw [e2] at this
 rw [this]
theorem Jy {t sl:Addr}{items:Array Value}{vl vu:Value}{lo hi:Option Int}{Q:Value→Shared→Prop} (ht:IsTup s.heap t items) (hs:s.heap.IsSliceOf sl vl vu .none) (pl:IsPart vl lo) (pu:IsPart vu hi)
  (hw:¬ (sIx items.size 0 lo=0∧sIx items.size items.size hi=items.size))
  (h:Q (.ref s.heap.objs.size) { s with heap:=s.heap.push { cls:=.type "tuple",data:=.seq ((items.toList.drop (sIx items.size 0 lo)).take (sIx items.size items.size hi - sIx items.size 0 lo)).toArray } })
  (hsz:items.size≤sizeLine):wpAny (model prog w) A (getItem (.ref t) (.ref sl)) Q E s:=by
 have Um:sizeOk (.seq ((items.toList.drop (sIx items.size 0 lo)).take (sIx items.size items.size hi - sIx items.size 0 lo)).toArray):=by
  show ((items.toList.drop (sIx items.size 0 lo)).take (sIx items.size items.size hi - sIx items.size 0 lo)).toArray.size≤sizeLine
  rw [List.size_toArray,List.length_take,List.length_drop,Array.length_toList]
  lia
 have hj:sIx items.size items.size hi≤items.size:=ahs _ _ (Nat.le_refl _) hi
 obtain⟨os,hos,hcs,hds⟩:=id hs
 have hTs:s.TypeIs (.ref sl) "slice":=⟨os,hos,hcs⟩
 unfold getItem
 try with_reducible refine wpAny_holding ?_
 first | refine wpAny_bind (wpAny_pure ?_) | skip
 refine wpAny_bind (wpAny_sequenceKey ht.typeIs (by decide) ?_)
 refine wpAny_bind (wpAny_callSpecial?_slot (name:=Str.ofString "__getitem__") ht.typeIs PyProof.Rows.slot_tuple_getitem
  (wpAny_call_entry PyProof.Rows.slot_tuple_getitem ht.typeIs entry_tuple_getitem ?_ (args_tuple_getitem _ _)))
 show wpAny _ _ (Builtin.Tuple.tupleItemsOf (.ref t) >>= _) _ _ s
 refine wpAny_bind (tupleItemsOf_ ht ?_)
 refine wpAny_bind (wpAny_typeOf hTs ?_)
 rw [if_pos (by decide)]
 refine wpAny_bind (xP hs pl pu ?_)
 have hno:¬ ((((sIx items.size 0 lo:Nat):Int) == 0 && (1:Int) == 1 && (sIx items.size items.size hi - sIx items.size 0 lo) == items.size)=true):=by
  intro q
  rw [Bool.and_eq_true,Bool.and_eq_true] at q
  have q1:((sIx items.size 0 lo:Nat):Int)=0:=eq_of_beq q.1.1
  have q2:sIx items.size items.size hi - sIx items.size 0 lo=items.size:=eq_of_beq q.2
  exact hw ⟨by lia,by lia⟩
 show wpAny _ _ (if (((sIx items.size 0 lo:Nat):Int) == 0 && (1:Int) == 1 && (sIx items.size items.size hi - sIx items.size 0 lo) == items.size)=true then _ else _) _ _ s
 rw [if_neg hno,aez]
 first
  | exact wpAny_bind (m:=Builtin.Tuple.tupleExact _) (wpAny_newObj_type (wpAny_pure ⟨_,rfl,wpAny_pure h⟩) Um)
  | exact wpAny_bind (m:=Builtin.Tuple.tupleExact _) (wpAny_newObj_type (wpAny_bind (wpAny_pure (wpAny_pure ⟨_,rfl,wpAny_pure h⟩))) Um)
  | exact wpAny_bind (wpAny_bind (m:=Builtin.Tuple.tupleExact _) (wpAny_newObj_type (wpAny_pure (wpAny_pure ⟨_,rfl,wpAny_pure h⟩)) Um))
  | exact wpAny_bind (wpAny_bind (m:=Builtin.Tuple.tupleExact _) (wpAny_newObj_type (wpAny_pure ⟨_,rfl,wpAny_pure h⟩) Um))
end
end HT
namespace L2
open PySem PySem.Spec PyProof.Rows
abbrev TO:=St→Hp→(Option Int→Hp→Prop)→Prop
def PO (X:Cx) (e:Option Expr) (t:TO):Prop :=
 ∀ (pins:List (Addr×Obj)) (s:Shared) (σ:St) (H:Hp) (Q:Option Int→Hp→Prop),Inv X pins σ H s→t σ H Q →
  wpAny (model X.prog X.w) X.A (evalPart e X.env) (fun u s'=>∃ o H',Inv X pins σ H' s'∧IsPart u o∧Q o H') X.xe s
def Pq:TO:=fun _ H Q=>Q none H
def afB (t:TE):TO:=fun σ H Q=>t σ H fun x H1=>∃ i,x=.int i∧Q (some i) H1
theorem intsAre_of {ns:List Int}:∀ {us:List Value},Vals (ns.map V.int) us→IntsAre us ns:=by
 induction ns with
 | nil=>intro us r; rw [List.map_nil] at r; cases r; exact .nil
 | cons n ns ih =>
  intro us r
  rw [List.map_cons] at r
  cases r with
  | cons r1 r2 =>
   obtain⟨t,e⟩:=r1
   subst e
   exact .cons n t (ih r2)
section
variable {X:Cx}{e:Expr}{te:TE}{lo hi:Option Expr}{tl th:TO}{pos p2:Pos}
theorem agh:PO X none Pq:=by
 intro pins s σ H Q I h
 rw [evalPart_none]
 exact wpAny_pure ⟨none,H,I,.none,h⟩
theorem agg (h:PE X e te):PO X (some e) (afB te):=by
 intro pins s σ H Q I hw
 rw [evalPart_some]
 refine thn (h pins s σ H _ I hw) fun u s1 ⟨x,H1,I1,r1,q1⟩=>?_
 obtain⟨i,rfl,q⟩:=q1
 obtain⟨t,rfl⟩:=r1
 exact⟨some i,H1,I1,.int i t,q⟩
def SlR (X:Cx) (r:V→Option Int→Option Int→Hp→VK→Prop):Prop :=
 ∀ (pins:List (Addr×Obj)) (s:Shared) (σ:St) (H:Hp) (x:V) (v vl vu:Value) (lo hi:Option Int) (sl:Addr) (Q:VK),Inv X pins σ H s→RelV x v→s.heap.IsSliceOf sl vl vu .none→IsPart vl lo→IsPart vu hi→r x lo hi H Q →
  ∃ T id,typeLookup (.type T) "__getitem__"=pure (some (.builtin id))∧s.TypeIs v T∧wpAny (model X.prog X.w) X.A (getItem v (.ref sl)) (EP X pins σ Q) X.xe s
def tSl (r:V→Option Int→Option Int→Hp→VK→Prop) (te:TE) (tl th:TO):TE:=fun σ H Q=>te σ H fun x H1=>tl σ H1 fun l H2=>th σ H2 fun u H3=>r x l u H3 Q
theorem aeA {r:V→Option Int→Option Int→Hp→VK→Prop} (hr:SlR X r) (he:PE X e te) (hl:PO X lo tl) (hu:PO X hi th):PE X (.Subscript e (.Slice lo hi none p2) pos) (tSl r te tl th):=by
 intro pins s σ H Q I h
 refine Subscript_ (thn (he pins s σ H _ I h) fun v s1 ⟨x,H1,I1,r1,q1⟩=>?_)
 refine wpAny_Slice (thn (hl pins s1 σ H1 _ I1 q1) fun vl s2 ⟨l,H2,I2,pl,q2⟩=>thn (hu pins s2 σ H2 _ I2 q2) fun vu s3 ⟨u,H3,I3,pu,q3⟩=>?_)
 rw [evalPart_none]
 refine wpAny_pure ?_
 have I4:Inv X pins σ H3 { s3 with heap:=s3.heap.push { cls:=.type "slice",data:=.fields #[vl,vu,.none] } }:=I3.kept (t':=s3.toks) fun b ob q=>Heap.get?_push_of_some _ q
 obtain⟨T,id,hT,ht,hg⟩:=hr pins { s3 with heap:=s3.heap.push { cls:=.type "slice",data:=.fields #[vl,vu,.none] } } σ H3 x v vl vu l u s3.heap.objs.size Q I4 r1 (Heap.IsSliceOf.new ..) pl pu q3
 show wpAny (model X.prog X.w) X.A (subscriptTail e (.Slice lo hi none p2) v (.ref s3.heap.objs.size)) (EP X pins σ Q) X.xe { s3 with heap:=s3.heap.push { cls:=.type "slice",data:=.fields #[vl,vu,.none] } }
 exact tail_any (ops:=[.ref s3.heap.objs.size,v]) ht hT hg (by with_unfolding_all rfl)
def pB (xs:List V) (lo hi:Option Int):List V:=(xs.drop (HT.sIx xs.length 0 lo)).take (HT.sIx xs.length xs.length hi - HT.sIx xs.length 0 lo)
theorem nJ (xs:List V) (lo hi:Option Int):(pB xs lo hi).length≤xs.length:=by
 unfold pB
 rw [List.length_take,List.length_drop]
 lia
def ald (K:PySem.W.Frag):V→Option Int→Option Int→Hp→VK→Prop:=fun x lo hi H Q=>∃ a xs,x=.ref a∧SqT K H a xs ∧
 ¬ (HT.sIx xs.length 0 lo=0∧HT.sIx xs.length xs.length hi=xs.length)∧∀ p,H p=none→Q (.ref p) (upd H p (.tup (pB xs lo hi)))
theorem aho:SlR X (ald X.K):=by
 intro pins s σ H x v vl vu lo hi sl Q I rx hs pl pu h
 obtain⟨a,xs,rfl,hx,hw,q⟩:=h
 cases rx
 obtain⟨its,r,ht,hz⟩:=I.tuple hx
 have hlen:its.toArray.size=xs.length:=by rw [List.size_toArray]; exact r.length.symm
 refine⟨"tuple",_,PyProof.Rows.slot_tuple_getitem.lookup,ht.typeIs,?_⟩
 refine HT.Jy ht hs pl pu (by rw [hlen]; exact hw) ?_ (by rw [hlen]; exact hz)
 rw [hlen]
 refine⟨.ref s.heap.objs.size,_,I.laid (t':=s.toks) (o:=.tup (pB xs lo hi)) (fun b ob q=>Heap.get?_push_of_some _ q) (Nat.le_refl _) ?_,rfl,q _ (I.hok.fresh (Nat.le_refl _))⟩
 exact⟨Nat.le_trans (nJ xs lo hi) hz,_,(r.drop (HT.sIx xs.length 0 lo)).take (HT.sIx xs.length xs.length hi - HT.sIx xs.length 0 lo),IsTup.new _ _⟩
def aj4 (K:PySem.W.Frag):R2:=fun x y H Q=>∃ a b xs ys,x=.ref a∧y=.ref b∧SqT K H a xs∧SqT K H b ys∧xs≠[]∧xs.length+ys.length≤sizeLine ∧
 (ys=[]→Q (.ref a) H)∧(ys≠[]→∀ p,H p=none→Q (.ref p) (upd H p (.tup (xs++ys))))
theorem Vals.BP {xs:List V}{us:List Value} (r:Vals xs us):us=[]↔xs=[]:=by
 cases r with
 | nil=>simp
 | cons _ _=>simp
theorem agq:OpR X (binaryOp .Add) (aj4 X.K):=by
 intro pins s σ H x y v u Q I rx ry h
 obtain⟨a,b,xs,ys,rfl,rfl,ha,hb,hx,hz,q1,q2⟩:=h
 cases rx
 cases ry
 obtain⟨its,r1,p1,_⟩:=I.tuple ha
 obtain⟨its2,r2,p2,_⟩:=I.tuple hb
 refine HT.ag0 p1 p2 (fun z=>hx (r1.BP.mp z)) (fun z=>⟨.ref a,H,I,rfl,q1 (r2.BP.mp z)⟩) (fun z=>?_) (by rw [← r1.length,← r2.length]; exact hz)
 refine⟨.ref s.heap.objs.size,_,I.laid (t':=s.toks) (o:=.tup (xs++ys)) (fun b ob q=>Heap.get?_push_of_some _ q) (Nat.le_refl _) ?_,rfl,q2 (fun w=>z (r2.BP.mpr w)) _ (I.hok.fresh (Nat.le_refl _))⟩
 exact⟨by rw [List.length_append]; exact hz,_,r1.append r2,IsTup.new _ _⟩
end
def ixN (n:Nat) (i:Int):Option Nat:=if 0≤i then (if i<n then some i.toNat else none) else if -(n:Int)≤i then some (i+n).toNat else none
def atI {α:Type} (xs:List α) (i:Int):Option α:=(ixN xs.length i).bind fun j=>xs[j]?
theorem ixN_seq {n:Nat}{i:Int}{j:Nat} (h:ixN n i=some j):seqIndex? i n=some j∧j<n∧-(n:Int)≤i∧i<n:=by
 unfold ixN at h
 by_cases h0:0≤i
 ·rw [if_pos h0] at h
  by_cases h1:i<n
  ·rw [if_pos h1] at h
   have e:i.toNat=j:=Option.some.inj h
   exact⟨by rw [seqIndex_of h0 h1,e],by lia,by lia,h1⟩
  ·rw [if_neg h1] at h; cases h
 ·rw [if_neg h0] at h
  by_cases h1:-(n:Int)≤i
  ·rw [if_pos h1] at h
   have e:(i+n).toNat=j:=Option.some.inj h
   exact⟨by rw [seqIndex_neg (by lia) h1,e],by lia,h1,by lia⟩
  ·rw [if_neg h1] at h; cases h
theorem atI_get {α:Type}{xs:List α}{i:Int}{v:α} (h:atI xs i=some v):∃ j,seqIndex? i xs.length=some j∧xs[j]?=some v∧j<xs.length∧-(xs.length:Int)≤i∧i<xs.length:=by
 unfold atI at h
 cases e:ixN xs.length i with
 | none=>rw [e] at h; cases h
 | some j =>
  rw [e] at h
  obtain⟨h1,h2,h3,h4⟩:=ixN_seq e
  exact⟨j,h1,h,h2,h3,h4⟩
theorem atI_nat {α:Type}{xs:List α}{j:Nat}{v:α} (h:xs[j]?=some v):atI xs (j:Int)=some v:=by
 have hj:j<xs.length:=(List.getElem?_eq_some_iff.mp h).1
 have e:ixN xs.length (j:Int)=some j:=by
  unfold ixN
  rw [if_pos (by lia),if_pos (by lia)]; simp
 unfold atI; rw [e]; exact h
def PlainIx (b:Expr):Prop:=∀ o i,subscripted b false o i=operate [o,i] (getItem o i)
def IxR (X:Cx) (r:R2):Prop :=
 ∀ (value slice:Expr) (pins:List (Addr×Obj)) (s:Shared) (σ:St) (H:Hp) (x y:V) (v u:Value) (Q:VK),Inv X pins σ H s→RelV x v→RelV y u→r x y H Q →
  subscripted slice false v u=operate [v,u] (getItem v u)→wpAny (model X.prog X.w) X.A (subscriptTail value slice v u) (EP X pins σ Q) X.xe s
def MtR (X:Cx) (id:String) (r:V→List V→Hp→VK→Prop):Prop :=
 ∀ (pins:List (Addr×Obj)) (s:Shared) (σ:St) (H:Hp) (x:V) (xs:List V) (v:Value) (us:List Value) (Q:VK),Inv X pins σ H s→RelV x v→Vals xs us→r x xs H Q →
  wpAny (model X.prog X.w) X.A (call (.builtin id) (v::us)) (EP X pins σ Q) X.xe s
section
variable {X:Cx}{a b:Expr}{ta tb:TE}{pos:Pos}
theorem pe_ix {r:R2} (hr:IxR X r) (ha:PE X a ta) (hb:PE X b tb) (hs:PlainIx b):PE X (.Subscript a b pos) (tOp r ta tb):=by
 intro pins s σ H Q I h
 exact Subscript_ (binT ha hb I h fun v u s2 x y H2 I2 rx ry q=>hr a b pins s2 σ H2 x y v u Q I2 rx ry q (hs _ _))
def rIxL (K:PySem.W.Frag):R2:=fun x y H Q=>∃ p xs i v,x=.ref p∧y=.int i∧SqL K H p xs∧atI xs i=some v∧Q v H
def aer (K:PySem.W.Frag):R2:=fun x y H Q=>∃ p xs i v,x=.ref p∧y=.int i∧SqT K H p xs∧atI xs i=some v∧Q v H
theorem ix_list:IxR X (rIxL X.K):=by
 intro value slice pins s σ H x y v u Q I rx ry h hs
 obtain⟨p,xs,i,z,rfl,rfl,hq,he,q⟩:=h
 cases rx
 obtain⟨t,rfl⟩:=ry
 obtain⟨its,r,pl,hz⟩:=I.list hq
 obtain⟨j,h1,h2,h3,h4,h5⟩:=atI_get he
 obtain⟨w,ew,rw'⟩:=r.get h2
 have hl:=r.length
 have hn:=line63
 have fin:EP X pins σ Q w s:=⟨z,H,I,rw',q⟩
 by_cases h0:0≤i
 ·have hj:i.toNat=j:=by
   rw [seqIndex_of h0 h5] at h1
   exact Option.some.inj h1
  exact item_listR pl.isList h0 (by lia) (by rw [hj]; simpa using ew) fin hs
 ·have hj:(i+(its.toArray.size:Int)).toNat=j:=by
   rw [seqIndex_neg (by lia) h4] at h1
   rw [List.size_toArray,← hl]
   exact Option.some.inj h1
  exact subscriptTail_builtinR (x:=w) pl.isList.typeIs slot_list_getitem.lookup
   (wpAny_getItem_list_neg (Q:=fun r s'=>r=w∧EP X pins σ Q r s') pl.isList (by lia) (by rw [List.size_toArray] <;> lia) (by lia) (by rw [hj]; simpa using ew) ⟨rfl,fin⟩) hs
theorem cJ:IxR X (aer X.K):=by
 intro value slice pins s σ H x y v u Q I rx ry h hs
 obtain⟨p,xs,i,z,rfl,rfl,hq,he,q⟩:=h
 cases rx
 obtain⟨t,rfl⟩:=ry
 obtain⟨its,r,pl,hz⟩:=I.tuple hq
 obtain⟨j,h1,h2,h3,h4,h5⟩:=atI_get he
 obtain⟨w,ew,rw'⟩:=r.get h2
 have hl:=r.length
 have hn:=line63
 have fin:EP X pins σ Q w s:=⟨z,H,I,rw',q⟩
 exact subscriptTail_builtinR (x:=w) pl.typeIs slot_tuple_getitem.lookup
  (getItem_tuple (j:=j) (Q:=fun r s'=>r=w∧EP X pins σ Q r s') pl (by lia) (by lia) (by rw [List.size_toArray,← hl]; exact h1) (by simpa using ew) ⟨rfl,fin⟩) hs
theorem aa9 (its:List Value) (n j:Nat) (u:Value):Obj.mapSeq (·.setIfInBounds j u) { cls:=.type "list",data:=.seq its.toArray n }={ cls:=.type "list",data:=.seq (its.set j u).toArray n }:=by
 simp [Obj.mapSeq]
theorem Inv.lst {pins:List (Addr×Obj)}{σ:St}{H:Hp}{s:Shared}{p:Addr}{xs:List V} (I:Inv X pins σ H s) (h:H p=some (.lst xs)) :
  ∃ (its:List Value) (n:Nat),Vals xs its∧s.heap.get? p=some { cls:=.type "list",data:=.seq its.toArray n }∧xs.length≤sizeLine:=by
 obtain⟨z,its,n,r,e⟩:=I.hok p _ h
 exact⟨its,n,r,e,z⟩
theorem Inv.aic {pins:List (Addr×Obj)}{σ:St}{H:Hp}{s:Shared}{p:Addr}{xs ys:List V}{its its':List Value}{n n':Nat}{f:Obj→Obj} (I:Inv X pins σ H s) (h:H p=some (.lst xs))
  (ho:s.heap.get? p=some { cls:=.type "list",data:=.seq its.toArray n }) (hf:f { cls:=.type "list",data:=.seq its.toArray n }={ cls:=.type "list",data:=.seq its'.toArray n' }) (r:Vals ys its') (hz:ys.length≤sizeLine) (t:Nat) :
  Inv X pins σ (upd H p (.lst ys)) { s with heap:=s.heap.update p f,toks:=t }:=by
 have e:(s.heap.update p f).get? p=some { cls:=.type "list",data:=.seq its'.toArray n' }:=by
  rw [Heap.get?_update_self f ho (by rw [hf] <;> rfl),hf]
 refine I.write (x:=p) (e:=p) (by rw [h]; trivial) (.inl rfl) (fun b u hb q=>(Heap.get?_update_other _ _ (Ne.symm hb)).trans q) ⟨_,e⟩ ?_
 exact⟨hz,its',n',r,e⟩
def ajY:V→V→V→Hp→(Hp→Prop)→Prop:=fun o i v H Q=>∃ p xs k j,o=.ref p∧i=.int k∧H p=some (.lst xs)∧ixN xs.length k=some j∧Q (upd H p (.lst (xs.set j v)))
theorem set_list:X4 X ajY:=by
 intro pins s σ H o i v ov iv u Q I ro ri rv h
 obtain⟨p,xs,k,j,rfl,rfl,hp,hj,q⟩:=h
 cases ro
 obtain⟨t,rfl⟩:=ri
 obtain⟨its,n,r,ho,hz⟩:=I.lst hp
 obtain⟨h1,h2,h3,h4⟩:=ixN_seq hj
 have hl:=r.length
 have hn:=line63
 have I':Inv X pins σ (upd H p (.lst (xs.set j v))) { s with heap:=s.heap.update p (Obj.mapSeq (·.setIfInBounds j u)) } :=
  I.aic hp ho (aa9 its n j u) (r.set rv j) (by rw [List.length_set]; exact hz) s.toks
 by_cases h0:0≤k
 ·have hk:k.toNat=j:=by
   rw [seqIndex_of h0 h4] at h1
   exact Option.some.inj h1
  exact PySem.W.ki_setAt ho h0 (by lia) (by rw [List.size_toArray,← hl]; exact h4) (by rw [hk]; exact⟨_,I',q⟩)
 ·have hk:(k+(its.toArray.size:Int)).toNat=j:=by
   rw [seqIndex_neg (by lia) h3] at h1
   rw [List.size_toArray,← hl]
   exact Option.some.inj h1
  exact PySem.W.ki_setBack ho (by lia) (by rw [List.size_toArray,← hl]; exact h3) (by lia) (by rw [hk]; exact⟨_,I',q⟩)
theorem U_ (lo hi:Option Int) (n:Nat):(sliceBounds lo hi none n).1=((HT.sIx n 0 lo:Nat):Int)∧(sliceBounds lo hi none n).2.1=((HT.sIx n n hi:Nat):Int)∧(sliceBounds lo hi none n).2.2=1:=by
 refine⟨?_,?_,rfl⟩
 ·cases lo with
  | none=>simp [sliceBounds,HT.sIx]
  | some i =>
   simp only [sliceBounds,HT.sIx,Option.getD_none,show (1:Int) > 0 by decide,if_true]
   by_cases h:i<0
   ·simp only [h,if_true] <;> lia
   ·simp only [h,if_false] <;> lia
 ·cases hi with
  | none=>simp [sliceBounds,HT.sIx]
  | some i =>
   simp only [sliceBounds,HT.sIx,Option.getD_none,show (1:Int) > 0 by decide,if_true]
   by_cases h:i<0
   ·simp only [h,if_true] <;> lia
   ·simp only [h,if_false] <;> lia
theorem SJ (its:List Value) (lo hi:Option Int):slicePick its.toArray lo hi none=((its.drop (HT.sIx its.length 0 lo)).take (HT.sIx its.length its.length hi - HT.sIx its.length 0 lo)).toArray:=by
 obtain⟨h1,h2,h3⟩:=U_ lo hi its.toArray.size
 unfold slicePick
 rw [h1,h2,h3]
 simp only [sliceRange_one,pick_run,List.size_toArray] <;> rfl
def ale (K:PySem.W.Frag):V→Option Int→Option Int→Hp→VK→Prop:=fun x lo hi H Q=>∃ a xs,x=.ref a∧SqL K H a xs∧∀ p,H p=none→Q (.ref p) (upd H p (.lst (pB xs lo hi)))
theorem afX:SlR X (ale X.K):=by
 intro pins s σ H x v vl vu lo hi sl Q I rx hs pl pu h
 obtain⟨a,xs,rfl,hx,q⟩:=h
 cases rx
 obtain⟨its,r,ht,hz⟩:=I.list hx
 have hlen:=r.length
 refine⟨"list",_,slot_list_getitem.lookup,ht.isList.typeIs,?_⟩
 refine wpAny_getItem_list_slice ht.isList hs pl pu .none (by simp) ?_ (by rw [List.size_toArray] <;> lia)
 rw [SJ,← hlen]
 refine⟨.ref s.heap.objs.size,_,I.laid (t':=s.toks) (o:=.lst (pB xs lo hi)) (fun b ob q=>Heap.get?_push_of_some _ q) (Nat.le_refl _) ?_,rfl,q _ (I.hok.fresh (Nat.le_refl _))⟩
 exact⟨Nat.le_trans (nJ xs lo hi) hz,_,0,(r.drop (HT.sIx xs.length 0 lo)).take (HT.sIx xs.length xs.length hi - HT.sIx xs.length 0 lo),Heap.get?_push_size _ rfl⟩
def Ja:V→Bool
 | .non=>true
 | .bl _=>true
 | .int _=>true
 | .str _=>true
 | _=>false
def eqV:V→V→Bool
 | .non,.non=>true
 | .bl a,.bl b=>a == b
 | .bl a,.int b=>(if a then 1 else 0) == b
 | .int a,.bl b=>a == (if b then 1 else 0)
 | .int a,.int b=>a == b
 | .str a,.str b=>a == b
 | _,_=>false
theorem aiC {A:Around}{s:Shared}{y x:V}{u v:Value} (ry:RelV y u) (rx:RelV x v) (fy:Ja y=true) (fx:Ja x=true):SeqAt.EqAt A s u v (eqV y x):=by
 cases y with
 | non =>
  cases ry
  cases x with
  | non=>cases rx; exact SeqAt.EqAt.same _
  | bl b=>cases rx; exact SeqAt.EqAt.none_bool b
  | int b=>obtain⟨t,rfl⟩:=rx; exact SeqAt.EqAt.none_int b t
  | str b=>obtain⟨t,rfl⟩:=rx; exact SeqAt.EqAt.none_str b t
  | _=>exact absurd (show false=true from fx) Bool.false_ne_true
 | bl a =>
  cases ry
  cases x with
  | non=>cases rx; exact SeqAt.EqAt.bool_none a
  | bl b=>cases rx; exact SeqAt.EqAt.bool_bool a b
  | int b=>obtain⟨t,rfl⟩:=rx; exact SeqAt.EqAt.bool_int a b t
  | str b=>obtain⟨t,rfl⟩:=rx; exact SeqAt.EqAt.bool_str a b t
  | _=>exact absurd (show false=true from fx) Bool.false_ne_true
 | int a =>
  obtain⟨t',rfl⟩:=ry
  cases x with
  | non=>cases rx; exact SeqAt.EqAt.int_none a t'
  | bl b=>cases rx; exact SeqAt.EqAt.int_bool a t' b
  | int b=>obtain⟨t,rfl⟩:=rx; exact SeqAt.EqAt.int_int a t' b t
  | str b=>obtain⟨t,rfl⟩:=rx; exact SeqAt.EqAt.int_str a t' b t
  | _=>exact absurd (show false=true from fx) Bool.false_ne_true
 | str a =>
  obtain⟨t',rfl⟩:=ry
  cases x with
  | non=>cases rx; exact SeqAt.EqAt.str_none a t'
  | bl b=>cases rx; exact SeqAt.EqAt.str_bool a t' b
  | int b=>obtain⟨t,rfl⟩:=rx; exact SeqAt.EqAt.str_int a t' b t
  | str b=>obtain⟨t,rfl⟩:=rx; exact SeqAt.EqAt.str_str a t' b t
  | _=>exact absurd (show false=true from fx) Bool.false_ne_true
 | _=>exact absurd (show false=true from fy) Bool.false_ne_true
def eqU (x:V) (u:Value):Bool:=match u with
 | .none=>eqV .non x
 | .bool b=>eqV (.bl b) x
 | .int i _=>eqV (.int i) x
 | .str z _=>eqV (.str z) x
 | _=>false
theorem adk {x y:V}{u:Value} (r:RelV y u) (f:Ja y=true):eqU x u=eqV y x:=by
 cases y with
 | non=>cases r; rfl
 | bl b=>cases r; rfl
 | int i=>obtain⟨t,rfl⟩:=r; rfl
 | str z=>obtain⟨t,rfl⟩:=r; rfl
 | _=>exact absurd (show false=true from f) Bool.false_ne_true
theorem V4 {A:Around}{s:Shared}{x:V}{v:Value} (rx:RelV x v) (fx:Ja x=true):∀ {xs:List V}{us:List Value},Vals xs us→xs.all Ja=true→∀ u∈us,SeqAt.EqAt A s u v (eqU x u)
 | _,_,.nil,_=>fun u hu=>by cases hu
 | y::xs,u::us,.cons r t,f=>fun u' hu=>by
  rw [List.all_cons,Bool.and_eq_true] at f
  rcases List.mem_cons.mp hu with rfl | hu
  ·rw [adk r f.1]; exact aiC r rx f.1 fx
  ·exact V4 rx fx t f.2 u' hu
theorem call_len_seq:CallR X (.builtin "len") (fun xs H Q=>∃ p ys,xs=[.ref p]∧(SqL X.K H p ys∨SqT X.K H p ys)∧Q (.int ys.length) H):=by
 intro pins s σ H xs us Q I r h
 obtain⟨p,ys,rfl,hq,q⟩:=h
 obtain⟨u,rfl,rx⟩:=vals1 r
 cases rx
 have hn:=line63
 rcases hq with hq | hq
 ·obtain⟨its,r',pl,hz⟩:=I.list hq
  have hlen:=r'.length
  exact Calls.call_len_list pl.isList (by simp only [List.size_toArray] <;> lia) ⟨.int ys.length,H,I.tok _,⟨s.toks+1,by rw [List.size_toArray,hlen]⟩,q⟩
 ·obtain⟨its,r',pl,hz⟩:=I.tuple hq
  have hlen:=r'.length
  exact len_tuple pl (by simp only [List.size_toArray] <;> lia) ⟨.int ys.length,H,I.tok _,⟨s.toks+1,by rw [List.size_toArray,hlen]⟩,q⟩
theorem fK:CallR X (.type "tuple") (fun xs H Q=>∃ p ys,xs=[.ref p]∧((SqL X.K H p ys∧∀ l,H l=none→Q (.ref l) (upd H l (.tup ys)))∨(SqT X.K H p ys∧Q (.ref p) H))):=by
 intro pins s σ H xs us Q I r h
 obtain⟨p,ys,rfl,h⟩:=h
 obtain⟨u,rfl,rx⟩:=vals1 r
 cases rx
 rcases h with⟨hq,q⟩ | ⟨hq,q⟩
 ·obtain⟨its,r',pl,hz⟩:=I.list hq
  have hlen:=r'.length
  refine call_tuple_list pl.isList (fun h' kp=>?_) (by simp only [List.size_toArray] <;> lia)
  have I1:Inv X pins σ H { s with heap:=h' }:=I.kept (t':=s.toks) kp
  have I2:Inv X pins σ (upd H h'.objs.size (.tup ys)) { s with heap:=h'.push { cls:=.type "tuple",data:=.seq its.toArray } } :=
   I1.laid (t':=s.toks) (fun b o e=>Heap.get?_push_of_some _ e) (Nat.le_refl _) (show ObjOk X.prog X.w _ _ _ (.tup ys) from ⟨hz,its,r',IsTup.new _ _⟩)
  exact⟨.ref h'.objs.size,_,I2,rfl,q _ (I1.hok.fresh (Nat.le_refl _))⟩
 ·obtain⟨its,r',pl,hz⟩:=I.tuple hq
  exact call_tuple_same pl ⟨.ref p,H,I,rfl,q⟩
def tyV (K:PySem.W.Frag) (T:String) (x:V) (H:Hp):Prop:=match x with
 | .str _=>T="str"
 | .int _=>T="int"
 | .ref p=>(T="list"∧∃ xs,SqL K H p xs)∨(T="tuple"∧∃ o,K.lookup p=some o∧o.cls=.type "tuple"∧o.dict=none) ∨
   (T="dict"∧((∃ kvs,H p=some (.dK kvs))∨∃ kvs,H p=some (.dT kvs)))∨(T="set"∧∃ S n,H p=some (.set S n))
 | _=>False
theorem ab8 {pins:List (Addr×Obj)}{σ:St}{H:Hp}{s:Shared}{T:String}{x:V}{v:Value} (I:Inv X pins σ H s) (r:RelV x v) (ty:tyV X.K T x H) :
  s.TypeIs v T∧∀ a,v=.ref a→∃ ob,s.heap.get? a=some ob∧ob.dict=none:=by
 cases x with
 | str z =>
  obtain⟨t,rfl⟩:=r
  cases (show T="str" from ty)
  exact⟨typeIs_str s z t,fun _ e=>nomatch e⟩
 | int i =>
  obtain⟨t,rfl⟩:=r
  cases (show T="int" from ty)
  exact⟨typeIs_int s i t,fun _ e=>nomatch e⟩
 | ref p =>
  cases r
  rcases ty with⟨rfl,xs,hq⟩ | ⟨rfl,o,hk,hc,hd⟩ | ⟨rfl,hk⟩ | ⟨rfl,S,n,hk⟩
  ·obtain⟨its,_,pl,_⟩:=I.list hq
   refine⟨pl.isList.typeIs,fun a e=>?_⟩
   cases e
   obtain⟨o,n,e,c,hd,_⟩:=pl
   exact⟨o,e,hd⟩
  ·refine⟨⟨o,I.kIn p o hk,hc⟩,fun a e=>?_⟩
   cases e
   exact⟨o,I.kIn _ o hk,hd⟩
  ·have z:∃ o,s.heap.get? p=some o∧o.ExactDict:=by
    rcases hk with⟨kvs,hk⟩ | ⟨kvs,hk⟩
    ·obtain⟨_,_,_,_,o,_,_,e,ex,_⟩:=I.hok p _ hk
     exact⟨o,e,ex⟩
    ·obtain⟨_,_,_,_,o,_,_,e,ex,_⟩:=I.hok p _ hk
     exact⟨o,e,ex⟩
   obtain⟨o,e,ex⟩:=z
   refine⟨⟨o,e,ex.1⟩,fun a e2=>?_⟩
   cases e2
   exact⟨o,e,ex.2.1⟩
  ·obtain⟨o,_,_,_,e,ex,_⟩:=I.hok p _ hk
   refine⟨⟨o,e,ex.1⟩,fun a e2=>?_⟩
   cases e2
   exact⟨o,e,ex.2.1⟩
 | _=>exact False.elim ty
def ahg (K:PySem.W.Frag) (T:String) (r:V→List V→Hp→VK→Prop) (to:TE):TE:=fun σ H Q=>to σ H fun x H1=>tyV K T x H1∧r x [] H1 Q
def tBM (K:PySem.W.Frag) (T:String) (r:V→List V→Hp→VK→Prop) (to:TE) (t:TA):TE:=fun σ H Q=>to σ H fun x H1=>tyV K T x H1∧t σ H1 fun xs H2=>r x xs H2 Q
variable {o e:Expr}{es:List Expr}{to:TE}{t:TA}{name:Str}{apos cpos:Pos}{T id:String}{r:V→List V→Hp→VK→Prop}
theorem ahT (pa:PlainAttrs T) (slot:Slot T name id) (hty:typeOf (.builtin id)=pure (.type "method_descriptor")) (hm:MtR X id r) (ho:PE X o to)
  (hbase:attributeBase o name X.env (eval o X.env)=eval o X.env:=by rfl) (hline:(apos.endLine == cpos.line)=true:=by rfl):PE X (.Call (.Attribute o name apos) [] [] cpos) (ahg X.K T r to):=by
 intro pins s σ H Q I h
 refine wpAny_Call_method0_late hbase hline (thn (ho pins s σ H _ I h) fun v s1 ⟨x,H1,I1,r1,ty,q1⟩=>?_)
 obtain⟨h1,h2⟩:=ab8 I1 r1 ty
 exact⟨T,id,pa,slot,hty,h1,h2,Calls.callWith_builtin rfl (PySem.evalArgs_none (hm pins s1 σ H1 x [] v [] Q I1 r1 .nil q1))⟩
theorem aj9 (pa:PlainAttrs T) (slot:Slot T name id) (hty:typeOf (.builtin id)=pure (.type "method_descriptor")) (hm:MtR X id r) (ho:PE X o to) (ha:PA X (e::es) t)
  (hbase:attributeBase o name X.env (eval o X.env)=eval o X.env:=by rfl)
  (hfew:((backTo cpos (starEach (e::es) X.env)).all (fun x=>!x.1) && (backToKw cpos (keywordEach [] X.env)).all (fun x=>x.1.isSome)
   && decide ((e::es).length+([]:List Keyword).length+(if ([]:List Keyword).isEmpty then 0 else 1)<30))=true:=by rfl)
  (hline:(apos.endLine == cpos.line)=true:=by rfl) (hs:starEach (e::es) X.env=(false,eval e X.env)::starEach es X.env:=by rfl) (hplain:(backTo cpos (starEach es X.env)).any (·.1)=false:=by rfl) :
  PE X (.Call (.Attribute o name apos) (e::es) [] cpos) (tBM X.K T r to t):=by
 intro pins s σ H Q I h
 refine wpAny_Call_method_late hbase hfew hline rfl (thn (ho pins s σ H _ I h) fun v s1 ⟨x,H1,I1,r1,ty,q1⟩=>?_)
 obtain⟨h1,h2⟩:=ab8 I1 r1 ty
 refine⟨T,id,pa,slot,hty,h1,h2,?_⟩
 have hA:=ha cpos pins s1 σ H1 _ I1 q1
 rw [hs] at hA ⊢
 refine Calls.callWith_builtin (by show (false || (backTo cpos (starEach es X.env)).any (·.1))=false; rw [hplain] <;> rfl) (Calls.evalArgs_plain ?_)
 exact thn hA fun us s2 ⟨vs,H2,I2,r2,q2⟩=>hm pins s2 σ H2 x vs v us Q I2 r1 r2 q2
end
def MtM (X:Cx) (id:String) (r:V→List V→Hp→VK→Prop):Prop :=
 ∀ (pins:List (Addr×Obj)) (s:Shared) (σ:St) (H:Hp) (x:V) (xs:List V) (v:Value) (us:List Value) (Q:VK),Inv X pins σ H s→RelV x v→Vals xs us→r x xs H Q →
  wpAny (model X.prog X.w) X.A (call (.builtin id) (v::us)) (EP X pins σ Q) X.xe s
theorem Vals.one:∀ {x:V}{us:List Value},Vals [x] us→∃ u,us=[u]∧RelV x u
 | _,_,.cons r .nil=>⟨_,rfl,r⟩
theorem Vals.zero:∀ {us:List Value},Vals [] us→us=[]
 | _,.nil=>rfl
theorem Vals.dropLast {xs:List V}{us:List Value} (h:Vals xs us):Vals xs.dropLast us.dropLast:=by
 induction h with
 | nil=>exact .nil
 | cons r t ih =>
  cases t with
  | nil=>exact .nil
  | cons q t'=>exact .cons r ih
theorem Vals.eraseIdx:∀ {xs:List V}{us:List Value} (i:Nat),Vals xs us→Vals (xs.eraseIdx i) (us.eraseIdx i)
 | _,_,_,.nil=>.nil
 | _,_,0,.cons _ t=>t
 | _,_,i+1,.cons r t=>.cons r (Vals.eraseIdx i t)
theorem Vals.reverse {xs:List V}{us:List Value} (h:Vals xs us):Vals xs.reverse us.reverse:=by
 induction h with
 | nil=>exact .nil
 | cons r t ih=>rw [List.reverse_cons,List.reverse_cons]; exact Vals.append ih (.cons r .nil)
theorem Vals.rep {xs:List V}{us:List Value} (h:Vals xs us):∀ k:Nat,Vals (List.replicate k xs).flatten (List.replicate k us).flatten
 | 0=>.nil
 | k+1=>by
  rw [List.replicate_succ,List.replicate_succ,List.flatten_cons,List.flatten_cons]
  exact Vals.append h (Vals.rep h k)
theorem abt {α:Type} (l:List α):l.eraseIdx (l.length - 1)=l.dropLast:=by
 induction l with
 | nil=>rfl
 | cons a r ih =>
  cases r with
  | nil=>rfl
  | cons b r =>
   have e:(a::b::r).length - 1=((b::r).length - 1)+1:=by
    have h1:(a::b::r).length=r.length+2:=rfl
    have h2:(b::r).length=r.length+1:=rfl
    lia
   rw [e,List.eraseIdx_cons_succ,ih]
   all_goals rfl
theorem R8 {α:Type}:∀ (l:List α) (i:Nat),(l.eraseIdx i).length≤l.length
 | [],_=>Nat.le_refl _
 | _::_,0=>Nat.le_succ _
 | _::r,i+1=>Nat.succ_le_succ (R8 r i)
theorem foldl_rep (its:List Value):∀ (k:Nat) (acc:List Value),
  List.foldl (fun x1 x2=>x1++x2) acc.toArray (List.replicate k its.toArray)=(acc++(List.replicate k its).flatten).toArray
 | 0,acc=>by simp
 | k+1,acc=>by
  have e:acc.toArray++its.toArray=(acc++its).toArray:=by simp
  have e2:(acc++its)++(List.replicate k its).flatten=acc++(List.replicate (k+1) its).flatten:=by
   rw [List.replicate_succ,List.flatten_cons,List.append_assoc]
  rw [← e2,← foldl_rep its k (acc++its),← e,List.replicate_succ,List.foldl_cons]
section
variable {X:Cx}{pins:List (Addr×Obj)}{σ:St}{H:Hp}{s:Shared}{l b:Addr}{xs ys zs:List V}
theorem Inv.Wi {its its':List Value}{n:Nat}{f:Array Value→Array Value}{t':Nat} (I:Inv X pins σ H s) (hH:H l=some (.lst xs))
  (e:s.heap.get? l=some { cls:=.type "list",data:=.seq its.toArray n }) (hf:f its.toArray=its'.toArray) (hv:Vals ys its') (hz:ys.length≤sizeLine) :
  Inv X pins σ (upd H l (.lst ys)) { s with heap:=s.heap.update l (Obj.mapSeq f),toks:=t' }:=by
 have q:=PySem.IsL.update e f
 rw [hf] at q
 refine I.write (x:=l) (e:=l) (by rw [hH]; exact trivial) (.inl rfl) (fun b' u hb hu=>(Heap.get?_update_other s.heap (Obj.mapSeq f) (Ne.symm hb)).trans hu) ⟨_,q⟩ ?_
 exact⟨hz,its',_,hv,q⟩
theorem Inv.lnew {its:List Value}{t':Nat} (I:Inv X pins σ H s) (hv:Vals ys its) (hz:ys.length≤sizeLine) :
  Inv X pins σ (upd H s.heap.objs.size (.lst ys)) { s with heap:=s.heap.push { cls:=.type "list",data:=.seq its.toArray },toks:=t' } :=
 I.laid (fun _ _ q=>Heap.get?_push_of_some _ q) (Nat.le_refl _) ⟨hz,its,0,hv,Heap.get?_push_size _ rfl⟩
theorem Inv.fresh (I:Inv X pins σ H s):H s.heap.objs.size=none:=I.hok.fresh (Nat.le_refl _)
theorem Inv.lstM (I:Inv X pins σ H s) (hH:H l=some (.lst xs)):xs.length≤sizeLine∧∃ (its:List Value) (n:Nat),Vals xs its∧xs.length=its.length∧s.heap.get? l=some { cls:=.type "list",data:=.seq its.toArray n }:=by
 obtain⟨z,its,n,r,e⟩:=I.hok l _ hH
 exact⟨z,its,n,r,r.length,e⟩
theorem K3 {n:Nat} (h:n≤sizeLine):Builtin.List.listTooLong n=false:=by
 unfold Builtin.List.listTooLong
 exact decide_eq_false (by lia)
end
section
variable {X:Cx}
def af7:V→List V→Hp→VK→Prop:=fun x vs H Q=>∃ l xs y,x=.ref l∧vs=[y]∧H l=some (.lst xs)∧xs.length<sizeLine∧Q .non (upd H l (.lst (xs++[y])))
theorem cP:MtM X "list.append" af7:=by
 intro pins s σ H x vs v us Q I rx rv h
 obtain⟨l,xs,y,rfl,rfl,hH,hz,q⟩:=h
 cases rx
 obtain⟨u,rfl,ru⟩:=rv.one
 obtain⟨z,its,n,r,hl,e⟩:=I.lstM hH
 refine call_meets F.slot_list_append ⟨_,e,rfl⟩ F.entry_list_append (F.args_list_append_2 _ _) (PySem.list_append l its.toArray n u (by rw [List.size_toArray]; lia)) ⟨e,?_⟩
 refine⟨.non,_,I.Wi (its':=its++[u]) hH e (by simp) (r.append (.cons ru .nil)) ?_,rfl,q⟩
 rw [List.length_append,List.length_singleton]
 lia
def alg:V→List V→Hp→VK→Prop:=fun x vs H Q=>∃ l xs y,x=.ref l∧vs=[]∧H l=some (.lst xs)∧xs[xs.length - 1]?=some y∧Q y (upd H l (.lst xs.dropLast))
theorem sI:MtM X "list.pop" alg:=by
 intro pins s σ H x vs v us Q I rx rv h
 obtain⟨l,xs,y,rfl,rfl,hH,hy,q⟩:=h
 cases rx
 have hus:=rv.zero
 subst hus
 obtain⟨z,its,n,r,hl,e⟩:=I.lstM hH
 obtain⟨u,hu,ru⟩:=r.get hy
 have hy':its.toArray[its.toArray.size - 1]?=some u:=by
  show its.toArray[its.length - 1]?=some u
  rw [← Array.getElem?_toList,← hl]
  exact hu
 refine call_meets F.slot_list_pop ⟨_,e,rfl⟩ F.entry_list_pop (F.args_list_pop_1 _) (MeetsSeq.list_pop_last l its.toArray n u hy' (by rw [List.size_toArray]; lia)) ⟨e,?_⟩
 refine⟨y,_,I.Wi (its':=its.dropLast) hH e ?_ r.dropLast ?_,ru,q⟩
 ·show its.toArray.eraseIdxIfInBounds (its.toArray.size - 1)=its.dropLast.toArray
  rw [List.size_toArray,List.eraseIdxIfInBounds_toArray,abt]
 ·rw [List.length_dropLast]
  lia
def ahx:V→List V→Hp→VK→Prop:=fun x vs H Q=>∃ l xs i k y,x=.ref l∧vs=[.int i]∧H l=some (.lst xs)∧-(2 ^ 63)≤i∧i<2 ^ 63∧seqIndex? i xs.length=some k∧xs[k]?=some y∧Q y (upd H l (.lst (xs.eraseIdx k)))
theorem K5:MtM X "list.pop" ahx:=by
 intro pins s σ H x vs v us Q I rx rv h
 obtain⟨l,xs,i,k,y,rfl,rfl,hH,h1,h2,hk,hy,q⟩:=h
 cases rx
 obtain⟨u,rfl,ru⟩:=rv.one
 obtain⟨t,rfl⟩:=ru
 obtain⟨z,its,n,r,hl,e⟩:=I.lstM hH
 obtain⟨w,hw,rw'⟩:=r.get hy
 refine call_meets F.slot_list_pop ⟨_,e,rfl⟩ F.entry_list_pop (F.args_list_pop_2 _ _)
  (MeetsSeq.list_pop_at l its.toArray n i t k w (fitsIndex_both h1 h2) (by rw [List.size_toArray,← hl]; exact hk) (by rw [← Array.getElem?_toList]; exact hw) (by rw [List.size_toArray]; lia)) ⟨e,?_⟩
 refine⟨y,_,I.Wi (its':=its.eraseIdx k) hH e ?_ (r.eraseIdx k) ?_,rw',q⟩
 ·show its.toArray.eraseIdxIfInBounds k=(its.eraseIdx k).toArray
  rw [List.eraseIdxIfInBounds_toArray]
 ·have:=R8 xs k
  lia
def alf:R2:=fun x y H Q=>∃ l k xs,x=.ref l∧y=.int k∧H l=some (.lst xs)∧-(2 ^ 63)≤k∧k<2 ^ 63∧xs.length * k.toNat≤sizeLine ∧
 ∀ p,H p=none→Q (.ref p) (upd H p (.lst (List.replicate k.toNat xs).flatten))
theorem len_rep {α:Type} (xs:List α) (k:Nat):(List.replicate k xs).flatten.length=k * xs.length:=by
 induction k with
 | zero=>simp
 | succ k ih=>rw [List.replicate_succ,List.flatten_cons,List.length_append,ih,Nat.succ_mul,Nat.add_comm]
theorem ahW:OpR X (binaryOp .Mult) alf:=by
 intro pins s σ H x y v u Q I rx ry h
 obtain⟨l,k,xs,rfl,rfl,hH,h1,h2,hz,q⟩:=h
 cases rx
 obtain⟨t,rfl⟩:=ry
 obtain⟨z,its,n,r,hl,e⟩:=I.lstM hH
 have hlen:its.toArray.size * k.toNat≤sizeLine:=by rw [List.size_toArray,← hl]; exact hz
 have hcap:¬ its.toArray.size * k.toNat > (2 ^ 63 - 1) / 8:=by
  have:(sizeLine:Nat)≤(2 ^ 63 - 1) / 8:=by decide
  lia
 have hfit:¬ (!Builtin.List.listFitsIndex k)=true:=by
  rw [fitsIndex_both h1 h2]
  exact Bool.false_ne_true
 have abo:¬ Builtin.List.listTooLong (its.toArray.size * k.toNat)=true:=by
  rw [K3 hlen]
  exact Bool.false_ne_true
 have hnew:List.foldl (fun x1 x2=>x1++x2) #[] (List.replicate (if its.toArray.isEmpty=true then 0 else k.toNat) its.toArray)=(List.replicate k.toNat its).flatten.toArray:=by
  have f0:∀ m:Nat,List.foldl (fun x1 x2=>x1++x2) #[] (List.replicate m its.toArray)=(List.replicate m its).flatten.toArray:=fun m=>by
   have:=foldl_rep its m []
   rw [List.nil_append] at this
   exact this
  rw [f0]
  cases its with
  | nil=>simp
  | cons a r'=>rw [if_neg (by simp)]
 refine wpAny_binaryOp_repeat_ref (T:="list") (U:="int") (by decide) ⟨_,e,rfl⟩ (fun s'=>typeIs_int s' k t) noFill_list_mul F.fills_int_mul F.slot_int_rmul repeat_list F.slot_int_index.lookup
  (call_meets F.slot_int_rmul (typeIs_int s k t) F.entry_int_rmul (F.args_int_rmul_2 _ _) (int___rmul___int_list k t l its.toArray n)
   ⟨e,rfl,⟨_,e,rfl⟩,call_meets F.slot_list_mul ⟨_,e,rfl⟩ F.entry_list_mul (F.args_list_mul_2 _ _) (AutoListH.list___mul___list_int_3 l its.toArray n k t hfit hcap abo) ⟨e,?_⟩⟩)
 rw [hnew]
 exact⟨.ref _,_,I.lnew (t':=s.toks) (r.rep k.toNat) (by rw [len_rep,Nat.mul_comm]; exact hz),rfl,q _ I.fresh⟩
end
section
variable {prog:Program}{w:World}{A:Around}{E:Value→Shared→Prop}{s:Shared}
end
section
variable {X:Cx}
end
end L2
namespace Att
open PySem PySem.W PySem.Calls PyProof.Rows
theorem ints_of_wellAll {P:Params}{h:Heap}:∀ (ns:List Int) (vs:List Value),WellAll P h vs (ns.map WData.int)→IntsAre vs ns:=by
 intro ns
 induction ns with
 | nil =>
  intro vs w
  rw [List.map_nil] at w
  cases w
  exact .nil
 | cons n ns ih =>
  intro vs w
  rw [List.map_cons] at w
  cases w with
  | cons a b =>
   cases a
   exact .cons _ _ (ih _ b)
theorem script_of {l:OpenLaw}{n:Nat} (hn:l.most=some n) {P:Params}{h:Heap}{args:List WData}{vals:List Value}
  (hpre:l.row.toRowW.claim.pre args=true) (hwl:WellAll P h vals args) :
  ∃ a vs ns,vals=[Value.ref a]∧args=[WData.list (ns.map WData.int)]∧h.get? a=some { cls:=.type "list",data:=.seq vs.toArray }∧IntsAre vs ns∧ns.length≤n:=by
 have hsh:WShape.hasAll [] args [.list .int]=true:=(pre_splitW hpre).1
 have hc:l.pre.holds [] { args:=args }=true:=(pre_splitW hpre).2
 obtain⟨d,r,rfl,h1,h2⟩:=hasAllW_cons hsh
 obtain rfl:=hasAllW_nil h2
 obtain⟨xs,rfl,h3⟩:=hasW_list h1
 obtain⟨ns,rfl⟩:=items_int h3
 have hlen:ns.length≤n:=by
  unfold OpenLaw.pre at hc
  have h4:(WTm.not (.lt (.lit (.int (n:Int))) (.len (.arg 0)))).holds [] { args:=[.list (ns.map .int)] }=true:=by
   have h4:=(holds_andW hc).1
   rw [hn] at h4
   exact h4
  have h5:=condW_of h4 (w_not (w_lt w_lit (w_len_list (w_arg rfl))))
  rw [List.length_map] at h5
  refine Nat.le_of_not_lt fun q=>?_
  have q':(n:Int)<((ns.length:Nat):Int):=by lia
  first
   | (rw [decide_eq_true q'] at h5; exact absurd h5 (by decide))
   | (simp at h5; lia)
 cases hwl with
 | cons w1 w2 =>
  cases w2
  cases w1 with
  | list ho hall=>exact⟨_,_,ns,rfl,rfl,ho,ints_of_wellAll ns _ hall,hlen⟩
theorem post_true (l:OpenLaw) (args:List WData):l.row.toRowW.claim.post args (.bool true) args=true :=
 postW_of (r:=l.row.toRowW) (X:=(true == true))
  (show WShape.has [] (.bool true) .bool=true by first | rfl | decide | simp [WShape.has,WShape.arms,WShape.armsAll])
  (show (WTm.eq .res (.lit (.bool true))).value [] { args:=args,res:=some (.bool true),after:=args }=some (.bool (true == true)) from w_eq_bool (w_res rfl) w_lit) rfl
theorem attach_call {l:OpenLaw}{n:Nat}{q:Program}{loose:List Str}{XP:(Str→Option Value)→Heap→Prop}{YP:World→Heap→Prop}{d:DefRec}
  (hn:l.most=some n) (hdf:d.params.defaults=[])
  (call:∀ (w:World) (s₀ s₁:Shared) (mg mb:Str→Option Value) (fa:Addr) (o:Obj) (pm cd doc:Value) (a:Addr) (vs:List Value) (ns:List Int),
   Ground q loose [] XP w s₀ mg mb s₁.heap→YP w s₁.heap →
   s₁.heap.get? fa=some o→o.data=.func (docDef d.name d.params d.body d.scope pm cd doc)→s₁.heap.CodeRec cd d.name→mg d.name=some (.ref fa) →
   s₁.heap.get? a=some { cls:=.type "list",data:=.seq vs.toArray }→IntsAre vs ns→ns.length≤n→s₁.gens=#[] →
   codeAny (model l.prog w) callerA (.call (.ref fa) ⟨[.ref a],[]⟩) (fun r s'=>r=.ok (.ret (.bool true))∧OldK s₁.heap s'.heap∧s'.os=s₁.os∧AllBare s'.gens) s₁) :
  WalkO q loose XP YP l.row.toRowW d [] (fun f vs=>PySem.call f vs):=by
 intro w s₀ s₁ mg mb G Y fa o pm cd doc dV kV ho hd hcd hD hmg hg args vals as hpre hlay hrd hwl hlo
 obtain rfl:dV=.none:=Dflts.none hD hdf
 obtain rfl:kV=.none:=Dflts.noKw hD
 obtain⟨a,vs,ns,rfl,rfl,hobj,hints,hlen⟩:=script_of hn hpre hwl
 refine enter_call (codeAny_mono (call w s₀ s₁ mg mb fa o pm cd doc a vs ns G Y ho (fd_plain hd) hcd hmg hobj hints hlen hg) fun r s' hq=>?_)
 obtain⟨rfl,h2,h3,h4⟩:=hq
 exact⟨.inl ⟨.bool true,.bool true,[],rfl,fun _=>rfl,.bool true,post_true l _,fun _=>⟨List.Pairwise.nil,fun _ hm=>(nomatch hm)⟩⟩,h2,h3,h4⟩
section
variable {prog:Program}{w:World}{A:Around}{E:Value→Shared→Prop}{s:Shared}{K:Frag}
end
end Att
namespace L2
open PySem PySem.Spec PyProof.Rows
theorem vals_ints:∀ {vs:List Value}{ns:List Int},IntsAre vs ns→Vals (ns.map V.int) vs
 | _,_,.nil=>.nil
 | _,_,.cons n t h=>.cons ⟨t,rfl⟩ (vals_ints h)
def Only (H:Hp):Prop:=∀ b,H b=none∨∃ o xs,H b=some (.frz o (.lst xs))
theorem law_call {P:Program}{w:World}{K:PySem.W.Frag}{mg mb:Str→Option Value}{CX:CXT}{k:Nat}{fa a:Addr}{fd:FuncData}{x:Str}{sp:Sp}{s₁:Shared}{vs:List Value}{ns:List Int}
  (KX:K.In s₁.heap) (hns:s₁.heap.Ns mainGlobals mg) (hb:s₁.heap.Ns builtinsNs mb) (hbb:∀ x:Str,x≠"__name__"→mb x=bootBuiltins x) (hlim:s₁.heap.NoLimit) (hg:s₁.gens=#[])
  (ha:s₁.heap.get? a=some { cls:=.type "list",data:=.seq vs.toArray }) (hi:IntsAre vs ns) (hl:ns.length≤sizeLine) (hr:Room k callerA)
  (F:∀ base:Heap,K.In base→base.Ns mainGlobals mg→FnOk P w K mg base CX k fa fd [x] sp) (hbind:∀ (s:Shared) (u:Value),BindsTo s fd ⟨[u],[]⟩ [(x,u)])
  (hsp:∀ H:Hp,Only H→SqL K H a (ns.map V.int)→sp [.ref a] H (fun v _=>v=.bl true) fun _ _ _=>False)
  (hCX:∀ H e s',CX [] H s₁ (fun _ _ _=>False) e s'→False) :
  codeAny (model P w) callerA (.call (.ref fa) ⟨[.ref a],[]⟩) (fun r s'=>r=.ok (.ret (.bool true))∧OldK s₁.heap s'.heap∧s'.os=s₁.os∧AllBare s'.gens) s₁:=by
 have rv:=vals_ints hi
 have lenV:=hi.length
 have core:∀ H:Hp,Only H→SqL K H a (ns.map V.int)→HOk P w H s₁.heap→(∀ b,H b≠none→b=a)→(H a≠none→K.lookup a=none) →
   codeAny (model P w) callerA (.call (.ref fa) ⟨[.ref a],[]⟩) (fun r s'=>r=.ok (.ret (.bool true))∧OldK s₁.heap s'.heap∧s'.os=s₁.os∧AllBare s'.gens) s₁:=by
  intro H hO hS hok hA hK
  have base_of:∀ {b:Addr}{o:Obj},s₁.heap.get? b=some o→H b=none→(hidT s₁.heap H).get? b=some o:=fun e n=>hidT_get e n
  have noA:∀ {b:Addr}{o:Obj}{es:Array DictEntry}{ep:Nat},s₁.heap.get? b=some o→o.data=.dict es ep→H b=none:=fun {b o es ep} e d=>by
   cases q:H b with
   | none=>rfl
   | some u =>
    have e':b=a:=hA b (by rw [q]; simp)
    subst e'
    rw [ha] at e; cases e
    have d':Data.seq vs.toArray _=Data.dict es ep:=d
    cases d'
  have nsK:∀ {b:Addr}{m:Str→Option Value},s₁.heap.Ns b m→(hidT s₁.heap H).Ns b m:=fun {b m} ⟨o,es,ep,e,d,r⟩=>⟨o,es,ep,base_of e (noA e d),d,r⟩
  have hKb:K.In (hidT s₁.heap H):=fun b o e=>base_of (KX b o e) (by
   cases q:H b with
   | none=>rfl
   | some u =>
    have e':b=a:=hA b (by rw [q]; simp)
    subst e'
    rw [hK (by rw [q]; simp)] at e; cases e)
  have hM:Mod K mg (hidT s₁.heap H):=⟨hKb,nsK hns,⟨mb,nsK hb,hbb⟩,let ⟨mc,h1,h2⟩:=hlim; ⟨mc,nsK h1,h2⟩⟩
  have e0:Env0 P w K mg (hidT s₁.heap H) callerA [] s₁ H:=⟨rfl,hM,fun b o e=>of_hidT e,Nat.le_of_eq (hidT_size _ _),trivial,fun b hb=>absurd (show b∈([]:List Addr) from hb) (by simp),hok,.of_eq hg⟩
  refine codeAny_mono ((F _ hKb (nsK hns)).run callerA [] s₁ H ⟨[.ref a],[]⟩ [.ref a] [.ref a] _ _ hr e0 (hbind s₁ (.ref a)) (.cons rfl .nil) (hsp H hO hS)) fun r s' h=>?_
  cases r with
  | error e=>exact (hCX H e s' h).elim
  | ok fl =>
   cases fl with
   | next=>exact False.elim h
   | brk=>exact False.elim h
   | cont=>exact False.elim h
   | ret u =>
    obtain⟨v,H',os,bare,un,hok',r',q⟩:=h
    have q':v=.bl true:=q
    subst q'
    obtain rfl:u=Value.bool true:=r'
    refine⟨rfl,OldK.of_keep fun b o e=>?_,os,bare⟩
    cases q:H b with
    | none=>exact un.keep b o e q (by intro z; exact absurd (show b∈([]:List Addr) from z) (by simp)) (by simp)
    | some u =>
     rcases hO b with z | ⟨ob,xs,z⟩
     ·rw [q] at z; cases z
     ·have z2:=un.frzs b ob _ z
      obtain⟨e1,_⟩:=hok b _ z
      obtain⟨e2,_⟩:=hok' b _ z2
      rw [e] at e1; cases e1
      exact e2
 cases hk:K.lookup a with
 | some o =>
  have e:=KX a o hk
  rw [ha] at e
  cases e
  refine core (fun _=>none) (fun _=>.inl rfl) (.inr ⟨_,vs.toArray,_,hk,rfl,rfl,rfl,by rw [List.size_toArray,lenV]; exact hl,by simpa using rv⟩) (fun b u z=>by have z':(none:Option HO)=some u:=z; cases z') (fun b z=>absurd rfl z) fun z=>absurd rfl z
 | none =>
  refine core (fun b=>if b=a then some (.frz { cls:=.type "list",data:=.seq vs.toArray } (.lst (ns.map V.int))) else none) (fun b=>?_) (.inl (.inr ⟨{ cls:=.type "list",data:=.seq vs.toArray },if_pos rfl⟩)) (fun b u z=>?_) (fun b z=>?_) fun _=>hk
  ·by_cases hb:b=a
   ·exact .inr ⟨_,_,if_pos hb⟩
   ·exact .inl (if_neg hb)
  ·by_cases hb:b=a
   ·have z':=(if_pos hb).symm.trans z
    cases z'
    subst hb
    exact⟨ha,by rw [List.length_map]; exact hl,vs,_,rv,ha⟩
   ·have z':=(if_neg hb).symm.trans z
    cases z'
  ·by_cases hb:b=a
   ·exact hb
   ·exact absurd (if_neg hb) z
theorem walk_of {l:PySem.W.OpenLaw}{n k:Nat}{q:Program}{loose:List Str}{XP:(Str→Option Value)→Heap→Prop}{YP:World→Heap→Prop}{d:DefRec}{K:Params→PySem.W.Frag}{CX:World→CXT}{sp:World→Sp}{x:Str}
  (hn:l.most=some n) (hn2:n≤sizeLine) (hdf:d.params.defaults=[]) (hr:Room k callerA)
  (hY:∀ (w:World) (h:Heap),YP w h→(K w.params).In h)
  (F:∀ (w:World) (mg:Str→Option Value) (fa:Addr) (h:Heap),(K w.params).In h→h.Ns mainGlobals mg→mg d.name=some (.ref fa) →
   ∃ fd:FuncData,(∀ (s:Shared) (u:Value),BindsTo s fd ⟨[u],[]⟩ [(x,u)]) ∧
    ∀ base:Heap,(K w.params).In base→base.Ns mainGlobals mg→FnOk l.prog w (K w.params) mg base (CX w) k fa fd [x] (sp w))
  (hsp:∀ (w:World) (H:Hp) (a:Addr) (ns:List Int),ns.length≤n→Only H→SqL (K w.params) H a (ns.map V.int)→sp w [.ref a] H (fun v _=>v=.bl true) fun _ _ _=>False)
  (hCX:∀ (w:World) (H:Hp) (s:Shared) (e:Value) (s':Shared),CX w [] H s (fun _ _ _=>False) e s'→False) :
  PySem.W.WalkO q loose XP YP l.row.toRowW d [] (fun f vs=>PySem.call f vs):=by
 refine Att.attach_call hn hdf fun w s₀ s₁ mg mb fa o pm cd doc a vs ns G Y ho hd hcd hmg hobj hints hlen hg=>?_
 have KX:=hY w _ Y
 obtain⟨fd,hb,hF⟩:=F w mg fa _ KX G.T.g hmg
 exact law_call KX G.T.g G.T.b G.T.builtins G.T.nolimit hg hobj hints (Nat.le_trans hlen hn2) hr hF hb (fun H hO hS=>hsp w H a ns hlen hO hS) fun H e s'=>hCX w H s₁ e s'
def inClass (s:Stmt) (j:Nat):Stmt:=match s with
 | .ClassDef _ _ _ body _ _ _ _ _ _ _=>body.getD j (.Pass ⟨0,0,0,0⟩)
 | _=>.Pass ⟨0,0,0,0⟩
def defArgs (s:Stmt):Arguments:=match s with
 | .FunctionDef _ a _ _ _ _ _ _ _ _=>a
 | _=>{ posonlyargs:=[],args:=[],vararg:=none,kwonlyargs:=[],kw_defaults:=[],kwarg:=none,defaults:=[] }
def defBody (s:Stmt):List Stmt:=match s with
 | .FunctionDef _ _ b _ _ _ _ _ _ _=>b
 | _=>[]
def defScope (s:Stmt):Scope:=match s with
 | .FunctionDef _ _ _ _ _ _ sc _ _ _=>sc
 | _=>{ kind:=.function,names:=[],isGenerator:=false,isCoroutine:=false }
abbrev CX0:CXT:=fun _ _ _ _ _ _=>False
abbrev E0:XK:=fun _ _ _=>False
theorem pass0 {X:Cx}:Passes CX0 X E0:=fun _ _ _ _ _ _ _ h=>h.elim
structure Fun (K:PySem.W.Frag) (x qual:Str) (st:Stmt) (f:Addr) (fd:FuncData):Prop where
 ex:∃ (oc:Value) (od:Option Addr) (kV doc pm:Value) (an:Option Addr) (cdv ct:Value) (osl:Array (Option Value)),
  fd=PySem.W.fnOf x qual (defArgs st) (defBody st) (defScope st) .none kV doc pm an cdv ct∧K.lookup f=some ⟨oc,od,.func fd,osl⟩∧PySem.W.codeIn K cdv qual=true
 kp:PySem.W.keepIn K (.ref f)=true
section
variable {P:Program}{w:World}{K:PySem.W.Frag}{mg:Str→Option Value}{base:Heap}
theorem Fun.ok {x qual:Str}{st:Stmt}{f:Addr}{fd:FuncData}{N ps:List Str}{k:Nat}{sp:Sp} (F:Fun K x qual st f fd) (S:FnScope N ps (defScope st)) (len:∀ vs H Q E,sp vs H Q E→vs.length=ps.length)
  (hbody:∀ (cdv:Value) (A:Around) (outer:List Env) (s:Shared) (H:Hp) (vs:List V) (Q:VK) (E:XK),Room k (A.deeper (envOfC qual (defScope st) s.heap.objs.size f cdv))→sp vs H Q E →
   ∃ t,PSs (cxOf CX0 P w K mg base N qual (defScope st) f cdv A outer s H E).nox (defBody st) t∧t { nx:=fun _ H'=>Q .non H',rt:=Q } (start N vs) H):FnOk P w K mg base CX0 (k+1) f fd ps sp:=by
 obtain⟨oc,od,kV,doc,pm,an,cdv,ct,osl,rfl,lk,hcd⟩:=F.ex
 refine fn_of lk hcd S len fun A outer s H vs Q E hr hsp=>?_
 obtain⟨t,h,q⟩:=hbody cdv A outer s H vs Q E hr hsp
 exact⟨t,h.nox,q⟩
theorem Fun.binds {x qual:Str}{st:Stmt}{f:Addr}{fd:FuncData}{ps:List Str} (F:Fun K x qual st f fd)
  (h:∀ (kV doc pm:Value) (an:Option Addr) (cdv ct:Value) (us:List Value),us.length=ps.length→bindArgs (PySem.W.fnOf x qual (defArgs st) (defBody st) (defScope st) .none kV doc pm an cdv ct) ⟨us,[]⟩=pure (ps.zip us)):Binds K fd ps []:=by
 obtain⟨oc,od,kV,doc,pm,an,cdv,ct,osl,rfl,lk,hcd⟩:=F.ex
 exact .all (h kV doc pm an cdv ct)
theorem fun_mk {x qual:Str}{st:Stmt}{f:Addr}{oc:Value}{od an:Option Addr}{osl:Array (Option Value)}{kV doc pm cdv ct:Value} (l:K.lookup f=some ⟨oc,od,.func (PySem.W.fnOf x qual (defArgs st) (defBody st) (defScope st) .none kV doc pm an cdv ct),osl⟩)
  (c:PySem.W.codeIn K cdv qual=true) (k:PySem.W.keepIn K (.ref f)=true):Fun K x qual st f (PySem.W.fnOf x qual (defArgs st) (defBody st) (defScope st) .none kV doc pm an cdv ct):=⟨⟨oc,od,kV,doc,pm,an,cdv,ct,osl,rfl,l,c⟩,k⟩
end
section
variable {X:Cx}
theorem pv (i:Nat) {x:Str}{pos:Pos} (hN:X.N[i]?=some x:=by rfl) (hv:Vis X.env.scope x:=by first | exact Or.inl rfl | exact Or.inr (Or.inl rfl) | exact Or.inr (Or.inr rfl)) (hd:(x == ("__debug__":Str))=false:=by decide)
  (hcd:(x == ("__classdict__":Str))=false:=by decide):PE X (.Name x pos) (tVar i):=pe_var hN hv hd hcd
end
theorem iteF {A B:Prop} (h:B):if false=true then A else B:=by
 rw [if_neg Bool.false_ne_true]
 exact h
theorem iteT {A B:Prop} (h:A):if true=true then A else B:=by
 rw [if_pos rfl]
 exact h
theorem ite2 {c A B:Prop} [Decidable c] (h1:c→A) (h2:¬ c→B):if c then A else B:=by
 by_cases h:c
 ·rw [if_pos h]
  exact h1 h
 ·rw [if_neg h]
  exact h2 h
def Same (H H':Hp):Prop:=∀ b o,H b=some o→H' b=some o
theorem Same.refl (H:Hp):Same H H:=fun _ _ h=>h
theorem Same.trans {H H1 H2:Hp} (a:Same H H1) (b:Same H1 H2):Same H H2:=fun c o h=>b c o (a c o h)
theorem Same.free {H H':Hp} (e:Same H H') {l:Addr} (h:H' l=Option.none):H l=Option.none:=by
 cases q:H l with
 | none=>rfl
 | some o =>
  rw [e l o q] at h
  cases h
theorem Same.seq {K:PySem.W.Frag}{H H':Hp}{a:Addr}{xs:List V} (e:Same H H') (h:SqL K H a xs):SqL K H' a xs:=by
 rcases h with (h | ⟨o,h⟩) | h
 ·exact .inl (.inl (e _ _ h))
 ·exact .inl (.inr ⟨o,e _ _ h⟩)
 ·exact .inr h
end L2
set_option maxHeartbeats 4000000
namespace Sw
inductive aX {α β:Type} (R:α→β→Prop):List α→List β→Prop where
 | nil:aX R [] []
 | cons {a:α}{b:β}{as:List α}{bs:List β}:R a b→aX R as bs→aX R (a::as) (b::bs)
namespace aX
variable {α β:Type}{R S:α→β→Prop}
theorem length {as:List α}{bs:List β} (h:aX R as bs):bs.length=as.length:=by
 induction h with
 | nil=>rfl
 | cons _ _ ih=>rw [List.length_cons,List.length_cons,ih]
theorem imp {as:List α}{bs:List β} (f:∀ a b,R a b→S a b) (h:aX R as bs):aX S as bs:=by
 induction h with
 | nil=>exact .nil
 | cons r _ ih=>exact .cons (f _ _ r) ih
theorem append {as as':List α}{bs bs':List β} (h:aX R as bs) (g:aX R as' bs'):aX R (as++as') (bs++bs'):=by
 induction h with
 | nil=>exact g
 | cons r _ ih=>exact .cons r ih
theorem one {a:α}{b:β} (h:R a b):aX R [a] [b]:=.cons h .nil
theorem get {as:List α}{bs:List β} (h:aX R as bs):∀ {i:Nat}{b:β},bs[i]?=some b→∃ a,as[i]?=some a∧R a b:=by
 induction h with
 | nil=>intro i b e; simp at e
 | cons r _ ih =>
  intro i b e
  cases i with
  | zero=>exact⟨_,rfl,by have e':=Option.some.inj e; rw [← e']; exact r⟩
  | succ i=>exact ih (i:=i) (by simpa using e)
theorem of_get:∀ {bs:List β}{as:List α},bs.length=as.length→(∀ (i:Nat) b,bs[i]?=some b→∃ a,as[i]?=some a∧R a b)→aX R as bs
 | [],[],_,_=>.nil
 | [],_::_,h,_=>by simp at h
 | _::_,[],h,_=>by simp at h
 | b::bs,a::as,h,g=>by
  obtain⟨a',e,r⟩:=g 0 b rfl
  have e':=Option.some.inj e
  refine .cons (by rw [e']; exact r) (of_get (by simpa using h) fun i b e=>?_)
  exact g (i+1) b (by simpa using e)
end aX
inductive T where
 | node (ts:List T)
namespace T
def kids:T→List T | .node ts=>ts
mutual
def parts:T→Nat | .node ts=>1+aA ts
def aA:List T→Nat
 | []=>0
 | t::ts=>parts t+aA ts
end
mutual
def deep:T→Nat | .node ts=>bM ts
def bM:List T→Nat
 | []=>0
 | t::ts=>max (deep t+1) (bM ts)
end
mutual
def beq:T→T→Bool | .node ts,.node us=>wg ts us
def wg:List T→List T→Bool
 | [],[]=>true
 | t::ts,u::us=>beq t u && wg ts us
 | _,_=>false
end
mutual
theorem beq_iff:∀ t u:T,beq t u=true↔t=u
 | .node ts,.node us=>by
  unfold beq
  rw [Xk ts us]
  exact⟨fun h=>by rw [h],fun h=>by injection h⟩
theorem Xk:∀ ts us:List T,wg ts us=true↔ts=us
 | [],[]=>by simp [wg]
 | [],_::_=>by simp [wg]
 | _::_,[]=>by simp [wg]
 | t::ts,u::us=>by
  unfold wg
  rw [Bool.and_eq_true,beq_iff t u,Xk ts us]
  simp
end
theorem rE (t:T):beq t t=true:=(beq_iff t t).mpr rfl
instance:DecidableEq T:=fun t u=>if h:beq t u=true then isTrue ((beq_iff t u).mp h) else isFalse fun e=>h ((beq_iff t u).mpr e)
theorem aG (ts:List T):(T.node ts).parts=1+aA ts:=by unfold parts; rfl
theorem aK (ts:List T):(T.node ts).deep=bM ts:=by unfold deep; rfl
theorem aO:aA []=0:=by unfold aA; rfl
theorem aq (t:T) (ts:List T):aA (t::ts)=t.parts+aA ts:=by rw [aA]
theorem aZ:bM []=0:=by unfold bM; rfl
theorem aL (t:T) (ts:List T):bM (t::ts)=max (t.deep+1) (bM ts):=by rw [bM]
theorem iU (t:T):1≤t.parts:=by cases t; rw [aG]; lia
theorem cG (t:T):t.parts=1+aA t.kids:=by cases t; rw [aG]; rfl
theorem GK (t:T):t.deep=bM t.kids:=by cases t; rw [aK]; rfl
theorem bV:∀ a b:List T,aA (a++b)=aA a+aA b
 | [],b=>by rw [aO,List.nil_append]; lia
 | t::a,b=>by rw [List.cons_append,aq,aq,bV a b]; lia
theorem dR:∀ a b:List T,bM (a++b)=max (bM a) (bM b)
 | [],b=>by rw [aZ,List.nil_append]; lia
 | t::a,b=>by rw [List.cons_append,aL,aL,dR a b]; lia
theorem cV:∀ ts:List T,ts.length≤aA ts
 | []=>by simp
 | t::ts=>by
  have h1:=iU t
  have h2:=cV ts
  rw [aq,List.length_cons]
  lia
theorem Ny {ts:List T}{t:T} (h:ts[ts.length - 1]?=some t):aA ts=aA ts.dropLast+t.parts:=by
 have e:ts=ts.dropLast++[t]:=by
  have hne:ts≠[]:=by rintro rfl; simp at h
  have h2:=List.dropLast_concat_getLast hne
  have h3:ts.getLast hne=t:=by
   rw [← List.getLast?_eq_getElem?,List.getLast?_eq_some_getLast hne] at h
   exact Option.some.inj h
  rw [h3] at h2
  exact h2.symm
 have e2:aA ts=aA (ts.dropLast++[t]):=congrArg aA e
 rw [e2,bV,aq,aO]
 lia
theorem Kw (n:Nat) (ts:List T):aA ts=aA (ts.take n)+aA (ts.drop n):=by
 rw [← bV,List.take_append_drop]
theorem Ge {B:Nat}:∀ {ts:List T},(∀ t∈ts,t.parts≤B)→aA ts≤ts.length * B
 | [],_=>by rw [aO]; lia
 | t::ts,h=>by
  have h1:=h t List.mem_cons_self
  have h2:=Ge fun u hu=>h u (List.mem_cons_of_mem _ hu)
  rw [aq,List.length_cons,Nat.succ_mul]
  lia
theorem Ar {B:Nat}:∀ {ts:List T},(∀ t∈ts,t.deep+1≤B)→bM ts≤B
 | [],_=>by rw [aZ]; lia
 | t::ts,h=>by
  have h1:=h t List.mem_cons_self
  have h2:=Ar fun u hu=>h u (List.mem_cons_of_mem _ hu)
  rw [aL]
  lia
theorem iu:∀ {ts:List T}{t:T},t∈ts→t.parts≤aA ts
 | _::ts,t,h=>by
  rw [aq]
  rcases List.mem_cons.mp h with rfl | h
  ·lia
  ·have:=iu h
   lia
theorem uo:∀ {ts:List T}{t:T},t∈ts→t.deep+1≤bM ts
 | _::ts,t,h=>by
  rw [aL]
  rcases List.mem_cons.mp h with rfl | h
  ·lia
  ·have:=uo h
   lia
end T
open PySem PySem.Spec PyProof.Rows L2
abbrev Sg:=List (Option V)
def blk (X:Cx) (scope:Scope) (cl:List (Str×Addr)) (C:Addr) (N:List Str) (s:Shared) (H:Hp) (fp:List Addr) (pins:List (Addr×Obj)):Cx :=
 { X with N:=N,s₀:=s,H₀:=H,env:=compEnvC scope cl C X.env,outer:=X.stack,ex:=fp,fn:=fun _=>false,calm:=true,pn:=X.pn++pins,xe:=fun _ _=>False }
def Ei (X:Cx) (scope:Scope):List Str→List Nat→Prop
 | [],[]=>True
 | y::fr,j::js=>(X.N[j]?=some y∧X.env.scope.names.lookup y=some .cell∧(relabel scope X.env).names.lookup y=some .cell)∧Ei X scope fr js
 | _,_=>False
theorem Ei.len {X:Cx}{scope:Scope}:∀ {fr:List Str}{js:List Nat},Ei X scope fr js→fr.length=js.length
 | [],[],_=>rfl
 | _::_,_::_,h=>congrArg (· + 1) (Ei.len h.2)
theorem Ei.get {X:Cx}{scope:Scope}:∀ {fr:List Str}{js:List Nat},Ei X scope fr js→∀ {i:Nat}{y:Str},fr[i]?=some y →
  ∃ j:Nat,js[i]?=some j∧X.N[j]?=some y∧X.env.scope.names.lookup y=some .cell∧(relabel scope X.env).names.lookup y=some .cell
 | [],[],_,i,y,e=>by simp at e
 | z::fr,j::js,h,0,y,e=>by
  have e':z=y:=by simpa using e
  subst e'
  exact⟨j,rfl,h.1⟩
 | z::fr,j::js,h,i+1,y,e=>by
  obtain⟨k,h1,h2⟩:=Ei.get h.2 (i:=i) (y:=y) (by simpa using e)
  exact⟨k,by simpa using h1,h2⟩
structure zu (X:Cx) (scope:Scope) (x:Str) (fr:List Str) (js:List Nat) (cl:List (Str×Addr)):Prop where
 kind:scope.kind=.function
 clos:closureFor scope X.env=pure cl
 cell:∀ y∈scope.names,y.2≠.cell
 loc:∀ y∈scope.names,y.2=.local→scope.names.lookup y.1=some .local
 var:scope.names.lookup x=some .local
 sub:∀ y c,cl.lookup y=some c→X.env.cells.lookup y=some c
 has:∀ y,((relabel scope X.env).names.lookup y=some .cell∨(relabel scope X.env).names.lookup y=some .free)→∃ c,cl.lookup y=some c
 frk:Ei X scope fr js
 nd:(x::fr).Nodup
section
variable {X:Cx}{pins:List (Addr×Obj)}{σ:Sg}{H:Hp}{s:Shared}{scope:Scope}{cl:List (Str×Addr)}{x:Str}{fr:List Str}{js:List Nat}{fp:List Addr}
theorem adw {N:List Str} (I:Inv X pins σ H s) (L:zu X scope x fr js cl) (hc:X.calm=true) (hfp:∀ b∈fp,FpOk X pins H b) (hsz:∀ b∈fp,b<s.heap.objs.size) :
  (blk X scope cl s.heap.objs.size N s H fp pins).Ok where
 mod:=I.ok.mod
 kind:=L.kind
 glob:=I.ok.glob
 blt:=I.ok.blt
 above:=Nat.le_refl _
 inj:=fun y z c h1 h2=>I.ok.inj y z c (L.sub y c h1) (L.sub z c h2)
 has:=fun y hy=>L.has y hy
 cab:=fun y c h _=>absurd (show false=true from h) Bool.false_ne_true
 hd:=fun _=>I.ok.hd hc
 frames:=I.ok.frames
 stk:=.inl rfl
 exf:=fun b hb=>⟨Nat.ne_of_lt (hsz b hb),fun y c h=>(hfp b hb).2.2.2.2.1 y c (L.sub y c h)⟩
 bs:=I.bs
 bsz:=Nat.le_trans I.ok.bsz I.sz
 noex:=fun b o e hb=>by
  rcases (hfp b hb).2.2.2.1 with z | z
  ·exact I.ok.noex b o e z
  ·exact absurd (Nat.lt_of_lt_of_le (Nat.lt_of_lt_of_le (Heap.lt_size e) I.ok.bsz) z) (Nat.lt_irrefl _)
 exfs:=fun b hb z=>by
  rcases List.mem_cons.mp (I.stkSub b z) with e | e
  ·exact (hfp b hb).2.1 e
  ·exact (hfp b hb).2.2.1 e
 funs:=I.stack
 frf:=I.stkFree
def frv (σ:Sg) (js:List Nat):Sg:=js.map fun j=>(σ[j]?).getD none
theorem aah {h1:Heap}{m1:Str→Option Value}{tk:Nat} (I:Inv X pins σ H s) (L:zu X scope x fr js cl) (hc:X.calm=true) (hfp:∀ b∈fp,FpOk X pins H b) (hsz:∀ b∈fp,b<s.heap.objs.size)
  (hn:h1.Ns s.heap.objs.size m1) (hk:∀ b o,s.heap.get? b=some o→h1.get? b=some o) :
  Inv (blk X scope cl s.heap.objs.size (x::fr) s H fp pins) [] (none::frv σ js) H { s with heap:=h1,toks:=tk }:=by
 refine⟨adw I L hc hfp hsz,rfl,I.bare,Un.kept hk,⟨m1,hn,fun i y v e1 e2 _=>?_⟩,fun y c e=>?_,I.hok.fresh (Nat.le_refl _),fun y c e=>I.freeC y c (L.sub y c e),fun p hp=>?_,I.hok.kept hk,?_⟩
 ·cases i with
  | zero=>exact absurd e2 (by simp)
  | succ i =>
   have e1':fr[i]?=some y:=by simpa [blk] using e1
   obtain⟨j,hj,hN,hcell,hrel⟩:=L.frk.get e1'
   have e2':σ[j]?=some (some v):=by
    have q:(frv σ js)[i]?=some (some v):=by simpa using e2
    unfold frv at q
    rw [List.getElem?_map,hj] at q
    have q':(σ[j]?).getD none=some v:=by simpa using q
    cases hs:σ[j]? with
    | none=>rw [hs] at q'; cases q'
    | some o=>rw [hs] at q'; exact congrArg some q'
   obtain⟨m,_,hl⟩:=I.loc
   obtain⟨u,r,lk⟩:=hl j y v hN e2' (.inr (.inl hcell))
   refine⟨u,r,.inr ⟨.inl hrel,?_⟩⟩
   rcases lk with⟨hloc,_⟩ | ⟨_,c,hc1,hc2⟩
   ·have:X.env.scope.names.lookup y=some .local:=hloc
    rw [hcell] at this; cases this
   ·obtain⟨c',hc'⟩:=L.has y (.inl hrel)
    have e3:=L.sub y c' hc'
    rw [hc1] at e3; cases e3
    exact⟨c,hc',hc2.keeps hk⟩
 ·obtain⟨v,hv⟩:=I.cell y c (L.sub y c e)
  exact⟨v,hv.keeps hk⟩
 ·have hp':p∈X.pn++pins:=by simpa [blk] using hp
  obtain⟨a1,a2,a3,a4,a5⟩:=I.pin p hp'
  refine⟨hk _ _ a1,a2,Nat.ne_of_lt (Heap.lt_size a1),fun z=>?_,a5⟩
  rcases List.mem_cons.mp (I.stkSub _ z) with e | e
  ·exact a3 e
  ·exact a4 e
 ·show (none::frv σ js).length=(x::fr).length
  simp [frv,L.frk.len]
theorem Mu {H':Hp}{s':Shared}{h':Heap}{σ':Sg}{N:List Str}{pins':List (Addr×Obj)} (I:Inv X pins σ H s) (J:Inv (blk X scope cl s.heap.objs.size N s H fp pins) pins' σ' H' s') (hfp:∀ b∈fp,FpOk X pins H b)
  (hsb:Heap.SameBut s.heap.objs.size s'.heap h'):Inv X pins σ H' { s' with heap:=h' }:=by
 have hos:s'.os=s.os:=J.os
 have nC:H' s.heap.objs.size=none:=J.free
 have kp:∀ b,b≠s.heap.objs.size→h'.get? b=s'.heap.get? b:=hsb.2
 have low:∀ b o,s.heap.get? b=some o→b≠s.heap.objs.size:=fun b o e=>Nat.ne_of_lt (Heap.lt_size e)
 have u:Un (frs X.stack) fp H H' s.heap h':=by
  have u0:Un (frs X.stack) fp H H' s.heap s'.heap:=J.base
  exact⟨fun b o e n h1 h2=>(kp b (low b o e)).trans (u0.keep b o e n h1 h2),fun b o e n h1 h2=>by
    obtain⟨sl,q⟩:=u0.slot b o e n h1 h2
    exact⟨sl,(kp b (low b o e)).trans q⟩,u0.free,fun b o e h1=>by
    obtain⟨o',q⟩:=u0.there b o e h1
    exact⟨o',(kp b (low b o e)).trans q⟩,u0.tups,u0.frzs,u0.tbls⟩
 have hok:HOk X.prog X.w H' h':=fun b o e=>by
  refine (J.hok b o e).stay (fun c v hc q=>(kp c ?_).trans q) (fun _ q=>q) fun _ _ q=>q
  rcases hc with z | z
  ·rw [z]; intro z'; rw [z',nC] at e; cases e
  ·intro z'; rw [z',nC] at z; cases z
 have q:=I.call (g':=s'.gens) (t':=s'.toks) (d':=s'.drawn) u hok J.bare fun b hb=>⟨(hfp b hb).2.2.2.1,(hfp b hb).2.1,(hfp b hb).2.2.2.2.1,(hfp b hb).2.2.2.2.2⟩
 obtain⟨hp,g,d,tk,os⟩:=s'
 have:os=s.os:=hos
 subst this
 exact q
end
def uX (J:It) (js:List Nat) (te:TE) (σ:Sg) (Q:VK) (H1:Hp):Prop:=∀ D,H1 D=none →
 ∃ W:Nat→Nat→List V→Hp→Prop,(∃ m,W 0 m [] (upd H1 D (.lst [])))∧∀ i m ys H',W i m ys H'→H' D=some (.lst ys) ∧
  ((J.stop i H'∧Q (.ref D) H')∨(J.go i H'∧∀ x H2,J.yld i H' x H2→te (some x::frv σ js) H2 fun y H3=>H3 D=some (.lst ys)∧ys.length<sizeLine ∧
   ∃ m',m'<m∧W (i+1) m' (ys++[y]) (upd H3 D (.lst (ys++[y])))))
def tLC (wi:TI) (js:List Nat) (te:TE):TE:=fun σ H Q=>wi σ H fun J H1=>uX J js te σ Q H1
section
variable {X:Cx}{scope:Scope}{cl:List (Str×Addr)}{x:Str}{fr:List Str}{js:List Nat}{elt iter:Expr}{px pos:Pos}{wi:TI}{te:TE}
theorem QV {prog:Program}{w:World}{A:Around}{R:Result→Shared→Prop}{s:Shared}{tg:Expr}{it acc:Value}{env:Env} (Iv:Nat→Shared→Prop)
  (turn:∀ n s,Iv n s→wpAny (model prog w) A (pyNext it) (fun r s1=>match r with
   | none=>R (.ok .next) s1
   | some v=>wpAny (model prog w) A (letOwnedTupleGo tg it v) (fun _ s2=>wpAny (model prog w) A (assign tg env v) (fun _ s3=>wpAny (model prog w) A (eval elt env) (fun y s4 =>
     wpAny (model prog w) A (call (.builtin "list.append") [acc,y]) (fun _ s5=>∃ m,m<n∧Iv m s5) (fun _ _=>False) s4) (fun _ _=>False) s3) (fun _ _=>False) s2) (fun _ _=>False) s1) (fun _ _=>False) s)
  (n:Nat) (h:Iv n s):codeAny (model prog w) A (.compLoop (.ListComp elt [⟨tg,iter,[],0⟩] scope pos) 0 it acc env) R s:=by
 refine codeAny_loop rfl Iv (fun n s hI=>?_) n h
 refine wpAny_noted ?_
 rw [compTurn_list1]
 refine wpAny_bind (wpAny_standAt (wpAny_bind (wpAny_mono (turn n s hI) (fun r s1 h1=>?_) fun _ _ z=>z.elim)))
 cases r with
 | none=>exact wpAny_pure h1
 | some v =>
  refine wpAny_bind (wpAny_mono h1 (fun _ s2 h2=>?_) fun _ _ z=>z.elim)
  refine wpAny_bind (wpAny_mono h2 (fun _ s3 h3=>?_) fun _ _ z=>z.elim)
  refine wpAny_bind (wpAny_bind (wpAny_mono h3 (fun y s4 h4=>?_) fun _ _ z=>z.elim))
  refine wpAny_bind (wpAny_mono h4 (fun _ s5 h5=>?_) fun _ _ z=>z.elim)
  exact wpAny_pure (wpAny_pure ⟨rfl,h5⟩)
theorem aj8 (hc:X.calm=true) (L:zu X scope x fr js cl) (hi:PI X (.Name x px) iter wi)
  (he:∀ C s H fp pins,PE (blk X scope cl C (x::fr) s H fp pins) elt te)
  (hs:∀ v,foldedSetIterable iter X.env v=pure v:=by intro _; rfl) :
  PE X (.ListComp elt [⟨.Name x px,iter,[],0⟩] scope pos) (tLC wi js te):=by
 intro pins s σ H Q I h
 rw [eval_ListComp]
 refine wpAny_comprehension_free (use:=none) rfl hs L.clos L.kind L.loc (thn (hi pins s σ H _ I h) fun v s1 h1=>thn h1 fun itv s2 h2=>?_)
 obtain⟨it,fp,tn,J,H2,e,I2,T,st2,f2,rd⟩:=h2
 subst e
 obtain⟨W,⟨m0,w0⟩,turn⟩:=rd _ I2.fresh
 have I3:=I2.lnew (ys:=[]) (its:=[]) (t':=s2.toks) .nil (Nat.zero_le _)
 refine wpAny_newObj_type ?_
 have Gz:∀ b∈fp,b<s2.heap.objs.size:=fun b hb=>by
  obtain⟨o,ho,_⟩:=T.obj 0 _ st2 b hb
  exact Heap.lt_size ho
 generalize hs3:({ s2 with heap:=s2.heap.push { cls:=.type "list",dict:=none,data:=.seq ([]:List Value).toArray } }:Shared)=s3
 have I3':Inv X pins σ (upd H2 s2.heap.objs.size (.lst [])) s3:=by rw [← hs3]; exact I3
 have sz3:s3.heap.objs.size=s2.heap.objs.size+1:=by rw [← hs3]; exact Heap.size_push ..
 have k23:∀ b o,s2.heap.get? b=some o→s3.heap.get? b=some o:=fun b o e=>by rw [← hs3]; exact Heap.get?_push_of_some _ e
 have fsz:∀ b∈fp,b<s3.heap.objs.size:=fun b hb=>by rw [sz3]; exact Nat.lt_succ_of_lt (Gz b hb)
 have f3:∀ b∈fp,FpOk X pins (upd H2 s2.heap.objs.size (.lst [])) b:=fun b hb=>⟨by rw [upd_ne (Nat.ne_of_lt (Gz b hb))]; exact (f2 b hb).1,(f2 b hb).2⟩
 refine wpAny_newFunctionEnv L.cell (by intro y hy; simp at hy) (fun h4 hn4 Ww=>?_) L.kind
 have k34:∀ b o,s3.heap.get? b=some o→h4.get? b=some o:=fun b o e=>(Ww.2 b (Nat.ne_of_lt (Heap.lt_size e))).trans (Heap.get?_push_of_some _ e)
 generalize hX':blk X scope cl s3.heap.objs.size (x::fr) s3 (upd H2 s2.heap.objs.size (.lst [])) fp pins=X'
 have I4:Inv X' [] (none::frv σ js) (upd H2 s2.heap.objs.size (.lst [])) { s3 with heap:=h4,toks:=s3.toks+([]:List (Str×Value)).length }:=by
  rw [← hX']; exact aah I3' L hc f3 fsz hn4 k34
 have st4:tn 0 h4:=T.keep _ _ _ st2 fun b _ o e=>k34 b o (k23 b o e)
 have he':PE X' elt te:=by rw [← hX']; exact he _ _ _ _ _
 have xp:X'.prog=X.prog:=by rw [← hX']; rfl
 have xw:X'.w=X.w:=by rw [← hX']; rfl
 have xK:X'.K=X.K:=by rw [← hX']; rfl
 have xA:X'.A=X.A:=by rw [← hX']; rfl
 have xc:X'.calm=true:=by rw [← hX']; rfl
 have xe:X'.xe=fun _ _=>False:=by rw [← hX']; rfl
 have xn:X'.N=x::fr:=by rw [← hX']; rfl
 have xv:X'.env=compEnvC scope cl s3.heap.objs.size X.env:=by rw [← hX']; rfl
 have xpn:X'.pn=X.pn++pins:=by rw [← hX']; rfl
 have xex:X'.ex=fp:=by rw [← hX']; rfl
 have xfs:X'.fs=frs X.stack:=by rw [← hX']; rfl
 have back:∀ {H':Hp}{s':Shared}{h':Heap}{σ':Sg},Inv X' [] σ' H' s'→Heap.SameBut s3.heap.objs.size s'.heap h'→Inv X pins σ H' { s' with heap:=h' }:=fun {H' s' h' σ'} J' hsb=>by
  rw [← hX'] at J'; exact Mu I3' J' f3 hsb
 have frame:∀ b∈fp,b ∉ frs X.stack:=fun b hb z=>by
  rcases List.mem_cons.mp (I3'.stkSub b z) with e | e
  ·exact (f3 b hb).2.1 e
  ·exact (f3 b hb).2.2.1 e
 have stat:∀ {H':Hp},(∀ b∈fp,H' b=none)→∀ b∈fp,FpOk X' [] H' b:=fun {H'} hn b hb=>by
  refine⟨hn b hb,?_,?_,.inl (by rw [xex]; exact hb),?_,?_⟩
  ·rw [xv]; exact Nat.ne_of_lt (fsz b hb)
  ·rw [xfs]; exact frame b hb
  ·rw [xv]; exact fun y c e=>(f3 b hb).2.2.2.2.1 y c (L.sub y c e)
  ·rw [xpn,List.append_nil]; exact (f3 b hb).2.2.2.2.2
 have loop:codeAny (model X.prog X.w) X.A (.compLoop (.ListComp elt [⟨.Name x px,iter,[],0⟩] scope pos) 0 (.ref it) (.ref s2.heap.objs.size) (compEnvC scope cl s3.heap.objs.size X.env))
   (compPost (model X.prog X.w) X.A X.xe none (EP X pins σ Q) (.ref s2.heap.objs.size) s3.heap.objs.size) { s3 with heap:=h4,toks:=s3.toks+([]:List (Str×Value)).length }:=by
  refine QV (fun n s'=>∃ i ys o H',Inv X' [] (o::frv σ js) H' s'∧tn i s'.heap∧(∀ b∈fp,H' b=none)∧W i n ys H') ?_ m0 ⟨0,[],none,_,I4,st4,fun b hb=>(f3 b hb).1,w0⟩
  rintro n s5 ⟨i,ys,o,H5,I5,st5,fr5,w5⟩
  obtain⟨hD,hstep⟩:=turn i n ys H5 w5
  rcases hstep with⟨stop,qn⟩ | ⟨go,step⟩
  ·have q:=T.done X' xp xw xK xc i [] s5 _ H5 (fun _ _=>False) I5 (stat fr5) st5 stop
   rw [xA] at q
   refine thn q fun r s6 ⟨hr,I6⟩=>?_
   subst hr
   obtain⟨m6,hn6,_⟩:=I6.loc
   rw [xv] at hn6
   exact⟨m6,hn6,fun h' hsb=>⟨.ref s2.heap.objs.size,H5,back I6 hsb,rfl,qn⟩⟩
  ·have q:=T.item X' xp xw xK xc i [] s5 _ H5 (fun _ _=>False) I5 (stat fr5) st5 go
   rw [xA] at q
   refine thn q fun r s6 ⟨u,hr,h6⟩=>?_
   subst hr
   refine thn h6 fun _ s7 ⟨xx,H7,I7,r7,y7,st7,fr7⟩=>?_
   have I7':=I7.pinned (stat fr7) (T.obj _ _ st7)
   have hg:PG X' (.Name x px) (gName 0):=by
    refine pg_name (i:=0) (x:=x) (by rw [xn]; exact L.nd) (by rw [xn]; rfl) ?_ ?_
    ·rw [xv]; exact .inl (lookup_relabel_local L.var)
    ·rw [xv]; exact .inr (lookup_relabel_local L.var)
   have q7:=hg _ s7 _ H7 xx u (fun σ8 H8=>σ8=some xx::frv σ js∧H8=H7) I7' r7 ⟨rfl,rfl⟩
   rw [xp,xw,xA,xe,xv] at q7
   refine thn q7 fun _ s8 ⟨σ8,H8,I8,e8,e8'⟩=>?_
   subst e8 e8'
   have q8:=he' _ s8 _ _ _ I8 (step xx _ y7)
   rw [xp,xw,xA,xe,xv] at q8
   refine thn q8 fun yv s9 ⟨y,H9,I9,r9,d9,z9,m9,hm9,w9⟩=>?_
   have q9:=cP (X:=X') _ s9 _ H9 (.ref s2.heap.objs.size) [y] (.ref s2.heap.objs.size) [yv] (fun z H'=>H'=upd H9 s2.heap.objs.size (.lst (ys++[y]))) I9 rfl (.cons r9 .nil) ⟨_,ys,y,rfl,rfl,d9,z9,rfl⟩
   rw [xp,xw,xA,xe] at q9
   refine thn q9 fun _ s10 ⟨_,H10,I10,_,e10⟩=>?_
   subst e10
   refine⟨m9,hm9,i+1,ys++[y],some xx,_,I10.unpinned,T.keep _ _ _ st7 fun b hb ob e=>(I10.pin (b,ob) (List.mem_append_right _ (List.mem_append_right _ (mem_pinsAt hb e)))).1,fun b hb=>?_,w9⟩
   obtain⟨ob,e,_⟩:=T.obj _ _ st7 b hb
   exact (I10.pin (b,ob) (List.mem_append_right _ (List.mem_append_right _ (mem_pinsAt hb e)))).2.1
 exact codeAny_compStart_list loop (T.self _ 0 _ _ _ st4 loop)
end
def uH (cells:List (Str×Addr)):List (Str×NameKind)→List (Str×Addr)→List (Str×Addr)
 | [],acc=>acc
 | (n,.free)::r,acc=>match cells.lookup n with
  | some c=>uH cells r ((n,c)::acc)
  | none=>uH cells r acc
 | (_,_)::r,acc=>uH cells r acc
theorem Hl {cells:List (Str×Addr)}{n:Str}{k:NameKind}{r:List (Str×NameKind)}{acc:List (Str×Addr)} (h:k≠.free):uH cells ((n,k)::r) acc=uH cells r acc:=by
 cases k <;> first | rfl | exact absurd rfl h
theorem Ho {cells:List (Str×Addr)}{n:Str}{c:Addr}{r:List (Str×NameKind)}{acc:List (Str×Addr)} (h:cells.lookup n=some c):uH cells ((n,.free)::r) acc=uH cells r ((n,c)::acc):=by
 rw [uH,h]
theorem Mr {cells:List (Str×Addr)}:∀ {names:List (Str×NameKind)}{acc:List (Str×Addr)},(∀ y∈names,y.2=.free→∃ c,cells.lookup y.1=some c)→(∀ y c,acc.lookup y=some c→cells.lookup y=some c) →
  ∀ y c,(uH cells names acc).lookup y=some c→cells.lookup y=some c
 | [],_,_,h,y,c,e=>h y c e
 | (n,k)::r,acc,hf,h,y,c,e=>by
  have hr:∀ y∈r,y.2=.free→∃ c,cells.lookup y.1=some c:=fun y hy=>hf y (List.mem_cons_of_mem _ hy)
  by_cases hk:k=.free
  ·subst hk
   obtain⟨d,hd⟩:=hf (n,.free) List.mem_cons_self rfl
   rw [Ho hd] at e
   refine Mr hr (fun z b hz=>?_) y c e
   rw [List.lookup_cons] at hz
   cases hzn:z == n with
   | true =>
    rw [hzn] at hz
    have:z=n:=eq_of_beq hzn
    rw [this,hd]
    exact hz
   | false =>
    rw [hzn] at hz
    exact h z b hz
  ·rw [Hl hk] at e
   exact Mr hr h y c e
theorem Ms {cells:List (Str×Addr)}:∀ {names:List (Str×NameKind)}{acc:List (Str×Addr)},(∀ y∈names,y.2=.free→∃ c,cells.lookup y.1=some c) →
  ∀ y:Str,((y,NameKind.free)∈names∨∃ c,acc.lookup y=some c)→∃ c,(uH cells names acc).lookup y=some c
 | [],_,_,y,h=>by
  rcases h with h | h
  ·simp at h
  ·exact h
 | (n,k)::r,acc,hf,y,h=>by
  have hr:∀ y∈r,y.2=.free→∃ c,cells.lookup y.1=some c:=fun y hy=>hf y (List.mem_cons_of_mem _ hy)
  by_cases hk:k=.free
  ·subst hk
   obtain⟨d,hd⟩:=hf (n,.free) List.mem_cons_self rfl
   rw [Ho hd]
   refine Ms hr y ?_
   by_cases hyn:y=n
   ·subst hyn
    exact .inr ⟨d,by simp [List.lookup_cons]⟩
   ·rcases h with h | ⟨c,h⟩
    ·rcases List.mem_cons.mp h with e | e
     ·exact absurd (congrArg Prod.fst e) hyn
     ·exact .inl e
    ·refine .inr ⟨c,?_⟩
     rw [List.lookup_cons]
     have:(y == n)=false:=by simpa using hyn
     rw [this]
     exact h
  ·rw [Hl hk]
   refine Ms hr y ?_
   rcases h with h | h
   ·rcases List.mem_cons.mp h with e | e
    ·exact absurd (congrArg Prod.snd e).symm hk
    ·exact .inl e
   ·exact .inr h
theorem abD {scope:Scope}{env:Env} (hf:∀ y∈scope.names,y.2=.free→∃ c,env.cells.lookup y.1=some c):closureFor scope env=pure (uH env.cells scope.names []):=by
 have key:∀ (names:List (Str×NameKind)) (acc:List (Str×Addr)),(∀ y∈names,y.2=.free→∃ c,env.cells.lookup y.1=some c) →
   (forIn names acc fun (x:Str×NameKind) (cs:List (Str×Addr))=>(match x with | (name,kind)=>if (kind == NameKind.free)=true then (cellOf env name >>= fun a=>pure (ForInStep.yield ((name,a)::cs))) else pure (ForInStep.yield cs):Sem (ForInStep (List (Str×Addr)))))=pure (uH env.cells names acc):=by
  intro names
  induction names with
  | nil=>intro acc _; rfl
  | cons x r ih =>
   intro acc h
   obtain⟨n,k⟩:=x
   have hr:∀ y∈r,y.2=.free→∃ c,env.cells.lookup y.1=some c:=fun y hy=>h y (List.mem_cons_of_mem _ hy)
   rw [List.forIn_cons]
   by_cases hk:k=.free
   ·subst hk
    obtain⟨d,hd⟩:=h (n,.free) List.mem_cons_self rfl
    have hc:cellOf env n=pure d:=by unfold cellOf; rw [hd]
    rw [Ho hd,← ih _ hr]
    simp only [beq_self_eq_true,if_true,hc,pure_bind]
   ·have hb:(k == NameKind.free)=false:=by simpa using hk
    rw [Hl hk,← ih _ hr]
    simp only [hb,Bool.false_eq_true,if_false,pure_bind]
 have:=key scope.names [] hf
 unfold closureFor
 simp only [bind_pure_comp,map_pure] at this ⊢
 first
  | exact this
  | (rw [this]; rfl)
  | (simp only [this]; rfl)
theorem nH {X:Cx}{scope sc:Scope}{x:Str}{fr:List Str}{js:List Nat} (hk:scope.kind=.function) (hsc:X.env.scope=sc) (hkf:sc.kind=.function)
  (hcell:∀ y∈scope.names,y.2≠.cell) (hloc:∀ y∈scope.names,y.2=.local→scope.names.lookup y.1=some .local) (aoi:scope.names.lookup x=some .local)
  (hfree:∀ y∈scope.names,y.2=.free→sc.names.lookup y.1=some .cell) (hfr:Ei X scope fr js) (hnd:(x::fr).Nodup)
  (hcs:∀ y,X.env.scope.names.lookup y=some .cell→∃ c,X.env.cells.lookup y=some c):zu X scope x fr js (uH X.env.cells scope.names []):=by
 have hall:∀ y∈scope.names,y.2=.free→∃ c,X.env.cells.lookup y.1=some c:=fun y hy e=>hcs _ (by rw [hsc]; exact hfree y hy e)
 refine⟨hk,abD hall,hcell,hloc,aoi,Mr hall fun y c e=>by simp at e,fun y hy=>Ms hall y (.inl ?_),hfr,hnd⟩
 have get:∀ k,(k=NameKind.cell∨k=NameKind.free)→(relabel scope X.env).names.lookup y=some k→(y,NameKind.free)∈scope.names:=fun k hkk e=>by
  have hm:=PySem.mem_of_lookup e
  unfold relabel at hm
  obtain⟨⟨n,k0⟩,hin,heq⟩:=List.mem_map.mp hm
  dsimp only at heq
  split at heq
  ·rename_i hc
   have e1:n=y:=congrArg Prod.fst heq
   have e2:k0=.free:=by
    rw [Bool.and_eq_true,Bool.and_eq_true] at hc
    exact eq_of_beq hc.1.1
   rw [← e1,← e2]
   exact hin
  ·have e1:n=y:=congrArg Prod.fst heq
   have e2:k0=k:=congrArg Prod.snd heq
   rcases hkk with z | z
   ·exact absurd (by rw [e2,z]) (hcell _ hin)
   ·rw [← e1,← z,← e2]
    exact hin
 rcases hy with h | h
 ·exact get _ (.inl rfl) h
 ·exact get _ (.inr rfl) h
theorem same_new {H:Hp}{p:Addr} (h:H p=none) (o:HO):Same H (upd H p o):=fun b u q=>by rw [upd_ne (ne_of_none q h)]; exact q
structure Kt (H H':Hp):Prop where
 t:∀ b xs,H b=some (.tup xs)→H' b=some (.tup xs)
 f:∀ b o u,H b=some (.frz o u)→H' b=some (.frz o u)
theorem Kt.of {H H':Hp} (S:Same H H'):Kt H H':=⟨fun b _ e=>S b _ e,fun b _ _ e=>S b _ e⟩
theorem Kt.refl (H:Hp):Kt H H:=⟨fun _ _ e=>e,fun _ _ _ e=>e⟩
theorem Kt.trans {H H1 H2:Hp} (a:Kt H H1) (b:Kt H1 H2):Kt H H2:=⟨fun _ _ e=>b.t _ _ (a.t _ _ e),fun _ _ _ e=>b.f _ _ _ (a.f _ _ _ e)⟩
theorem Kt.new {H:Hp}{p:Addr}{o:HO} (h:H p=none):Kt H (upd H p o):=.of (same_new h o)
theorem Kt.lst {H:Hp}{p:Addr}{ys:List V}{o:HO} (h:H p=some (.lst ys)):Kt H (upd H p o) :=
 ⟨fun b xs e=>by rw [upd_ne (ne_of e h (fun z=>by cases z))]; exact e,fun b o' u e=>by rw [upd_ne (ne_of e h (fun z=>by cases z))]; exact e⟩
theorem bW {K:PySem.W.Frag}{H H':Hp}{a:Addr}{xs:List V} (S:Kt H H') (h:SqT K H a xs):SqT K H' a xs:=by
 rcases h with (h | ⟨o,h⟩) | h
 ·exact .inl (.inl (S.t _ _ h))
 ·exact .inl (.inr ⟨o,S.f _ _ _ h⟩)
 ·exact .inr h
theorem eX {H H':Hp}{p:Addr}{o:HO} (S:Same H H') (h:H p=none):Same H (upd H' p o):=fun b u q=>by rw [upd_ne (ne_of_none q h)]; exact S b u q
section
variable {X:Cx}
theorem GC (l:Addr) (items:Array Value) (n:Nat) (b:Addr) (items2:Array Value) (n2:Nat) (dd:Option Addr) (sl:Array (Option Value))
  (h0:¬ (!items.isEmpty && Builtin.List.listTooLong (items.size+items2.size))=true) (h1:items.size≤sizeLine) (h2:items.size+items2.size≤sizeLine+1) :
  Meets (Builtin.«list.extend» ⟨[.ref l,.ref b],[]⟩) (fun _ R s=>s.heap.get? l=some { cls:=.type "list",dict:=none,data:=.seq items n,slots:=#[] } ∧
   s.heap.get? b=some { cls:=.type "tuple",dict:=dd,data:=.seq items2 n2,slots:=sl }∧R (.ok (.ret Value.none)) { s with heap:=s.heap.update l (Obj.mapSeq fun x=>x++items2),toks:=s.toks }) :=
 .of_wp fun prog w A R s h=>by
  obtain⟨hp,g,d,tk,os⟩:=s
  obtain⟨hl,hb,h⟩:=h
  have f1:=AutoSeq1.idx_int
  have f2:=AutoSeq1.sub_tuple_tuple
  have f3:=AutoSeq1.sub_list_list
  have f4:=AutoSeq1.sub_tuple_list
  have f5:=AutoSeq1.sub_list_tuple
  have hz':(items++items2).size≤sizeLine+1:=by
   rw [Array.size_append]
   exact h2
  wp_walk using (wpAny_updateSeq hl rfl (hz:=h1) (_hz':=hz')),AutoSeq1.wpAny_loadPart' hl,AutoSeq1.wpAny_loadPart' hb
  exact⟨_,rfl,h⟩
def aj1 (K:PySem.W.Frag):V→List V→Hp→VK→Prop:=fun x vs H Q=>∃ l b xs zs,x=.ref l∧vs=[.ref b]∧H l=some (.lst xs)∧SqT K H b zs∧xs.length+zs.length≤sizeLine∧Q .non (upd H l (.lst (xs++zs)))
theorem Z8:MtM X "list.extend" (aj1 X.K):=by
 intro pins s σ H x vs v us Q I rx rv h
 obtain⟨l,b,xs,zs,rfl,rfl,hH,hB,hz,q⟩:=h
 cases rx
 obtain⟨u,rfl,ru⟩:=rv.one
 cases ru
 obtain⟨z,its,n,r,hl,e⟩:=I.lstM hH
 obtain⟨its2,r2,⟨⟨c2,d2,dt2,sl2⟩,e2,hc2,n2,hd2⟩,z2⟩:=I.tuple hB
 have hl2:=r2.length
 simp only at hc2 hd2
 subst hc2 hd2
 have hsz:its.toArray.size+its2.toArray.size≤sizeLine:=by rw [List.size_toArray,List.size_toArray]; lia
 have abo:¬ (!its.toArray.isEmpty && Builtin.List.listTooLong (its.toArray.size+its2.toArray.size))=true:=by
  rw [K3 hsz,Bool.and_false]
  exact Bool.false_ne_true
 refine call_meets F.slot_list_extend ⟨_,e,rfl⟩ F.entry_list_extend (F.args_list_extend_2 _ _)
  (GC l its.toArray n b its2.toArray n2 d2 sl2 abo (by rw [List.size_toArray]; lia) (by lia)) ⟨e,e2,?_⟩
 refine⟨.non,_,I.Wi (its':=its++its2) hH e (by simp) (r.append r2) ?_,rfl,q⟩
 rw [List.length_append]
 lia
theorem EY {prog:Program}{w:World}{A:Around}{E:Value→Shared→Prop}{s:Shared}{t sl:Addr}{items:Array Value}{vl vu:Value}{lo hi:Option Int}{Q:Value→Shared→Prop}
  (ht:IsTup s.heap t items) (hs:s.heap.IsSliceOf sl vl vu .none) (pl:IsPart vl lo) (pu:IsPart vu hi)
  (h1:HT.sIx items.size 0 lo=0) (h2:HT.sIx items.size items.size hi=items.size) (h:Q (.ref t) s):wpAny (model prog w) A (getItem (.ref t) (.ref sl)) Q E s:=by
 obtain⟨os,hos,hcs,hds⟩:=id hs
 have hTs:s.TypeIs (.ref sl) "slice":=⟨os,hos,hcs⟩
 unfold getItem
 try with_reducible refine wpAny_holding ?_
 first | refine wpAny_bind (wpAny_pure ?_) | skip
 refine wpAny_bind (wpAny_sequenceKey ht.typeIs (by decide) ?_)
 refine wpAny_bind (wpAny_callSpecial?_slot (name:=Str.ofString "__getitem__") ht.typeIs PyProof.Rows.slot_tuple_getitem
  (wpAny_call_entry PyProof.Rows.slot_tuple_getitem ht.typeIs entry_tuple_getitem ?_ (args_tuple_getitem _ _)))
 show wpAny _ _ (Builtin.Tuple.tupleItemsOf (.ref t) >>= _) _ _ s
 refine wpAny_bind (tupleItemsOf_ ht ?_)
 refine wpAny_bind (wpAny_typeOf hTs ?_)
 rw [if_pos (by decide)]
 refine wpAny_bind (HT.xP hs pl pu ?_)
 have hyes:(((HT.sIx items.size 0 lo:Nat):Int) == 0 && (1:Int) == 1 && (HT.sIx items.size items.size hi - HT.sIx items.size 0 lo) == items.size)=true:=by
  rw [h1,h2]
  simp
 show wpAny _ _ (if (((HT.sIx items.size 0 lo:Nat):Int) == 0 && (1:Int) == 1 && (HT.sIx items.size items.size hi - HT.sIx items.size 0 lo) == items.size)=true then _ else _) _ _ s
 rw [if_pos hyes]
 unfold Builtin.Tuple.tupleIsExact
 refine wpAny_bind (wpAny_bind (wpAny_typeOf ht.typeIs (wpAny_pure ?_)))
 rw [if_pos (by decide)]
 refine wpAny_bind (wpAny_rule ?_)
 exact wpAny_pure ⟨_,rfl,wpAny_pure h⟩
def ajX (K:PySem.W.Frag):V→Option Int→Option Int→Hp→VK→Prop:=fun x lo hi H Q=>∃ a xs,x=.ref a∧SqT K H a xs ∧
 HT.sIx xs.length 0 lo=0∧HT.sIx xs.length xs.length hi=xs.length∧Q (.ref a) H
theorem afW:SlR X (ajX X.K):=by
 intro pins s σ H x v vl vu lo hi sl Q I rx hs pl pu h
 obtain⟨a,xs,rfl,hx,w1,w2,q⟩:=h
 cases rx
 obtain⟨its,r,ht,hz⟩:=I.tuple hx
 have hlen:its.toArray.size=xs.length:=by rw [List.size_toArray]; exact r.length.symm
 refine⟨"tuple",_,PyProof.Rows.slot_tuple_getitem.lookup,ht.typeIs,?_⟩
 exact EY ht hs pl pu (by rw [hlen]; exact w1) (by rw [hlen]; exact w2) ⟨.ref a,H,I,rfl,q⟩
def Nu (K:PySem.W.Frag):V→Option Int→Option Int→Hp→VK→Prop:=fun x lo hi H Q=>∃ a xs,x=.ref a∧SqT K H a xs∧∀ p H',Same H H'→SqT K H' p (pB xs lo hi)→Q (.ref p) H'
theorem abB {xs:List V}{lo hi:Option Int} (h1:HT.sIx xs.length 0 lo=0) (h2:HT.sIx xs.length xs.length hi=xs.length):pB xs lo hi=xs:=by
 unfold pB
 rw [h1,h2]
 simp
theorem eF:SlR X (Nu X.K):=by
 intro pins s σ H x v vl vu lo hi sl Q I rx hs pl pu h
 obtain⟨a,xs,rfl,hx,q⟩:=h
 by_cases hw:HT.sIx xs.length 0 lo=0∧HT.sIx xs.length xs.length hi=xs.length
 ·exact afW pins s σ H _ v vl vu lo hi sl Q I rx hs pl pu ⟨a,xs,rfl,hx,hw.1,hw.2,q a H (Same.refl H) (by rw [abB hw.1 hw.2]; exact hx)⟩
 ·exact aho pins s σ H _ v vl vu lo hi sl Q I rx hs pl pu ⟨a,xs,rfl,hx,hw,fun p hp=>q p _ (same_new hp _) (SqT.of upd_same)⟩
end
mutual
def TR (K:PySem.W.Frag) (H:Hp):T→V→Prop
 | .node ts,x=>∃ a xs,x=.ref a∧SqT K H a xs∧TRs K H ts xs
def TRs (K:PySem.W.Frag) (H:Hp):List T→List V→Prop
 | [],xs=>xs=[]
 | t::ts,xs=>∃ x r,xs=x::r∧TR K H t x∧TRs K H ts r
end
section
variable {K:PySem.W.Frag}{H H':Hp}
theorem cF {ts:List T}{x:V}:TR K H (.node ts) x↔∃ a xs,x=.ref a∧SqT K H a xs∧TRs K H ts xs:=by rw [TR]
theorem bJ {xs:List V}:TRs K H [] xs↔xs=[]:=by rw [TRs]
theorem cN {t:T}{ts:List T}{xs:List V}:TRs K H (t::ts) xs↔∃ x r,xs=x::r∧TR K H t x∧TRs K H ts r:=by rw [TRs]
theorem Ed {t:T}{x:V} (h:TR K H t x):∃ a xs,x=.ref a∧SqT K H a xs∧TRs K H t.kids xs:=by
 cases t with
 | node ts=>exact cF.mp h
theorem uW {ts:List T}{a:Addr}{xs:List V} (h:SqT K H a xs) (q:TRs K H ts xs):TR K H (.node ts) (.ref a):=cF.mpr ⟨a,xs,rfl,h,q⟩
mutual
theorem TR.mono (S:Kt H H'):∀ {t:T}{x:V},TR K H t x→TR K H' t x
 | .node ts,x,h=>by
  obtain⟨a,xs,e,h1,h2⟩:=cF.mp h
  exact cF.mpr ⟨a,xs,e,bW S h1,TRs.mono S h2⟩
theorem TRs.mono (S:Kt H H'):∀ {ts:List T}{xs:List V},TRs K H ts xs→TRs K H' ts xs
 | [],xs,h=>by rw [bJ] at h ⊢; exact h
 | t::ts,xs,h=>by
  obtain⟨x,r,e,h1,h2⟩:=cN.mp h
  exact cN.mpr ⟨x,r,e,TR.mono S h1,TRs.mono S h2⟩
end
theorem TRs.length:∀ {ts:List T}{xs:List V},TRs K H ts xs→xs.length=ts.length
 | [],xs,h=>by rw [bJ] at h; rw [h]; rfl
 | t::ts,xs,h=>by
  obtain⟨x,r,e,h1,h2⟩:=cN.mp h
  rw [e,List.length_cons,List.length_cons,TRs.length h2]
theorem TRs.append:∀ {ts us:List T}{xs ys:List V},TRs K H ts xs→TRs K H us ys→TRs K H (ts++us) (xs++ys)
 | [],us,xs,ys,h,g=>by rw [bJ] at h; rw [h]; exact g
 | t::ts,us,xs,ys,h,g=>by
  obtain⟨x,r,e,h1,h2⟩:=cN.mp h
  rw [e]
  exact cN.mpr ⟨x,r++ys,rfl,h1,TRs.append h2 g⟩
theorem TRs.get:∀ {ts:List T}{xs:List V},TRs K H ts xs→∀ {i:Nat}{x:V},xs[i]?=some x→∃ t,ts[i]?=some t∧TR K H t x
 | [],xs,h,i,x,e=>by rw [bJ] at h; rw [h] at e; simp at e
 | t::ts,xs,h,i,x,e=>by
  obtain⟨y,r,rfl,h1,h2⟩:=cN.mp h
  cases i with
  | zero=>exact⟨t,rfl,by have e':y=x:=(by simpa using e);rw [← e']; exact h1⟩
  | succ i=>exact TRs.get h2 (i:=i) (by simpa using e)
theorem TRs.take:∀ (n:Nat) {ts:List T}{xs:List V},TRs K H ts xs→TRs K H (ts.take n) (xs.take n)
 | 0,ts,xs,h=>by rw [List.take_zero,List.take_zero,bJ]
 | n+1,[],xs,h=>by rw [bJ] at h; rw [h]; exact bJ.mpr rfl
 | n+1,t::ts,xs,h=>by
  obtain⟨x,r,rfl,h1,h2⟩:=cN.mp h
  exact cN.mpr ⟨x,r.take n,rfl,h1,TRs.take n h2⟩
theorem TRs.drop:∀ (n:Nat) {ts:List T}{xs:List V},TRs K H ts xs→TRs K H (ts.drop n) (xs.drop n)
 | 0,ts,xs,h=>h
 | n+1,[],xs,h=>by rw [bJ] at h; rw [h]; exact bJ.mpr rfl
 | n+1,t::ts,xs,h=>by
  obtain⟨x,r,rfl,h1,h2⟩:=cN.mp h
  exact TRs.drop n h2
theorem TRs.dropLast {ts:List T}{xs:List V} (h:TRs K H ts xs):TRs K H ts.dropLast xs.dropLast:=by
 rw [List.dropLast_eq_take,List.dropLast_eq_take,h.length]
 exact h.take _
end
section
variable {X:Cx}{pins:List (Addr×Obj)}{σ:Sg}{H:Hp}{s:Shared}
theorem Uu (I:Inv X pins σ H s):∀ (n:Nat),(∀ (t u:T) (x:V),t.parts≤n→TR X.K H t x→TR X.K H u x→t=u)∧(∀ (ts us:List T) (xs:List V),T.aA ts≤n→TRs X.K H ts xs→TRs X.K H us xs→ts=us)
 | 0=>⟨fun t u x h _ _=>absurd (T.iU t) (by lia),fun ts us xs h q r=>by
   have h1:=T.cV ts
   have h2:=q.length
   have h3:=r.length
   have e1:ts=[]:=List.length_eq_zero_iff.mp (by lia)
   have e2:us=[]:=List.length_eq_zero_iff.mp (by lia)
   rw [e1,e2]⟩
 | n+1=>by
  have ih:=Uu I n
  have A:∀ (t u:T) (x:V),t.parts≤n+1→TR X.K H t x→TR X.K H u x→t=u:=fun t u x h q r=>by
   cases t with
   | node ts =>
    cases u with
    | node us =>
     obtain⟨a,xs,e1,q1,q2⟩:=cF.mp q
     obtain⟨b,ys,e2,r1,r2⟩:=cF.mp r
     rw [e1] at e2
     cases e2
     have:=I.u_ q1 r1
     subst this
     rw [T.aG] at h
     rw [ih.2 ts us xs (by lia) q2 r2]
  refine⟨A,fun ts us xs h q r=>?_⟩
  cases ts with
  | nil =>
   rw [bJ] at q
   subst q
   have:=r.length
   exact (List.length_eq_zero_iff.mp (by simpa using this.symm)).symm
  | cons t ts =>
   obtain⟨x,r',rfl,q1,q2⟩:=cN.mp q
   cases us with
   | nil=>rw [bJ] at r; cases r
   | cons u us =>
    obtain⟨x2,r2',e,r1,r2⟩:=cN.mp r
    cases e
    rw [T.aq] at h
    have h1:=T.iU t
    rw [A t u x (by lia) q1 r1,ih.2 ts us r' (by lia) q2 r2]
def nT (ts us:List T) (j:Nat):Bool:=match ts[j]?,us[j]? with
 | some t,some u=>T.beq t u
 | _,_=>false
theorem wN:∀ ts us:List T,((List.range (min ts.length us.length)).all (nT ts us) && ts.length == us.length)=T.wg ts us
 | [],[]=>by simp [T.wg]
 | [],u::us=>by simp [T.wg]
 | t::ts,[]=>by simp [T.wg]
 | t::ts,u::us=>by
  have ih:=wN ts us
  have e:min (t::ts).length (u::us).length=min ts.length us.length+1:=by simp only [List.length_cons]; lia
  rw [e,List.range_succ_eq_map,List.all_cons,List.all_map]
  have e2:(nT (t::ts) (u::us)∘Nat.succ)=nT ts us:=by
   funext j
   simp [nT]
  have e3:nT (t::ts) (u::us) 0=T.beq t u:=rfl
  have e4:((t::ts).length == (u::us).length)=(ts.length == us.length):=by simp
  rw [e2,e3,e4,Bool.and_assoc,ih]
  rw [T.wg]
theorem ZW (I:Inv X pins σ H s):∀ (n:Nat) (t u:T) (A:Around) (a b:Addr),t.deep≤n→TR X.K H t (.ref a)→TR X.K H u (.ref b)→A.units+n<cLine→SeqAt.RcAt A s (.ref a) (.ref b) (T.beq t u):=by
 intro n
 induction n with
 | zero =>
  intro t u A a b hd q r hu
  cases t with
  | node ts =>
   cases u with
   | node us =>
    obtain⟨a',xs,e1,q1,q2⟩:=cF.mp q
    cases e1
    obtain⟨b',ys,e2,r1,r2⟩:=cF.mp r
    cases e2
    rw [T.aK] at hd
    have hts:ts=[]:=by
     cases ts with
     | nil=>rfl
     | cons t ts=>rw [T.aL] at hd; lia
    subst hts
    rw [bJ] at q2
    subst q2
    obtain⟨its,rv,ht,_⟩:=I.tuple q1
    obtain⟨its2,rv2,ht2,_⟩:=I.tuple r1
    have h0:=rv.length
    have h2:=rv2.length
    have h3:=r2.length
    have key:=SeqAt.RcAt.tuples (A:=A) (e:=fun _=>true) ht ht2 (by lia) (fun j j1 _=>absurd j1 (by rw [List.size_toArray,← h0]; simp))
    have ev:((List.range (min its.toArray.size its2.toArray.size)).all (fun _=>true) && its.toArray.size == its2.toArray.size)=T.beq (.node []) (.node us):=by
     rw [List.size_toArray,List.size_toArray,← h0,← h2,h3,T.beq,← wN]
     simp
    rw [ev] at key
    exact key
 | succ n ih =>
  intro t u A a b hd q r hu
  cases t with
  | node ts =>
   cases u with
   | node us =>
    obtain⟨a',xs,e1,q1,q2⟩:=cF.mp q
    cases e1
    obtain⟨b',ys,e2,r1,r2⟩:=cF.mp r
    cases e2
    rw [T.aK] at hd
    obtain⟨its,rv,ht,_⟩:=I.tuple q1
    obtain⟨its2,rv2,ht2,_⟩:=I.tuple r1
    have l1:=rv.length
    have l2:=rv2.length
    have l3:=q2.length
    have l4:=r2.length
    have key:=SeqAt.RcAt.tuples (A:=A) (e:=nT ts us) ht ht2 (by lia) (fun j j1 j2=>?_)
    ·have ev:((List.range (min its.toArray.size its2.toArray.size)).all (nT ts us) && its.toArray.size == its2.toArray.size)=T.beq (.node ts) (.node us):=by
      rw [List.size_toArray,List.size_toArray,← l1,← l2,l3,l4,T.beq,← wN]
     rw [ev] at key
     exact key
    ·have j1':j<xs.length:=by rw [l1]; simpa using j1
     have j2':j<ys.length:=by rw [l2]; simpa using j2
     obtain⟨u1,hu1,ru1⟩:=rv.get (List.getElem?_eq_getElem j1')
     obtain⟨u2,hu2,ru2⟩:=rv2.get (List.getElem?_eq_getElem j2')
     obtain⟨t1,ht1,tr1⟩:=q2.get (List.getElem?_eq_getElem j1')
     obtain⟨t2,aeY,tr2⟩:=r2.get (List.getElem?_eq_getElem j2')
     have ee:nT ts us j=T.beq t1 t2:=by unfold nT; rw [ht1,aeY]
     have g1:its.toArray[j]=u1:=by
      have:its[j]?=some u1:=hu1
      rw [List.getElem?_eq_some_iff] at this
      obtain⟨_,e⟩:=this
      simpa using e
     have g2:its2.toArray[j]=u2:=by
      have:its2[j]?=some u2:=hu2
      rw [List.getElem?_eq_some_iff] at this
      obtain⟨_,e⟩:=this
      simpa using e
     rw [ee,g1,g2]
     obtain⟨a1,zs1,e1,_⟩:=Ed tr1
     obtain⟨a2,zs2,e2,_⟩:=Ed tr2
     rw [e1] at ru1 tr1
     rw [e2] at ru2 tr2
     obtain rfl:u1=Value.ref a1:=ru1
     obtain rfl:u2=Value.ref a2:=ru2
     by_cases hne:a1=a2
     ·subst hne
      have et:t1=t2:=(Uu I t1.parts).1 t1 t2 _ (Nat.le_refl _) tr1 tr2
      rw [et,T.rE]
      exact SeqAt.EqAt.same _
     ·have hd1:t1.deep≤n:=by
       have:=T.uo (List.mem_of_getElem? ht1)
       lia
      exact SeqAt.EqAt.of_refs hne (ih t1 t2 A.in1 a1 a2 hd1 tr1 tr2 (by rw [Around.in1_units]; lia))
end
section
variable {X:Cx}
def aj2 (K:PySem.W.Frag) (n:Nat):R2:=fun x y H Q=>∃ t u,TR K H t x∧TR K H u y∧t.deep≤n∧Q (.bl (T.beq t u)) H
theorem BJ {n:Nat} (hu:X.A.units+n<cLine):OpR X (compareOp .Eq) (aj2 X.K n):=by
 intro pins s σ H x y v u Q I rx ry h
 obtain⟨t,t',h1,h2,hd,q⟩:=h
 obtain⟨a,xs,e1,_⟩:=Ed h1
 obtain⟨b,ys,e2,_⟩:=Ed h2
 subst e1 e2
 cases rx
 cases ry
 exact ZW I n t t' X.A a b hd h1 h2 hu _ _ _ _ ⟨.bl _,H,I,rfl,q⟩
end
section
variable {X:Cx}{K:PySem.W.Frag}
theorem aeg (h:X.K=K):SlR X (Nu K):=by subst h; exact eF
end
theorem afV {K:PySem.W.Frag}{H:Hp}{a D:Addr}{xs:List V}{o:HO} (h:SqL K H a xs) (hD:H D=none):SqL K (upd H D o) a xs:=(same_new hD o).seq h
theorem agI {K:PySem.W.Frag}{H:Hp}{a:Addr}{xs:List V}{σ:Sg}{js:List Nat}{te:TE}{Q:VK} (Pr:Nat→V→Prop) (hl:SqL K H a xs) (hz:xs.length≤sizeLine)
  (hte:∀ (i:Nat) (x:V) (H':Hp) (R:VK),xs[i]?=some x→Same H H'→(∀ y,Pr i y→R y H')→te (some x::frv σ js) H' R)
  (q:∀ (D:Addr) (ys:List V),H D=none→ys.length=xs.length→(∀ i y,ys[i]?=some y→Pr i y)→Q (.ref D) (upd H D (.lst ys))) :
  uX (Itl K a) js te σ Q H:=by
 intro D hD
 refine⟨fun i m ys H'=>m=xs.length - i∧i≤xs.length∧ys.length=i∧(∀ j y,ys[j]?=some y→Pr j y)∧H'=upd H D (.lst ys),⟨xs.length,by lia,Nat.zero_le _,rfl,fun j y e=>by simp at e,rfl⟩,?_⟩
 rintro i m ys H' ⟨rfl,hi,hly,hp,rfl⟩
 refine⟨upd_same,?_⟩
 have hl':=afV (o:=.lst ys) hl hD
 by_cases hlt:i<xs.length
 ·refine .inr ⟨⟨xs,xs[i],hl',List.getElem?_eq_getElem hlt⟩,fun x H2 y=>?_⟩
  obtain⟨e,y⟩:=y
  subst e
  refine hte i x _ _ (y xs hl') (same_new hD _) fun y py=>⟨upd_same,by lia,xs.length - (i+1),by lia,rfl,by lia,by simp [hly],fun j z e=>?_,by rw [OD]⟩
  by_cases hj:j<ys.length
  ·rw [List.getElem?_append_left hj] at e
   exact hp j z e
  ·rw [List.getElem?_append_right (by lia)] at e
   have:j - ys.length=0:=by
    rcases Nat.eq_zero_or_pos (j - ys.length) with h | h
    ·exact h
    ·rw [List.getElem?_eq_none (by simp; lia)] at e; cases e
   rw [this] at e
   have e':y=z:=by simpa using e
   have ej:j=i:=by lia
   rw [← e',ej]
   exact py
 ·have ei:i=xs.length:=by lia
  exact .inl ⟨⟨xs,hl',by lia⟩,q D ys hD (by lia) hp⟩
end Sw
namespace SwR
open PySem PySem.Spec PyProof.Rows L2 Sw
theorem Bw:Slot "reversed" "__next__" "reversed.__next__":=.of (owner:="reversed") (n:="__next__") (by rw [typeLookup_type,builtinLookup_eq_fast]; kernel_rfl) (by decide +kernel) (by decide +kernel) (by decide +kernel) (by first | exact .inl (by decide +kernel) | exact .inr (by decide +kernel)) (by rw [isSubtype_type]; kernel_rfl)
theorem aaf:entryFor table "reversed.__next__"=some Builtin.«reversed.__next__»:=entryFor_of_tree (by kernel_rfl)
theorem aak (a:Value):argsOk "reversed.__next__" ⟨[a],[]⟩:=by unfold argsOk; kernel_rfl
theorem ZP:Slot "reversed" "__iter__" "reversed.__iter__":=.of (owner:="reversed") (n:="__iter__") (by rw [typeLookup_type,builtinLookup_eq_fast]; kernel_rfl) (by decide +kernel) (by decide +kernel) (by decide +kernel) (by first | exact .inl (by decide +kernel) | exact .inr (by decide +kernel)) (by rw [isSubtype_type]; kernel_rfl)
theorem ag4 (a:Value):argsOk "reversed.__iter__" ⟨[a],[]⟩:=by unfold argsOk; kernel_rfl
theorem agV:entryFor table "reversed.__iter__"=some Builtin.«dict_keyiterator.__iter__»:=entryFor_alias (id':="dict_keyiterator.__iter__") (by kernel_rfl) (by first | rfl | decide +kernel) (by decide +kernel) (by kernel_rfl)
theorem PB:Slot "reversed" "__length_hint__" "reversed.__length_hint__":=.of (owner:="reversed") (n:="__length_hint__") (by rw [typeLookup_type,builtinLookup_eq_fast]; kernel_rfl) (by decide +kernel) (by decide +kernel) (by decide +kernel) (by first | exact .inl (by decide +kernel) | exact .inr (by decide +kernel)) (by rw [isSubtype_type]; kernel_rfl)
theorem agW:entryFor table "reversed.__length_hint__"=some Builtin.«reversed.__length_hint__»:=entryFor_of_tree (by kernel_rfl)
theorem ag5 (a:Value):argsOk "reversed.__length_hint__" ⟨[a],[]⟩:=by unfold argsOk; kernel_rfl
theorem ah8:typeLookup (.type "reversed") "__len__"=pure none:=by rw [typeLookup_type,builtinLookup_eq_fast]; kernel_rfl
theorem afY:Slot "reversed" "__init__" "object.__init__":=.of (owner:="object") (n:="__init__") (by rw [typeLookup_type,builtinLookup_eq_fast]; kernel_rfl) (by decide +kernel) (by decide +kernel) (by decide +kernel) (by first | exact .inl (by decide +kernel) | exact .inr (by decide +kernel)) (by rw [isSubtype_type]; kernel_rfl)
theorem acf:typeLookup (.type "tuple") "__reversed__"=pure none:=by rw [typeLookup_type,builtinLookup_eq_fast]; kernel_rfl
theorem abE:TypeCalled "reversed" "reversed.__new__" "object.__init__" :=
 ⟨by decide +kernel,by decide +kernel,⟨_,_,F.mro_reversed⟩,F.made_reversed,by decide +kernel,by rw [isSubtype_type]; kernel_rfl,afY⟩
def RvO (h:Heap) (p a:Addr) (i:Int):Prop:=∃ o,h.get? p=some o∧o.cls=.type "reversed"∧o.data=.fields #[.ref a,rawInt i]
theorem RvO.typeIs {s:Shared}{p a:Addr}{i:Int} (x:RvO s.heap p a i):s.TypeIs (.ref p) "reversed":=let ⟨o,ho,hc,_⟩:=x; ⟨o,ho,hc⟩
section
variable {prog:Program}{w:World}{A:Around}{E:Value→Shared→Prop}{s:Shared}
theorem next_item {it a:Addr}{i:Nat}{items:Array Value}{x:Value}{Q:Option Value→Shared→Prop} (hit:RvO s.heap it a (i:Int)) (ht:IsTup s.heap a items) (hx:items[i]?=some x) (hz:items.size≤sizeLine) (hne:a≠it)
  (hQ:∀ h' tk,RvO h' it a ((i:Int) - 1)→Heap.SameBut it s.heap h'→Q (some x) { s with heap:=h',toks:=tk }):wpAny (model prog w) A (pyNext (.ref it)) Q E s:=by
 obtain⟨o,ho,hc,hd⟩:=id hit
 unfold pyNext
 refine wpAny_bind (wpAny_attempt (wpAny_callSpecial?_slot (name:=Str.ofString "__next__") hit.typeIs Bw (wpAny_call_entry Bw hit.typeIs aaf ?_ (aak _))))
 unfold Builtin.«reversed.__next__»
 refine wpAny_bind (wpAny_of_eq (a:=(Value.ref it,[])) rfl ?_)
 dsimp only
 refine wpAny_bind (wpAny_field ho hd (x:=.ref a) rfl ?_)
 refine wpAny_bind (wpAny_field ho hd (x:=rawInt (i:Int)) rfl ?_)
 show wpAny _ _ (if (i:Int)<0 then _ else _) _ _ s
 rw [if_neg (by lia)]
 refine wpAny_bind (wpAny_specialOf ht.typeIs PyProof.Rows.slot_tuple_getitem.lookup ?_)
 rw [if_neg (by decide)]
 have hi:i<items.size:=(Array.getElem?_eq_some_iff.mp hx).1
 have hl:sizeLine=16777216:=sizeLine_eq
 refine wpAny_bind (wpAny_mkInt ?_)
 refine wpAny_bind (wpAny_attempt (getItem_tuple (j:=i) ht (by lia) (by lia) (by rw [seqIndex_of (by lia) (by lia)]; rfl) hx ?_))
 dsimp only
 refine wpAny_bind (wpAny_field ho hd (x:=rawInt (i:Int)) rfl ?_)
 refine wpAny_bind (wpAny_setField ho hd (by simp) ?_)
 refine wpAny_pure ⟨x,rfl,wpAny_pure (hQ _ _ ?_ (Heap.SameBut.update ..))⟩
 exact⟨_,Heap.get?_update_self _ ho (Obj.isFreed_of_fields (Obj.data_mapFields hd _)),(Obj.cls_mapFields ..).trans hc,by rw [Obj.data_mapFields hd]; simp⟩
theorem next_end {it a:Addr}{Q:Option Value→Shared→Prop} (hh:A.handled=none) (hit:RvO s.heap it a (-1))
  (hQ:∀ h',Heap.ExtBut it s.heap h'→Q none { s with heap:=h' }):wpAny (model prog w) A (pyNext (.ref it)) Q E s:=by
 obtain⟨o,ho,hc,hd⟩:=id hit
 unfold pyNext
 refine wpAny_bind (wpAny_attempt (wpAny_callSpecial?_slot (name:=Str.ofString "__next__") hit.typeIs Bw (wpAny_call_entry Bw hit.typeIs aaf ?_ (aak _))))
 unfold Builtin.«reversed.__next__»
 refine wpAny_bind (wpAny_of_eq (a:=(Value.ref it,[])) rfl ?_)
 dsimp only
 refine wpAny_bind (wpAny_field ho hd (x:=.ref a) rfl ?_)
 refine wpAny_bind (wpAny_field ho hd (x:=rawInt (-1)) rfl ?_)
 show wpAny _ _ (if (-1:Int)<0 then _ else _) _ _ s
 rw [if_pos (by decide)]
 refine wpAny_bind (wpAny_rule ?_)
 have e1:=Heap.get?_update_self (Obj.mapFields fun vs=>vs.setIfInBounds 1 (rawInt (-1))) ho (Obj.isFreed_of_fields (Obj.data_mapFields hd _))
 refine wpAny_bind (wpAny_bind (wpAny_setField ho hd (by simp) ?_))
 refine wpAny_setField e1 (Obj.data_mapFields hd _) (by simp) ?_
 refine wpAny_bind ?_
 unfold Builtin.SmallTypes.stopIteration
 refine wpAny_bind ?_
 simp only [newExc,newTuple]
 refine wpAny_bind (wpAny_newObj_type ?_ (by size_fits)); refine wpAny_bind (m:=firstArgMember _ _) (wpAny_of_eq (a:=Value.none) (by first | rfl | (simp only [firstArgMember]; rfl)) ?_); refine wpAny_newObj_type ?_ (by size_fits)
 simp only [raiseNew]; refine wpAny_bind (wpAny_handled ?_)
 first | rw [show A.in1.handled=none from hh] | rw [hh]
 refine wpAny_bind (wpAny_pure (wpAny_throw ?_)); refine wpAny_bind (wpAny_isInstance (T:="StopIteration") (b:=true) ⟨_,Heap.get?_push_size _ rfl,rfl⟩ isSubtype_stop (wpAny_pure (hQ _ ?_)))
 intro b ob hb e
 refine Heap.get?_push_of_some _ (Heap.get?_push_of_some _ ?_)
 exact (Heap.get?_update_other _ _ (Ne.symm hb)).trans ((Heap.get?_update_other _ _ (Ne.symm hb)).trans e)
theorem zP {it a:Addr}{i:Int}{Q:Value→Shared→Prop} (hit:RvO s.heap it a i) (h:Q (.ref it) s):wpAny (model prog w) A (pyIter (.ref it)) Q E s:=by
 refine wpAny_pyIter_slot hit.typeIs ZP (wpAny_call_entry ZP hit.typeIs agV ?_ (ag4 _))
 show wpAny _ _ (ret (.ref it)) _ _ s
 exact wpAny_pure ⟨_,rfl,"reversed",_,hit.typeIs,Bw.lookup,h⟩
theorem RvO.keep {h h':Heap}{p a:Addr}{i:Int} (x:RvO h p a i) (e:∀ o,h.get? p=some o→h'.get? p=some o):RvO h' p a i:=let ⟨o,ho,r⟩:=x; ⟨o,e _ ho,r⟩
theorem Cu {h h':Heap}{a:Addr}{items:Array Value} (x:IsTup h a items) (e:∀ o,h.get? a=some o→h'.get? a=some o):IsTup h' a items:=let ⟨o,ho,r⟩:=x; ⟨o,e _ ho,r⟩
end
theorem ab4 {prog:Program}{w:World}{A:Around} (hh:A.handled=none) (I a:Addr) (hne:a≠I) (items:Array Value) (hz:items.size≤sizeLine) :
  Walks prog w A I [I,a] [I] items.size (fun i v=>items[items.size - 1 - i]?=some v) (fun i h=>i≤items.size∧RvO h I a ((items.size:Int) - 1 - (i:Int))∧IsTup h a items) where
 sub:=fun b hb=>by simp at hb; simp [hb]
 frame:=fun _ _ _ x hk=>⟨x.1,x.2.1.keep fun o e=>hk I (by simp) o e,Cu x.2.2 fun o e=>hk a (by simp) o e⟩
 item:=fun i s Q E hi x hQ=>by
  obtain⟨_,hit,ht⟩:=x
  have e:(items.size:Int) - 1 - (i:Int)=((items.size - 1 - i:Nat):Int):=by lia
  rw [e] at hit
  have hx:items[items.size - 1 - i]?=some (items[items.size - 1 - i]'(by lia)):=Array.getElem?_eq_getElem (by lia)
  refine next_item hit ht hx hz hne fun h' tk hit' hs'=>hQ _ h' tk hx ⟨by lia,?_,Cu ht fun o eo=>(hs'.2 a hne).trans eo⟩ fun b o hb eo=>hs'.extBut b o (fun z=>hb (by simp [z])) eo
  have e2:((items.size - 1 - i:Nat):Int) - 1=(items.size:Int) - 1 - ((i+1:Nat):Int):=by lia
  rw [← e2]
  exact hit'
 done:=fun s Q E x hQ=>by
  obtain⟨_,hit,ht⟩:=x
  have e:(items.size:Int) - 1 - (items.size:Int)=-1:=by lia
  rw [e] at hit
  exact next_end hh hit fun h' he'=>hQ h' s.toks fun b o hb eo=>he' b o (fun z=>hb (by simp [z])) eo
 self:=fun _ _ _ _ x hQ=>zP x.2.1 hQ
section
variable {prog:Program}{w:World}{A:Around}{E:Value→Shared→Prop}{s:Shared}
theorem Sy (k:Int) (u:Tok):asInt? (.int k u)=pure (some k):=rfl
theorem adu {it a:Addr}{items:Array Value}{Q:Value→Shared→Prop} (hit:RvO s.heap it a ((items.size:Int) - 1)) (ht:IsTup s.heap a items) (hz:items.size≤sizeLine)
  (hQ:∀ t tk,s.toks≤tk→Q (.int (items.size:Int) t) { s with toks:=tk }):wpAny (model prog w) A (call (.builtin "reversed.__length_hint__") [.ref it]) Q E s:=by
 obtain⟨o,ho,hc,hd⟩:=id hit
 have hl:sizeLine=16777216:=sizeLine_eq
 refine wpAny_call_entry PB hit.typeIs agW ?_ (ag5 _)
 unfold Builtin.«reversed.__length_hint__»
 refine wpAny_bind (wpAny_of_eq (a:=Value.ref it) rfl ?_)
 refine wpAny_bind (wpAny_field ho hd (x:=.ref a) rfl ?_)
 rw [if_neg (show ¬ ((Value.ref a == Value.none)=true) from Bool.false_ne_true)]
 refine wpAny_bind (len_tuple ht (by lia) ?_)
 refine wpAny_bind (m:=asInt? (.int (items.size:Int) (s.toks+1))) (wpAny_pure ?_)
 dsimp only
 refine wpAny_bind (wpAny_field ho hd (x:=rawInt ((items.size:Int) - 1)) rfl ?_)
 show wpAny _ _ (if (items.size:Int)<((items.size:Int) - 1)+1 then _ else retInt (((items.size:Int) - 1)+1)) _ _ _
 rw [if_neg (by lia),show ((items.size:Int) - 1)+1=(items.size:Int) by lia]
 unfold retInt
 refine wpAny_bind (wpAny_mkInt (wpAny_pure ⟨_,rfl,hQ _ _ ?_⟩))
 show s.toks≤s.toks+1+1+1
 lia
theorem aaK {it a S:Addr}{items:Array Value}{c₀:Nat}{R:Result→Shared→Prop} (hh:A.handled=none) (hit:RvO s.heap it a ((items.size:Int) - 1)) (ht:IsTup s.heap a items) (hz:items.size≤sizeLine)
  (hai:a≠it) (hSi:S≠it) (hSa:S≠a) (hS:s.heap.get? S=some { cls:=.type "list",data:=.seq #[] c₀ })
  (hR:∀ h' tk acc' c',(∀ b o,b≠S→b≠it→s.heap.get? b=some o→h'.get? b=some o)→h'.get? S=some { cls:=.type "list",dict:=none,data:=.seq acc' c',slots:=#[] } →
   ItemsOf (fun i v=>items[items.size - 1 - i]?=some v) acc' items.size→R (.ok (.ret .none)) { s with heap:=h',toks:=tk }) :
  wpAny (model prog w) A.in1 (Builtin.List.listExtendWith (.ref S) (.ref it) .none)
   (fun fin s'=>match fin with | .done f=>R (.ok f) s' | .again c'=>c'.quiet=true∧codeAny (model prog w) A c' R s') (fun e s'=>R (.error e) s') s:=by
 have hl:sizeLine=16777216:=sizeLine_eq
 have h1:Builtin.List.listSameRef (.ref S) (.ref it)=false:=by simp [Builtin.List.listSameRef,hSi]
 unfold Builtin.List.listExtendWith
 refine wpAny_bind (wpAny_typeOf hit.typeIs ?_)
 rw [if_neg (by rw [h1]; decide)]
 refine wpAny_bind (zP hit ?_)
 refine wpAny_bind (wpAny_holding ?_)
 unfold Builtin.List.listLengthHint
 refine wpAny_bind (wpAny_specialOf hit.typeIs ah8 ?_)
 show wpAny _ A.in1 (specialOf (Value.ref it) (Str.ofString "__length_hint__") >>= _) _ _ _
 refine wpAny_bind (wpAny_specialOf hit.typeIs PB.lookup ?_)
 (generalize hid:("reversed.__length_hint__":String)=id0; (fail_if_success (clear hid id0)); wp_delta; rw [show splitId id0=some ("reversed","__length_hint__") from by subst hid; decide +kernel]; subst hid)
 refine wpAny_bind (wpAny_isInstance (b:=true) hit.typeIs (by rw [isSubtype_type]; kernel_rfl) ?_)
 rw [if_neg (by decide)]
 dsimp only
 rw [if_neg (by decide)]
 refine wpAny_bind (wpAny_rule ?_)
 refine wpAny_bind (wpAny_of_eq (PB.bind _) ?_)
 dsimp only
 refine wpAny_bind (wpAny_attempt (adu hit ht hz fun t tk htk=>?_))
 dsimp only
 rw [Sy,pure_bind]
 dsimp only
 have hf:Builtin.List.listFitsIndex (items.size:Int)=true:=by
  unfold Builtin.List.listFitsIndex
  simp only [Bool.and_eq_true,decide_eq_true_eq]
  lia
 have htl:Builtin.List.listTooLong (Int.toNat (items.size:Int))=false:=by
  rw [Int.toNat_natCast]
  exact K3 hz
 rw [if_neg (by rw [hf]; decide),if_neg (by lia),if_neg (by rw [htl]; decide)]
 refine wpAny_pure ?_
 have hSf:S ∉ [it,a]:=by simp [hSi,hSa]
 have W:=ab4 (prog:=prog) (w:=w) (A:=A.in1) hh it a hai items hz
 have loop:∀ (s2:Shared) (c₂:Nat),(∀ b o,b≠S→s.heap.get? b=some o→s2.heap.get? b=some o)→s2.heap.get? S=some { cls:=.type "list",data:=.seq #[] c₂ }→s2.gens=s.gens→s2.drawn=s.drawn→s2.os=s.os →
   codeAny (model prog w) A (.builtin "list.extend.loop" ⟨[.ref S,.ref it,.none],[]⟩) R s2:=fun s2 c₂ hk hS2 g1 g2 g3=>by
  have st:0≤items.size∧RvO s2.heap it a ((items.size:Int) - 1 - ((0:Nat):Int))∧IsTup s2.heap a items:=by
   refine⟨Nat.zero_le _,?_,Cu ht fun o e=>hk a o (Ne.symm hSa) e⟩
   have:(items.size:Int) - 1 - ((0:Nat):Int)=(items.size:Int) - 1:=by lia
   rw [this]
   exact hit.keep fun o e=>hk it o (Ne.symm hSi) e
  refine codeAny_extend_loopS W.toS hz S hSf .none items.size 0 s2 #[] c₂ rfl (Nat.zero_le _) st hS2 (ItemsOf.nil _) fun s' acc' c' hm hS' hacc=>?_
  have hs':=Moved.eq_with hm
  rw [g1,g2,g3] at hs'
  rw [hs']
  exact hR s'.heap s'.toks acc' c' (fun b o hbS hbi e=>hm.heap b o (by simp [hbS,hbi]) (hk b o hbS e)) hS' hacc
 split
 ·refine wpAny_bind (wpAny_rule ?_)
  unfold Builtin.List.listTouch
  have e1:=Heap.get?_update_self (Obj.mapSeq (·.push Value.none)) hS rfl
  have e2:=Heap.get?_update_self (Obj.mapSeq (·.pop)) e1 rfl
  refine wpAny_bind (wpAny_bind (m:=Builtin.List.listUpdate (.ref S) (·.push Value.none)) (wpAny_updateSeq hS rfl ?_ (hz:=Nat.zero_le _) (_hz':=Nat.succ_le_succ (Nat.zero_le _))))
  refine wpAny_updateSeq e1 rfl ?_ (hz:=(by show 1≤sizeLine; decide)) (_hz':=Nat.zero_le _)
  refine wpAny_pure ⟨plainId_quiet F.plain_extend_loop _,loop _ _ (fun b o hb e=>?_) (by simpa [Obj.mapSeq] using e2) rfl rfl rfl⟩
  exact (Heap.get?_update_other _ _ (Ne.symm hb)).trans ((Heap.get?_update_other _ _ (Ne.symm hb)).trans e)
 ·exact wpAny_pure ⟨plainId_quiet F.plain_extend_loop _,loop _ c₀ (fun b o _ e=>e) hS rfl rfl rfl⟩
theorem T6 {it a:Addr}{items:Array Value}{Q:Value→Shared→Prop} (hh:A.handled=none) (hit:RvO s.heap it a ((items.size:Int) - 1)) (ht:IsTup s.heap a items) (hz:items.size≤sizeLine) (hai:a≠it)
  (hQ:∀ h' tk acc' c',(∀ b o,b≠it→s.heap.get? b=some o→h'.get? b=some o)→h'.get? s.heap.objs.size=some { cls:=.type "list",dict:=none,data:=.seq acc' c',slots:=#[] } →
   acc'.toList=items.toList.reverse→Q (.ref s.heap.objs.size) { s with heap:=h',toks:=tk }):wpAny (model prog w) A (call (.type "list") [.ref it]) Q E s:=by
 have lit:it<s.heap.objs.size:=let ⟨_,ho,_⟩:=hit; Heap.lt_size ho
 have la:a<s.heap.objs.size:=let ⟨_,ho,_⟩:=ht; Heap.lt_size ho
 refine callType_codes (Q₁:=fun obj s₁=>obj=.ref s.heap.objs.size∧s₁={ s with heap:=s.heap.push { cls:=.type "list",data:=.seq #[] } }) F.called_list (F.typeCall_list_1 _) F.entry_list_init (code_list_new _ ⟨rfl,rfl⟩) fun obj s1 h1=>?_
 obtain⟨e1,e2⟩:=h1
 subst e1 e2
 have hS:(s.heap.push { cls:=.type "list",data:=.seq #[] }).get? s.heap.objs.size=some { cls:=.type "list",data:=.seq #[] }:=Heap.get?_push_size _ rfl
 refine⟨⟨_,hS,rfl⟩,F.args_list_init_2 _ _,?_⟩
 show wpAny _ _ (Builtin.List.listItems (.ref s.heap.objs.size) >>= fun old=>Builtin.List.listUpdate (.ref s.heap.objs.size) (fun _=>#[]) >>= fun _=>letGo old.toList.reverse >>= fun _=>Builtin.List.listExtendWith (.ref s.heap.objs.size) (.ref it) .none) _ _ _
 refine wpAny_bind ?_
 unfold Builtin.List.listItems
 refine wpAny_bind (wpAny_seqItems hS rfl (wpAny_pure ?_))
 refine wpAny_bind (m:=Builtin.List.listUpdate (.ref s.heap.objs.size) (fun _=>#[])) (wpAny_updateSeq hS rfl ?_)
 have hS2:=Heap.get?_update_self (Obj.mapSeq (fun _=>(#[]:Array Value))) hS rfl
 have oth:∀ b o,b≠s.heap.objs.size→s.heap.get? b=some o→((s.heap.push { cls:=.type "list",data:=.seq #[] }).update s.heap.objs.size (Obj.mapSeq (fun _=>(#[]:Array Value)))).get? b=some o :=
  fun b o hb e=>(Heap.get?_update_other _ _ (Ne.symm hb)).trans (Heap.get?_push_of_some _ e)
 refine wpAny_bind (wpAny_letGo ?_)
 refine aaK (A:=A.in1) hh (hit.keep fun o e=>oth it o (Nat.ne_of_lt lit) e) (Cu ht fun o e=>oth a o (Nat.ne_of_lt la) e) hz hai (Nat.ne_of_gt lit) (Nat.ne_of_gt la) hS2 fun h' tk acc' c' hk hS' hacc=>?_
 refine⟨rfl,hQ h' tk acc' c' (fun b o hb e=>hk b o (Nat.ne_of_lt (Heap.lt_size e)) hb (oth b o (Nat.ne_of_lt (Heap.lt_size e)) e)) hS' ?_⟩
 obtain⟨hsz,hat⟩:=hacc
 refine List.ext_getElem? fun i=>?_
 by_cases hi:i<items.size
 ·have h1:=hat i (acc'[i]'(by lia)) (Array.getElem?_eq_getElem (by lia))
  rw [List.getElem?_reverse (by rw [Array.length_toList]; exact hi),Array.length_toList,Array.getElem?_toList,Array.getElem?_toList,h1,Array.getElem?_eq_getElem (by lia)]
 ·rw [List.getElem?_eq_none (by rw [Array.length_toList]; lia),List.getElem?_eq_none (by rw [List.length_reverse,Array.length_toList]; lia)]
end
section
variable {prog:Program}{w:World}{A:Around}{E:Value→Shared→Prop}{s:Shared}
theorem Td (a:Addr) (items:Array Value) (n:Nat) (dd:Option Addr) (sl:Array (Option Value)) (hz:items.size≤sizeLine) :
  Meets (Builtin.«reversed.__new__» ⟨[.type "reversed",.ref a],[]⟩) (fun _ R s=>s.heap.get? a=some { cls:=.type "tuple",dict:=dd,data:=.seq items n,slots:=sl } ∧
   ∀ tk,R (.ok (.ret (.ref s.heap.objs.size))) { s with heap:=s.heap.push { cls:=.type "reversed",data:=.fields #[.ref a,rawInt ((items.size:Int) - 1)] },toks:=tk }) :=
 .of_wp fun prog w A R s h=>by
  obtain⟨ht,h⟩:=h
  have hl:sizeLine=16777216:=sizeLine_eq
  have hT:s.TypeIs (.ref a) "tuple":=⟨_,ht,rfl⟩
  have hI:IsTup s.heap a items:=⟨_,ht,rfl,n,rfl⟩
  unfold Builtin.«reversed.__new__»
  refine wpAny_bind (wpAny_of_eq (newClass_reversed _) ?_)
  dsimp only
  refine wpAny_bind (wpAny_of_eq (a:=()) (by first | rfl | kernel_rfl) ?_); refine wpAny_bind (wpAny_of_eq (a:=()) (by first | rfl | kernel_rfl) ?_)
  refine wpAny_bind (wpAny_specialOf hT acf ?_)
  dsimp only
  refine wpAny_bind ?_
  refine wpAny_bind (wpAny_isInstance (b:=false) hT (by rw [isSubtype_type]; kernel_rfl) ?_)
  rw [if_neg (by decide)]
  refine wpAny_bind (wpAny_specialOf hT PyProof.Rows.slot_tuple_getitem.lookup ?_)
  dsimp only
  rw [if_pos (by decide)]
  refine wpAny_pure ?_
  rw [if_neg (by decide)]
  refine wpAny_bind (len_tuple hI (by lia) ?_)
  rw [Sy,pure_bind]
  dsimp only
  show wpAny _ _ (newObj (.type "reversed") (.fields #[.ref a,rawInt ((items.size:Int) - 1)]) >>= _) _ _ _
  refine wpAny_bind (wpAny_newObj_type ?_)
  exact wpAny_pure ⟨_,rfl,h _⟩
theorem Xj {a:Addr}{items:Array Value}{Q:Value→Shared→Prop} (ht:IsTup s.heap a items) (hz:items.size≤sizeLine)
  (h:∀ tk,Q (.ref s.heap.objs.size) { s with heap:=s.heap.push { cls:=.type "reversed",data:=.fields #[.ref a,rawInt ((items.size:Int) - 1)] },toks:=tk }):wpAny (model prog w) A (call (.type "reversed") [.ref a]) Q E s:=by
 obtain⟨⟨c,d,dt,sl⟩,ho,hc,n,hd⟩:=id ht
 simp only at hc hd
 subst hc hd
 refine callType_new abE (by decide) (F.typeCall_reversed_1 _) (F.newCall_reversed_1 _) (fun obj=>F.args_object_init_2 obj _) F.entry_reversed_new (Td a items n d sl hz) ⟨ho,fun tk=>?_⟩
 exact⟨⟨_,Heap.get?_push_size _ rfl,rfl⟩,h tk⟩
end
theorem uV:bootBuiltins "reversed"=some (.type "reversed"):=by decide +kernel
theorem afi:bootBuiltins "list"=some (.type "list"):=by decide +kernel
def tLR (K:PySem.W.Frag) (te:TE):TE:=fun σ H Q=>te σ H fun x H1=>∃ a ys,x=.ref a∧SqT K H1 a ys∧∀ l,H1 l=none→Q (.ref l) (upd H1 l (.lst ys.reverse))
theorem aaO {X:Cx}{e:Expr}{te:TE}{p1 p2 pos pos2:Pos} (hgl:Gl X "list") (hgr:Gl X "reversed") (ml:X.mg "list"=none) (mr:X.mg "reversed"=none) (hc:X.calm=true) (he:PE X e te)
  (hs1:starEach [.Call (.Name "reversed" p2) [e] [] pos2] X.env=[(false,eval (.Call (.Name "reversed" p2) [e] [] pos2) X.env)]:=by rfl) (hs2:starEach [e] X.env=[(false,eval e X.env)]:=by rfl) :
  PE X (.Call (.Name "list" p1) [.Call (.Name "reversed" p2) [e] [] pos2] [] pos) (tLR X.K te):=by
 intro pins s σ H Q I h
 refine wpAny_Call_Name_kw (ld_blt I hgl ml afi ?_)
 refine PyProof.Rows.callWith_type1 ?_ (by rw [hs1]; rfl) (by rfl)
 rw [hs1]
 refine Calls.spliced_cons ?_
 refine wpAny_Call_Name_kw (ld_blt I hgr mr uV ?_)
 refine PyProof.Rows.callWith_type1 ?_ (by rw [hs2]; rfl) (by rfl)
 rw [hs2]
 refine Calls.spliced_cons (thn (he pins s σ H _ I h) fun v s1 ⟨x,H1,I1,r1,q1⟩=>Calls.spliced_nil ?_)
 obtain⟨a,ys,e1,hq,q⟩:=q1
 subst e1
 cases r1
 obtain⟨its,rv,ht,hz⟩:=I1.tuple hq
 have hlen:=rv.length
 have hz':its.toArray.size≤sizeLine:=by rw [List.size_toArray]; lia
 refine Xj ht hz' fun tk=>Calls.spliced_nil ?_
 generalize Lq:({ s1 with heap:=s1.heap.push { cls:=.type "reversed",data:=.fields #[.ref a,rawInt ((its.toArray.size:Int) - 1)] },toks:=tk }:Shared)=s2
 have I2:Inv X pins σ H1 s2:=by rw [← Lq]; exact I1.kept fun b o e=>Heap.get?_push_of_some _ e
 have la:a<s1.heap.objs.size:=let ⟨_,ho,_⟩:=ht; Heap.lt_size ho
 have sz2:s2.heap.objs.size=s1.heap.objs.size+1:=by rw [← Lq]; exact Heap.size_push ..
 have hit:RvO s2.heap s1.heap.objs.size a ((its.toArray.size:Int) - 1):=by rw [← Lq]; exact⟨_,Heap.get?_push_size _ rfl,rfl,rfl⟩
 have ht2:IsTup s2.heap a its.toArray:=by rw [← Lq]; exact ht.push _
 have fp:FpOk X pins H1 s1.heap.objs.size:=I1.fpOk (Nat.le_refl _) (I1.hok.fresh (Nat.le_refl _))
 refine T6 (I2.ok.hd hc) hit ht2 hz' (Nat.ne_of_lt la) fun h' tk' acc' c' hk hS' hacc=>?_
 have hfree:H1 s2.heap.objs.size=none:=I2.hok.fresh (Nat.le_refl _)
 have hp0:H1 s1.heap.objs.size=none:=fp.1
 have oks:ObjOk X.prog X.w (upd H1 s2.heap.objs.size (.lst ys.reverse)) h' s2.heap.objs.size (.lst ys.reverse):=by
  refine⟨by rw [List.length_reverse]; exact hz,its.reverse,c',rv.reverse,?_⟩
  rw [hS',show acc'=its.reverse.toArray from Array.toList_inj.mp (by simpa using hacc)]
 have nS:∀ b o,s2.heap.get? b=some o→b≠s2.heap.objs.size:=fun b o e=>Nat.ne_of_lt (Heap.lt_size e)
 have np:∀ b u,H1 b=some u→b≠s1.heap.objs.size:=fun b u e=>ne_of_none e hp0
 have nh:∀ b u,H1 b=some u→upd H1 s2.heap.objs.size (.lst ys.reverse) b=some u:=fun b u e=>by rw [upd_ne (ne_of_none e hfree)]; exact e
 have hok:HOk X.prog X.w (upd H1 s2.heap.objs.size (.lst ys.reverse)) h':=fun b u e=>by
  by_cases hb:b=s2.heap.objs.size
  ·subst hb
   rw [upd_same] at e
   cases e
   exact oks
  ·rw [upd_ne hb] at e
   refine (I2.hok b u e).stay (fun c v hc' q'=>hk c v ?_ q') (fun x q'=>nh _ _ q') fun c v q'=>nh _ _ q'
   rcases hc' with z | z
   ·rw [z]; exact np b u e
   ·exact np c _ z
 have I3:Inv X pins σ (upd H1 s2.heap.objs.size (.lst ys.reverse)) { s2 with heap:=h',toks:=tk' }:=by
  refine I2.step (g':=s2.gens) (d':=s2.drawn) (t':=tk') (ch:=[s1.heap.objs.size]) (fun b hb=>?_) (fun b o _ _ hb e _=>hk b o (fun z=>hb (by simp [z])) e) (fun b o _ _ hb e _=>⟨o.slots,hk b o (fun z=>hb (by simp [z])) e⟩)
   (fun b o _ e n=>by rw [upd_ne (nS b o e)]; exact n) (fun b o hb e=>⟨o,hk b o (fun z=>hb (by simp [z])) e⟩) (fun b xs e=>nh _ _ e) (fun b o u e=>nh _ _ e) (fun b ps e=>⟨#[],by rw [nh _ _ e]; simp⟩) (fun m hm=>?_) hok I2.bare
  ·have e:b=s1.heap.objs.size:=by simpa using hb
   subst e
   exact⟨fp.2.2.2.1,fp.2.1,fp.2.2.2.2.1,fp.2.2.2.2.2⟩
  ·obtain⟨o,es,ep,ho,r⟩:=hm
   exact⟨o,es,ep,hk _ o (Ne.symm fp.2.1) ho,r⟩
 exact⟨.ref s2.heap.objs.size,_,I3,rfl,q _ hfree⟩
end SwR
namespace Sw
open PySem PySem.Spec PyProof.Rows L2
section
variable {X:Cx}
theorem ae_ {pins:List (Addr×Obj)}{σ:Sg}{H:Hp}{s:Shared} (I:Inv X pins σ H s) {ts us:List T}{xs ys:List V}{its its2:List Value} (q2:TRs X.K H ts xs) (r2:TRs X.K H us ys) (rv:Vals xs its) (rv2:Vals ys its2) {n:Nat}{A:Around}
  (hd:T.bM ts≤n+1) (hu:A.units+n<cLine):∀ j (h1:j<its.toArray.size) (h2:j<its2.toArray.size),SeqAt.EqAt A s its.toArray[j] its2.toArray[j] (nT ts us j):=by
 intro j j1 j2
 have l1:=rv.length
 have l2:=rv2.length
 have j1':j<xs.length:=by rw [l1]; simpa using j1
 have j2':j<ys.length:=by rw [l2]; simpa using j2
 obtain⟨u1,hu1,ru1⟩:=rv.get (List.getElem?_eq_getElem j1')
 obtain⟨u2,hu2,ru2⟩:=rv2.get (List.getElem?_eq_getElem j2')
 obtain⟨t1,ht1,tr1⟩:=q2.get (List.getElem?_eq_getElem j1')
 obtain⟨t2,aeY,tr2⟩:=r2.get (List.getElem?_eq_getElem j2')
 have ee:nT ts us j=T.beq t1 t2:=by unfold nT; rw [ht1,aeY]
 have g1:its.toArray[j]=u1:=by
  have:its[j]?=some u1:=hu1
  rw [List.getElem?_eq_some_iff] at this
  obtain⟨_,e⟩:=this
  simpa using e
 have g2:its2.toArray[j]=u2:=by
  have:its2[j]?=some u2:=hu2
  rw [List.getElem?_eq_some_iff] at this
  obtain⟨_,e⟩:=this
  simpa using e
 rw [ee,g1,g2]
 obtain⟨a1,zs1,e1,_⟩:=Ed tr1
 obtain⟨a2,zs2,e2,_⟩:=Ed tr2
 rw [e1] at ru1 tr1
 rw [e2] at ru2 tr2
 obtain rfl:u1=Value.ref a1:=ru1
 obtain rfl:u2=Value.ref a2:=ru2
 by_cases hne:a1=a2
 ·subst hne
  have et:t1=t2:=(Uu I t1.parts).1 t1 t2 _ (Nat.le_refl _) tr1 tr2
  rw [et,T.rE]
  exact SeqAt.EqAt.same _
 ·have hd1:t1.deep≤n:=by
   have:=T.uo (List.mem_of_getElem? ht1)
   lia
  exact SeqAt.EqAt.of_refs hne (ZW I n t1 t2 A a1 a2 hd1 tr1 tr2 hu)
def ajZ (K:PySem.W.Frag) (n:Nat):R2:=fun x y H Q=>∃ t u,TR K H t x∧TR K H u y∧t.deep≤n∧Q (.bl (!T.beq t u)) H
theorem wV {n:Nat} (hu:X.A.units+n+1<cLine):OpR X (compareOp .NotEq) (ajZ X.K n):=by
 intro pins s σ H x y v u Q I rx ry h
 obtain⟨t,t',h1,h2,hd,q⟩:=h
 cases t with
 | node ts =>
  cases t' with
  | node us =>
   obtain⟨a,xs,rfl,q1,q2⟩:=cF.mp h1
   obtain⟨b,ys,rfl,r1,r2⟩:=cF.mp h2
   cases rx
   cases ry
   rw [T.aK] at hd
   obtain⟨its,rv,ht,_⟩:=I.tuple q1
   obtain⟨its2,rv2,ht2,_⟩:=I.tuple r1
   have key:=SeqAt.RcNeAt.tuples (A:=X.A) (e:=nT ts us) ht ht2 (by lia) (ae_ I q2 r2 rv rv2 (n:=n) (by lia) (by rw [Around.in1_units]; lia))
   have ev:((List.range (min its.toArray.size its2.toArray.size)).all (nT ts us) && its.toArray.size == its2.toArray.size)=T.beq (.node ts) (.node us):=by
    rw [List.size_toArray,List.size_toArray,← rv.length,← rv2.length,q2.length,r2.length,T.beq,← wN]
   rw [ev] at key
   exact key _ _ _ _ ⟨.bl _,H,I,rfl,q⟩
end
end Sw
namespace Sw
namespace T
end T
namespace T
end T
open PySem PySem.Spec PyProof.Rows L2
section
variable {P:Program}{w:World}{K:PySem.W.Frag}{mg:Str→Option Value}{base:Heap}{N:List Str}{qual:Str}{scope:Scope}{f:Addr}{cd:Value}{A:Around}{outer:List Env}{s₀:Shared}{H₀:Hp}{E:XK}
end
section
variable {X:Cx}{pins:List (Addr×Obj)}{σ:Sg}{H:Hp}{s:Shared}
end
section
variable {K:PySem.W.Frag}{C a:Addr}{prog:Program}{w:World}{A:Around}
end
structure QE (X:Cx) (e:Expr) (t:TE):Prop where
 run:PE X e t
structure QT (X:Cx) (e:Expr) (t:TT):Prop where
 run:PT X e t
structure QW (X:Cx) (e:Expr) (t:TT):Prop where
 run:PW X e t
structure QA (X:Cx) (es:List Expr) (t:TA):Prop where
 run:PA X es t
structure QS (X:Cx) (st:Stmt) (t:TS):Prop where
 run:PS X st t
structure QSs (X:Cx) (st:List Stmt) (t:TS):Prop where
 run:PSs X st t
structure QI (X:Cx) (tg iter:Expr) (wi:TI):Prop where
 run:PI X tg iter wi
structure QG (X:Cx) (tg:Expr) (t:TG):Prop where
 run:PG X tg t
structure QGs (X:Cx) (ts:List Expr) (t:TGs):Prop where
 run:PGs X ts t
structure QO (X:Cx) (o:Option Expr) (t:TO):Prop where
 run:PO X o t
theorem QW.pt {X:Cx}{e:Expr}{t:TT} (h:QW X e t):QT X e t:=⟨h.run.pt⟩
theorem qv {X:Cx} (i:Nat) {x:Str}{pos:Pos} (hN:X.N[i]?=some x:=by rfl) (hv:Vis X.env.scope x:=by first | exact Or.inl rfl | exact Or.inr (Or.inl rfl) | exact Or.inr (Or.inr rfl)) (hd:(x == ("__debug__":Str))=false:=by decide) (hcd:(x == ("__classdict__":Str))=false:=by decide):QE X (.Name x pos) (tVar i):=⟨L2.pv (i:=i) (hN:=hN) (hv:=hv) (hd:=hd) (hcd:=hcd)⟩
theorem aD {X:Cx}{i j pos}:QE X (.Constant (.int i) j pos) (tC (.int i)):=⟨L2.pe_int⟩
theorem zN {X:Cx}{b j pos}:QE X (.Constant (.bool b) j pos) (tC (.bl b)):=⟨L2.pe_bl⟩
theorem yh {X:Cx}{j pos}:QE X (.Constant .none j pos) (tC .non):=⟨L2.ahR⟩
theorem lN {X:Cx}{x j pos}:QE X (.Constant (.str x) j pos) (tC (.str x)):=⟨L2.ahP⟩
theorem aY {X:Cx}{x:Str}{v:V}{u:Value}{pos:Pos} (hg:Gl X x) (hm:X.mg x=some u) (r:RelV v u) (hd:(x == ("__debug__":Str))=false:=by decide):QE X (.Name x pos) (tC v):=⟨L2.agn (hg:=hg) (hm:=hm) (r:=r) (hd:=hd)⟩
theorem aW {X:Cx}{a b:Expr}{ta tb:TE}{pos:Pos}{op:Operator}{r:R2} (ho:OpR X (binaryOp op) r) (ha:QE X a ta) (hb:QE X b tb):QE X (.BinOp a op b pos) (tOp r ta tb):=⟨L2.pe_op (ho:=ho) (ha:=ha.run) (hb:=hb.run)⟩
theorem zM {X:Cx}{a:Expr}{ta:TE}{pos:Pos}{op:UnaryOp}{r:V→Hp→VK→Prop} (ho:UnR X (unaryOp op) r) (ha:QE X a ta):QE X (.UnaryOp op a pos) (tUn r ta):=⟨L2.aj7 (ho:=ho) (ha:=ha.run)⟩
theorem Ii {X:Cx}{a b:Expr}{ta tb:TE}{pos:Pos}{op:CmpOp}{r:R2} (ho:OpR X (compareOp op) r) (ha:QE X a ta) (hb:QE X b tb) (hm:behindInMarks op b=false):QE X (.Compare a [op] [b] pos) (tOp r ta tb):=⟨L2.pe_cmpR (ho:=ho) (ha:=ha.run) (hb:=hb.run) (hm:=hm)⟩
theorem acK {X:Cx}{a b:Expr}{ta tb:TE}{pos:Pos}{rest:List Expr} (ha:QE X a ta) (hb:QE X (.BoolOp .And (b::rest) pos) tb):QE X (.BoolOp .And (a::b::rest) pos) (afF ta tb):=⟨L2.ahU (ha:=ha.run) (hb:=hb.run)⟩
theorem ahA {X:Cx}{a:Expr}{pos:Pos}{op}{t:TE} (h:QE X a t):QE X (.BoolOp op [a] pos) t:=⟨L2.ahQ (h:=h.run)⟩
theorem oU {X:Cx}{es:List Expr}{t:TA}{pos:Pos} (h:QA X es t):QE X (.List es pos) (tLst t):=⟨L2.pe_lst (h:=h.run)⟩
theorem aU {X:Cx}{es:List Expr}{t:TA}{pos:Pos}{x1} (h:QA X es t):QE X (.Tuple es x1 pos) (ahd t):=⟨L2.ahO (h:=h.run)⟩
theorem qQ {X:Cx}{a b:Expr}{ta tb:TE}{pos:Pos}{tA:TT}{c:Expr} (hc:QT X c tA) (ha:QE X a ta) (hb:QE X b tb):QE X (.IfExp c a b pos) (tIf tA ta tb):=⟨L2.aeC (hc:=hc.run) (ha:=ha.run) (hb:=hb.run)⟩
theorem cW {X:Cx}{e:Expr}{te:TE}{lo hi:Option Expr}{tl th:TO}{pos p2:Pos}{r:V→Option Int→Option Int→Hp→VK→Prop} (hr:SlR X r) (he:QE X e te) (hl:QO X lo tl) (hu:QO X hi th):QE X (.Subscript e (.Slice lo hi none p2) pos) (tSl r te tl th):=⟨L2.aeA (hr:=hr) (he:=he.run) (hl:=hl.run) (hu:=hu.run)⟩
theorem cB {X:Cx}{a b:Expr}{ta tb:TE}{pos:Pos}{r:R2} (hr:IxR X r) (ha:QE X a ta) (hb:QE X b tb) (hs:PlainIx b):QE X (.Subscript a b pos) (tOp r ta tb):=⟨L2.pe_ix (hr:=hr) (ha:=ha.run) (hb:=hb.run) (hs:=hs)⟩
theorem CP {X:Cx}{scope:Scope}{cl:List (Str×Addr)}{x:Str}{fr:List Str}{js:List Nat}{elt iter:Expr}{px pos:Pos}{wi:TI}{te:TE} (hc:X.calm=true) (L:zu X scope x fr js cl) (hi:QI X (.Name x px) iter wi) (he:∀ C s H fp pins,QE (blk X scope cl C (x::fr) s H fp pins) elt te) (hs:∀ v,foldedSetIterable iter X.env v=pure v:=by intro _; rfl):QE X (.ListComp elt [⟨.Name x px,iter,[],0⟩] scope pos) (tLC wi js te):=⟨Sw.aj8 (hc:=hc) (L:=L) (hi:=hi.run) (he:=fun C s H fp pins=>(he C s H fp pins).run) (hs:=hs)⟩
theorem aN {X:Cx}{CX:CXT}{k:Nat}{f:Addr}{fd:FuncData}{ps:List Str}{sp:Sp}{dvs:List V}{ds:List Value}{E:XK}{x:Str}{p pos:Pos}{e:Expr}{es:List Expr}{t:TA} (F:FnOk X.prog X.w X.K X.mg X.base CX k f fd ps sp) (hr:Room k X.A) (hg:Gl X x) (hm:X.mg x=some (.ref f)) (hk:PySem.W.keepIn X.K (.ref f)=true) (hb:Binds X.K fd ps ds) (hd:Vals dvs ds) (hx:Passes CX X E) (ha:QA X (e::es) t) (hdb:(x == ("__debug__":Str))=false:=by decide) (he:starEach (e::es) X.env=(false,eval e X.env)::starEach es X.env:=by rfl) (hpl:(backTo pos (starEach es X.env)).any (·.1)=false:=by rfl):QE X (.Call (.Name x p) (e::es) [] pos) (tCall sp dvs E t):=⟨L2.pe_call (F:=F) (hr:=hr) (hg:=hg) (hm:=hm) (hk:=hk) (hb:=hb) (hd:=hd) (hx:=hx) (ha:=ha.run) (hdb:=hdb) (he:=he) (hpl:=hpl)⟩
theorem oV {X:Cx}{CX:CXT}{k:Nat}{f:Addr}{fd:FuncData}{ps:List Str}{sp:Sp}{dvs:List V}{ds:List Value}{E:XK}{x:Str}{p pos:Pos} (F:FnOk X.prog X.w X.K X.mg X.base CX k f fd ps sp) (hr:Room k X.A) (hg:Gl X x) (hm:X.mg x=some (.ref f)) (hk:PySem.W.keepIn X.K (.ref f)=true) (hb:Binds X.K fd ps ds) (hd:Vals dvs ds) (hx:Passes CX X E) (hdb:(x == ("__debug__":Str))=false:=by decide):QE X (.Call (.Name x p) [] [] pos) (tCall sp dvs E tNil):=⟨L2.aeD (F:=F) (hr:=hr) (hg:=hg) (hm:=hm) (hk:=hk) (hb:=hb) (hd:=hd) (hx:=hx) (hdb:=hdb)⟩
theorem iT {X:Cx}{x:Str}{p pos:Pos}{e:Expr}{es:List Expr}{t:TA}{T:String}{r:List V→Hp→VK→Prop} (hc:CallR X (.type T) r) (hg:Gl X x) (hm:X.mg x=none) (hv:bootBuiltins x=some (.type T)) (ha:QA X (e::es) t) (hn:x≠"__name__":=by decide) (hdb:(x == ("__debug__":Str))=false:=by decide) (he:starEach (e::es) X.env=(false,eval e X.env)::starEach es X.env:=by rfl) (hpl:(backTo pos (starEach es X.env)).any (·.1)=false:=by rfl):QE X (.Call (.Name x p) (e::es) [] pos) (tCB r t):=⟨L2.acO (hc:=hc) (hg:=hg) (hm:=hm) (hv:=hv) (ha:=ha.run) (hn:=hn) (hdb:=hdb) (he:=he) (hpl:=hpl)⟩
theorem cX {X:Cx}{x:Str}{p pos:Pos}{e:Expr}{es:List Expr}{t:TA}{id:String}{r:List V→Hp→VK→Prop} (hc:CallR X (.builtin id) r) (hg:Gl X x) (hm:X.mg x=none) (hv:bootBuiltins x=some (.builtin id)) (ha:QA X (e::es) t) (hn:x≠"__name__":=by decide) (hdb:(x == ("__debug__":Str))=false:=by decide) (he:starEach (e::es) X.env=(false,eval e X.env)::starEach es X.env:=by rfl) (hpl:(backTo pos (starEach es X.env)).any (·.1)=false:=by rfl):QE X (.Call (.Name x p) (e::es) [] pos) (tCB r t):=⟨L2.pe_callB (hc:=hc) (hg:=hg) (hm:=hm) (hv:=hv) (ha:=ha.run) (hn:=hn) (hdb:=hdb) (he:=he) (hpl:=hpl)⟩
theorem gA {X:Cx}{o e:Expr}{es:List Expr}{to:TE}{t:TA}{name:Str}{apos cpos:Pos}{T id:String}{r:V→List V→Hp→VK→Prop} (pa:PlainAttrs T) (slot:Slot T name id) (hty:typeOf (.builtin id)=pure (.type "method_descriptor")) (hm:MtR X id r) (ho:QE X o to) (ha:QA X (e::es) t) (hbase:attributeBase o name X.env (eval o X.env)=eval o X.env:=by rfl) (hfew:((backTo cpos (starEach (e::es) X.env)).all (fun x=>!x.1) && (backToKw cpos (keywordEach [] X.env)).all (fun x=>x.1.isSome)
   && decide ((e::es).length+([]:List Keyword).length+(if ([]:List Keyword).isEmpty then 0 else 1)<30))=true:=by rfl) (hline:(apos.endLine == cpos.line)=true:=by rfl) (hs:starEach (e::es) X.env=(false,eval e X.env)::starEach es X.env:=by rfl) (hplain:(backTo cpos (starEach es X.env)).any (·.1)=false:=by rfl):QE X (.Call (.Attribute o name apos) (e::es) [] cpos) (tBM X.K T r to t):=⟨L2.aj9 (pa:=pa) (slot:=slot) (hty:=hty) (hm:=hm) (ho:=ho.run) (ha:=ha.run) (hbase:=hbase) (hfew:=hfew) (hline:=hline) (hs:=hs) (hplain:=hplain)⟩
theorem qy {X:Cx}{o:Expr}{to:TE}{name:Str}{apos cpos:Pos}{T id:String}{r:V→List V→Hp→VK→Prop} (pa:PlainAttrs T) (slot:Slot T name id) (hty:typeOf (.builtin id)=pure (.type "method_descriptor")) (hm:MtR X id r) (ho:QE X o to) (hbase:attributeBase o name X.env (eval o X.env)=eval o X.env:=by rfl) (hline:(apos.endLine == cpos.line)=true:=by rfl):QE X (.Call (.Attribute o name apos) [] [] cpos) (ahg X.K T r to):=⟨L2.ahT (pa:=pa) (slot:=slot) (hty:=hty) (hm:=hm) (ho:=ho.run) (hbase:=hbase) (hline:=hline)⟩
theorem aaL {X:Cx}{e:Expr}{te:TE}{p1 p2 pos pos2:Pos} (hgl:Gl X "list") (hgr:Gl X "reversed") (ml:X.mg "list"=none) (mr:X.mg "reversed"=none) (hc:X.calm=true) (he:QE X e te) (hs1:starEach [.Call (.Name "reversed" p2) [e] [] pos2] X.env=[(false,eval (.Call (.Name "reversed" p2) [e] [] pos2) X.env)]:=by rfl) (hs2:starEach [e] X.env=[(false,eval e X.env)]:=by rfl):QE X (.Call (.Name "list" p1) [.Call (.Name "reversed" p2) [e] [] pos2] [] pos) (SwR.tLR X.K te):=⟨SwR.aaO (hgl:=hgl) (hgr:=hgr) (ml:=ml) (mr:=mr) (hc:=hc) (he:=he.run) (hs1:=hs1) (hs2:=hs2)⟩
theorem oO {X:Cx}{e:Expr}{t:TE} (h:QE X e t) (he:∀ whole,isTrue e X.env whole=(do let v ← whole; standAt e.pos; holding [v] (truthy v)):=by intro _; rfl):QT X e (tB t):=⟨L2.ahG (h:=h.run) (he:=he)⟩
theorem CN {X:Cx}{a:Expr}{ta:TE} (ha:QE X a ta) (he:∀ whole,isTrue a X.env whole=(do let v ← whole; standAt a.pos; holding [v] (truthy v))):QT X a (fun σ H Q=>ta σ H fun x H'=>∃ k,XM X.K x H' k∧Q k H'):=⟨L2.aev (ha:=ha.run) (he:=he)⟩
theorem aV {X:Cx}{a b:Expr}{ta tb:TE}{pos:Pos}{op:CmpOp}{r:R2} (ho:OpR X (compareOp op) r) (ha:QE X a ta) (hb:QE X b tb) (hm:behindInMarks op b=false):QT X (.Compare a [op] [b] pos) (tTest (tOp r ta tb)):=⟨L2.pt_cmpR (ho:=ho) (ha:=ha.run) (hb:=hb.run) (hm:=hm)⟩
theorem Vo {X:Cx}{a:Expr}{pos:Pos}{tA:TT} (ha:QT X a tA):QT X (.UnaryOp .Not a pos) (ahe tA):=⟨L2.ahH (ha:=ha.run)⟩
theorem sG {X:Cx}{a b:Expr}{pos:Pos}{tA tB':TT}{rest:List Expr} (ha:QT X a tA) (hb:QW X (.BoolOp .And (b::rest) pos) tB'):QW X (.BoolOp .And (a::b::rest) pos) (aaB tA tB'):=⟨L2.ahE (ha:=ha.run) (hb:=hb.run)⟩
theorem pO {X:Cx}{a:Expr}{pos:Pos}{tA:TT} (ha:QT X a tA):QW X (.BoolOp .And [a] pos) tA:=⟨L2.agb (ha:=ha.run)⟩
theorem afI {X:Cx}{a b:Expr}{pos:Pos}{tA tB':TT}{rest:List Expr} (ha:QT X a tA) (hb:QW X (.BoolOp .Or (b::rest) pos) tB'):QW X (.BoolOp .Or (a::b::rest) pos) (tOr tA tB'):=⟨L2.aj5 (ha:=ha.run) (hb:=hb.run)⟩
theorem acH {X:Cx}{a:Expr}{pos:Pos}{tA:TT} (ha:QT X a tA):QW X (.BoolOp .Or [a] pos) tA:=⟨L2.ahD (ha:=ha.run)⟩
theorem ak {X:Cx}:QA X [] tNil:=⟨L2.pa_nil⟩
theorem aj {X:Cx}{e:Expr}{es:List Expr}{te:TE}{t:TA} (ha:QE X e te) (hr:QA X es t) (hs:starEach (e::es) X.env=(false,eval e X.env)::starEach es X.env:=by rfl):QA X (e::es) (tCons te t):=⟨L2.pa_cons (ha:=ha.run) (hr:=hr.run) (hs:=hs)⟩
theorem aR {X:Cx}{e:Expr}{te:TE}{pos:Pos} (he:QE X e te):QS X (.Return (some e) pos) (tRet te):=⟨L2.ps_ret (he:=he.run)⟩
theorem Z0 {X:Cx}{pos:Pos}:QS X (.Return none pos) afA:=⟨L2.agc⟩
theorem bA {X:Cx}{pos:Pos}{i:Nat}{x:Str}{e:Expr}{te:TE}{pos':Pos} (hN:X.N.Nodup) (hi:X.N[i]?=some x) (hx:Loc X.env.scope x) (he:QE X e te) (hs:swapsWith e (some (.Name x pos')) pos.line X.env=pure false:=by rfl) (hf:X.fn x=true∨X.env.scope.names.lookup x=some .local:=by first | exact .inl rfl | exact .inr rfl | assumption):QS X (.Assign [.Name x pos'] e pos) (tAsg te (gName i)):=⟨L2.ps_set (hN:=hN) (hi:=hi) (hx:=hx) (he:=he.run) (hs:=hs) (hf:=hf)⟩
theorem acI {X:Cx}{pos:Pos}{i:Nat}{x:Str}{e:Expr}{te:TE}{op:Operator}{ti:TIp}{pos':Pos} (hN:X.N.Nodup) (hi:X.N[i]?=some x) (hx:Loc X.env.scope x) (he:QE X e te) (ho:PIp X op ti) (hf:X.fn x=true∨X.env.scope.names.lookup x=some .local:=by first | exact .inl rfl | exact .inr rfl | assumption):QS X (.AugAssign (.Name x pos') op e pos) (ahh i te ti):=⟨L2.ahI (hN:=hN) (hi:=hi) (hx:=hx) (he:=he.run) (ho:=ho) (hf:=hf)⟩
theorem bK {X:Cx}{t u:TS}{pos:Pos}{c:Expr}{a b:List Stmt}{tc:TT} (hc:QT X c tc) (ha:QSs X a t) (hb:QSs X b u):QS X (.If c a b pos) (tIfS tc t u):=⟨L2.ps_if (hc:=hc.run) (ha:=ha.run) (hb:=hb.run)⟩
theorem ud {X:Cx}{pos:Pos}{c:Expr}{body:List Stmt}{tc:TT}{tb:TS} (hp:PassesOwn (model X.prog X.w) X.A X.env X.xe) (hc:QT X c tc) (hb:QSs X body tb):QS X (.While c body [] pos) (vf tc tb):=⟨L2.aew (hp:=hp) (hc:=hc.run) (hb:=hb.run)⟩
theorem yg {X:Cx}{tg:Expr}{iter:Expr}{body:List Stmt}{wi:TI}{g:TG}{tb:TS}{pos:Pos} (hp:PassesOwn (model X.prog X.w) X.A X.env X.xe) (hc:X.calm=true) (hi:QI X tg iter wi) (hg:QG X tg g) (hb:QSs X body tb) (hs:∀ x,foldedSetIterable iter X.env x=pure x:=by intro _; rfl):QS X (.For tg iter body [] pos) (tFor wi g tb):=⟨L2.ps_for (hp:=hp) (hc:=hc) (hi:=hi.run) (hg:=hg.run) (hb:=hb.run) (hs:=hs)⟩
theorem cR {X:Cx}{e:Expr}{te:TE}{pos:Pos} (he:QE X e te) (hs:swapsWith e none pos.line X.env=pure false:=by rfl):QS X (.Expr e pos) (tDrop te):=⟨L2.ps_expr (he:=he.run) (hs:=hs)⟩
theorem Yr {X:Cx}{pos:Pos}:QS X (.Continue pos) afD:=⟨L2.Ys⟩
theorem af8 {X:Cx}{pos:Pos}:QS X (.Pass pos) tNext:=⟨L2.agd⟩
theorem aeu {X:Cx}{st:Stmt}:QS X st acr:=⟨L2.aey⟩
theorem Vq {X:Cx}{pos:Pos}{tg e:Expr}{te:TE}{g:TG} (he:QE X e te) (hg:QG X tg g) (hs:swapsWithSole [tg] e pos.line X.env=pure false:=by rfl) (hw:swappedStores [tg] e X.env=pure none:=by rfl) (h1:(assignEach [tg] X.env).map (·.2)=[assign tg X.env]:=by rfl):QS X (.Assign [tg] e pos) (tAsg te g):=⟨L2.ahJ (he:=he.run) (hg:=hg.run) (hs:=hs) (hw:=hw) (h1:=h1)⟩
theorem bD {X:Cx}:QSs X [] tNext:=⟨L2.pss_nil⟩
theorem au {X:Cx}{st:Stmt}{rest:List Stmt}{t u:TS} (h1:QS X st t) (h2:QSs X rest u):QSs X (st::rest) (tSeq t u):=⟨L2.pss_cons (h1:=h1.run) (h2:=h2.run)⟩
theorem aB {X:Cx}{st:Stmt}{t:TS} (h1:QS X st t):QSs X [st] t:=⟨L2.pss_one (h1:=h1.run)⟩
theorem mH {X:Cx}{tg:Expr}{a:Expr}{ta:TA}{p pos:Pos} (hg:Gl X "range") (hm:X.mg "range"=none) (ha:QA X [a] ta) (hs:starEach [a] X.env=[(false,eval a X.env)]:=by rfl):QI X tg (.Call (.Name "range" p) [a] [] pos) (afJ ta):=⟨L2.acM (hg:=hg) (hm:=hm) (ha:=ha.run) (hs:=hs)⟩
theorem Z2 {X:Cx}{tg:Expr}{l:Expr}{tl:TE} (hl:QE X l tl):QI X tg l (iList X.K tl):=⟨L2.pi_list (hl:=hl.run)⟩
theorem ahy {X:Cx}{tg:Expr}{l:Expr}{tl:TE} (hl:QE X l tl):QI X tg l (aio X.K tl):=⟨L2.ahM (hl:=hl.run)⟩
theorem jU {X:Cx}{pos:Pos}{i:Nat}{x:Str} (hN:X.N.Nodup) (hi:X.N[i]?=some x) (hx:Loc X.env.scope x) (hf:X.fn x=true∨X.env.scope.names.lookup x=some .local:=by first | exact .inl rfl | exact .inr rfl | assumption):QG X (.Name x pos) (gName i):=⟨L2.pg_name (hN:=hN) (hi:=hi) (hx:=hx) (hf:=hf)⟩
theorem Vr {X:Cx}{pos:Pos}{es:List Expr}{k:Nat}{t:TGs}{n:Nat} (hc:X.calm=true) (h:QGs X es t) (hn:(assignEach es X.env).length=n:=by rfl) (hst:(assignEach es X.env).findIdx? (·.1)=none:=by rfl):QG X (.Tuple es k pos) (ae5 X.K n t):=⟨L2.acN (hc:=hc) (h:=h.run) (hn:=hn) (hst:=hst)⟩
theorem Qe {X:Cx}:QGs X [] ae6:=⟨L2.Z5⟩
theorem uf {X:Cx}{e:Expr}{es:List Expr}{t:TG}{u:TGs} (h1:QG X e t) (h2:QGs X es u) (hs:(assignEach (e::es) X.env).map (·.2)=assign e X.env::(assignEach es X.env).map (·.2):=by rfl):QGs X (e::es) (Uq t u):=⟨L2.Ks (h1:=h1.run) (h2:=h2.run) (hs:=hs)⟩
theorem eN {X:Cx}:QO X none Pq:=⟨L2.agh⟩
theorem dI {X:Cx}{e:Expr}{te:TE} (h:QE X e te):QO X (some e) (afB te):=⟨L2.agg (h:=h.run)⟩
theorem okQ {P:Program}{w:World}{K:PySem.W.Frag}{mg:Str→Option Value}{base:Heap}{x qual:Str}{st:Stmt}{f:Addr}{fd:FuncData}{N ps:List Str}{k:Nat}{sp:Sp} (F:Fun K x qual st f fd) (S:FnScope N ps (defScope st)) (len:∀ vs H Q E,sp vs H Q E→vs.length=ps.length)
  (hb:∀ (cdv:Value) (A:Around) (outer:List Env) (s:Shared) (H:Hp) (vs:List V) (Q:VK) (E:XK),Room k (A.deeper (envOfC qual (defScope st) s.heap.objs.size f cdv))→sp vs H Q E →
   ∃ t,QSs (cxOf CX0 P w K mg base N qual (defScope st) f cdv A outer s H E).nox (defBody st) t∧t { nx:=fun _ H'=>Q .non H',rt:=Q } (start N vs) H):FnOk P w K mg base CX0 (k+1) f fd ps sp :=
 F.ok S len fun cdv A outer s H vs Q E hr h=>let ⟨t,q,r⟩:=hb cdv A outer s H vs Q E hr h; ⟨t,q.run,r⟩
theorem pD:bootBuiltins "len"=some (.builtin "len"):=by decide +kernel
theorem ajn:bootBuiltins "sum"=some (.builtin "sum"):=by decide +kernel
theorem adv:bootBuiltins "min"=some (.builtin "min"):=by decide +kernel
theorem ji:bootBuiltins "isinstance"=some (.builtin "isinstance"):=by decide +kernel
theorem ajo:bootBuiltins "int"=some (.type "int"):=by decide +kernel
theorem lB:bootBuiltins "tuple"=some (.type "tuple"):=by decide +kernel
theorem small {n:Nat} (h:n≤1000000):n≤sizeLine:=Nat.le_trans h (by decide)
theorem ahn {n:Nat} (h:n≤1000000):n<sizeLine:=Nat.lt_of_le_of_lt h (by decide)
theorem agL {α:Type}{ys:List α} (h:ys≠[]):∃ y,ys[ys.length - 1]?=some y:=by
 have:ys.length - 1<ys.length:=by
  have:=List.length_pos_iff.mpr h
  lia
 exact⟨ys[ys.length - 1],List.getElem?_eq_getElem this⟩
theorem Mi (xs:List V) (k:Nat):pB xs (some (k:Int)) none=xs.drop k:=by
 unfold pB
 rw [HT.ZR,HT.Vk]
 by_cases h:k≤xs.length
 ·rw [Nat.min_eq_left h,List.take_of_length_le (by rw [List.length_drop]; lia)]
 ·rw [Nat.min_eq_right (by lia),List.drop_eq_nil_of_le (by lia),List.drop_eq_nil_of_le (by lia),List.take_nil]
theorem Xg (xs:List V) (k:Nat):pB xs none (some (k:Int))=xs.take k:=by
 unfold pB
 rw [HT.ZR,HT.Vk,List.drop_zero,Nat.sub_zero]
 by_cases h:k≤xs.length
 ·rw [Nat.min_eq_left h]
 ·rw [Nat.min_eq_right (by lia),List.take_of_length_le (Nat.le_refl _),List.take_of_length_le (by lia)]
section
variable {K:PySem.W.Frag}
theorem aX.rev {α β:Type}{R:α→β→Prop}{as:List α}{bs:List β} (h:aX R as bs):aX R as.reverse bs.reverse:=by
 induction h with
 | nil=>exact .nil
 | cons r _ ih=>rw [List.reverse_cons,List.reverse_cons]; exact ih.append (aX.one r)
def Jc (K:PySem.W.Frag) (H₀ H:Hp) (ts:List T) (x:V):Prop:=∃ a xs,x=.ref a∧H₀ a=none∧H a=some (.lst xs)∧TRs K H ts xs
structure Ef (K:PySem.W.Frag) (H₀ H:Hp) (p:Addr) (st:List (List T)) (ys:List V):Prop where
 new:H₀ p=none
 same:Same H₀ H
 at_:H p=some (.lst ys)
 rows:aX (Jc K H₀ H) st.reverse ys
 nd:((.ref p:V)::ys).Nodup
theorem Jc.upd {H₀ H:Hp}{p:Addr}{o:HO}{ts:List T}{x:V} (h:Jc K H₀ H ts x) (hne:x≠.ref p) (k:Kt H (upd H p o)):Jc K H₀ (upd H p o) ts x:=by
 obtain⟨a,xs,rfl,h1,h2,h3⟩:=h
 exact⟨a,xs,rfl,h1,by rw [upd_ne (fun z=>hne (by rw [z]))]; exact h2,h3.mono k⟩
theorem xY {H₀ H:Hp}{p:Addr}{o:HO} (k:Kt H (upd H p o)):∀ {ss:List (List T)}{ys:List V},aX (Jc K H₀ H) ss ys→(.ref p:V) ∉ ys→aX (Jc K H₀ (upd H p o)) ss ys:=by
 intro ss ys h
 induction h with
 | nil=>intro _; exact .nil
 | cons r _ ih=>intro hn; exact .cons (r.upd (fun z=>hn (by rw [z]; exact List.mem_cons_self)) k) (ih fun z=>hn (List.mem_cons_of_mem _ z))
theorem acD {H₀ H:Hp}{p q:Addr}{st:List (List T)}{ys:List V} (R:Ef K H₀ H p st ys) (hq:H q=none):Ef K H₀ (upd (upd H q (.lst [])) p (.lst (ys++[.ref q]))) p ([]::st) (ys++[.ref q]):=by
 have npq:p≠q:=ne_of_none R.at_ hq
 have hq0:H₀ q=none:=R.same.free hq
 have nin:(.ref q:V) ∉ ys:=fun hm=>by
  obtain⟨i,hi⟩:=List.mem_iff_getElem?.mp hm
  obtain⟨ts,_,a,xs,e,_,h2,_⟩:=R.rows.get hi
  cases e
  rw [hq] at h2
  cases h2
 have nd:=List.nodup_cons.mp R.nd
 have k1:Kt H (upd H q (.lst [])):=Kt.new hq
 have h1:upd H q (.lst []) p=some (.lst ys):=by rw [upd_ne npq]; exact R.at_
 have k2:Kt (upd H q (.lst [])) (upd (upd H q (.lst [])) p (.lst (ys++[.ref q]))):=Kt.lst h1
 refine⟨R.new,eX (eX R.same hq0) R.new,upd_same,?_,?_⟩
 ·rw [List.reverse_cons]
  refine aX.append (xY k2 (xY k1 R.rows nin) nd.1) (aX.one ⟨q,[],rfl,hq0,?_,bJ.mpr rfl⟩)
  rw [upd_ne (Ne.symm npq)]
  exact upd_same
 ·rw [← List.cons_append]
  refine List.nodup_append.mpr ⟨R.nd,by simp,fun x hx y hy e=>?_⟩
  have ey:y=.ref q:=by simpa using hy
  rw [ey] at e
  subst e
  rcases List.mem_cons.mp hx with z | z
  ·exact npq (V.ref.inj z).symm
  ·exact nin z
theorem aX.snoc {α β:Type}{R:α→β→Prop}{as:List α}{a:α}{bs:List β} (h:aX R (as++[a]) bs):∃ bs' b,bs=bs'++[b]∧aX R as bs'∧R a b:=by
 induction as generalizing bs with
 | nil =>
  cases h with
  | cons r h=>cases h; exact⟨[],_,rfl,.nil,r⟩
 | cons c as ih =>
  cases h with
  | cons r h =>
   obtain⟨bs',b,rfl,h1,h2⟩:=ih h
   exact⟨_::bs',b,rfl,.cons r h1,h2⟩
theorem Cg {ys:List V}{v:V}:atI (ys++[v]) (-1)=some v:=by
 unfold atI ixN
 have hl:(ys++[v]).length=ys.length+1:=by simp
 rw [if_neg (by decide),if_pos (by rw [hl]; lia),hl,show ((-1:Int)+((ys.length+1:Nat):Int)).toNat=ys.length by lia,Option.bind_some]
 simp
theorem ajJ {t u:TT}{σ:Sg}{H H1 H2:Hp}{Q:Bool→Hp→Prop}{b1 b2:Bool} (h1:∀ R:Bool→Hp→Prop,R b1 H1→t σ H R) (h2:∀ R:Bool→Hp→Prop,R b2 H2→u σ H1 R) (q1:b1=true→Q b2 H2) (q2:b1=false→Q false H1):aaB t u σ H Q:=by
 refine h1 _ ?_
 cases b1 with
 | true=>exact iteT (h2 _ (q1 rfl))
 | false=>exact iteF (q2 rfl)
theorem acq {t u:TT}{σ:Sg}{H:Hp}{Q:Bool→Hp→Prop}{b1 b2:Bool} (h1:∀ R:Bool→Hp→Prop,R b1 H→t σ H R) (h2:∀ R:Bool→Hp→Prop,R b2 H→u σ H R) (q:Q (b1 && b2) H):aaB t u σ H Q :=
 ajJ h1 h2 (fun e=>by subst e; exact q) (fun e=>by subst e; exact q)
end
section
variable {X:Cx}
def acG (K:PySem.W.Frag):R2:=fun x y H Q=>∃ a b xs ys,x=.ref a∧y=.ref b∧SqT K H a xs∧SqT K H b ys∧xs.length+ys.length≤sizeLine∧∀ p H',Same H H'→SqT K H' p (xs++ys)→Q (.ref p) H'
theorem bh:OpR X (binaryOp .Add) (acG X.K):=by
 intro pins s σ H x y v u Q I rx ry h
 obtain⟨a,b,xs,ys,rfl,rfl,ha,hb,hz,q⟩:=h
 by_cases hx:xs=[]
 ·subst hx
  cases rx
  cases ry
  obtain⟨its,r1,p1,_⟩:=I.tuple ha
  obtain⟨its2,r2,p2,_⟩:=I.tuple hb
  have e1:its=[]:=r1.BP.mpr rfl
  subst e1
  obtain⟨⟨cls,dd,data,sl⟩,ho,hc,n,hd⟩:=id p1
  obtain⟨⟨cls2,dd2,data2,sl2⟩,ho2,hc2,n2,hd2⟩:=id p2
  simp only at hc hd hc2 hd2
  subst hc hd hc2 hd2
  exact concat_meets ⟨_,ho,rfl⟩ ⟨_,ho2,rfl⟩ noFill_tuple_add seq_tuple_add PySem.F.slot_tuple_add PySem.F.entry_tuple_add (PySem.F.args_tuple_add_2 _ _)
   (tuple_addW0 a b ([]:List Value).toArray its2.toArray n n2 dd dd2 sl sl2 rfl) ⟨ho,ho2,⟨.ref b,H,I,rfl,q b H (Same.refl H) hb⟩⟩
 ·refine agq pins s σ H _ _ v u Q I rx ry ⟨a,b,xs,ys,rfl,rfl,ha,hb,hx,hz,fun e=>?_,fun _ p hp=>q p _ (same_new hp _) (SqT.of upd_same)⟩
  subst e
  exact q a H (Same.refl H) (by rw [List.append_nil]; exact ha)
theorem K4:fillsNumberSlot (.type "tuple") "mul"=pure false:=by
 first | kernel_rfl | (unfold fillsNumberSlot; kernel_rfl)
theorem Vn:seqRepeat? (.type "tuple")=pure (some (.builtin "tuple.__mul__")):=by
 unfold seqRepeat?
 first | kernel_rfl | (simp only [typeLookup_type,builtinLookup_eq_fast]; kernel_rfl) | rfl
theorem aaJ (a:Int) (t:Tok) (l:Addr) (items:Array Value) (n:Nat) (dd:Option Addr) (sl:Array (Option Value)) :
  Meets (Builtin.«int.__rmul__» ⟨[.int a t,.ref l],[]⟩) (fun _ R s=>s.heap.get? l=some { cls:=.type "tuple",dict:=dd,data:=.seq items n,slots:=sl }∧R (.ok (.ret Value.notImplemented)) s) :=
 .of_wp fun prog w A R s h=>by
  obtain⟨hp,g,d,tk,os⟩:=s
  obtain⟨hl,h⟩:=h
  wp_walk
  exact⟨_,rfl,h⟩
theorem aco (l:Addr) (items:Array Value) (n:Nat) (dd:Option Addr) (sl:Array (Option Value)) (k:Int) (t:Tok) (h0:(items.isEmpty || k == 1)=true) (h1:¬ (decide (k < -(2 ^ 63)) || decide (k ≥ 2 ^ 63))=true) :
  Meets (Builtin.«tuple.__mul__» ⟨[.ref l,.int k t],[]⟩) (fun _ R s=>s.heap.get? l=some { cls:=.type "tuple",dict:=dd,data:=.seq items n,slots:=sl }∧R (.ok (.ret (.ref l))) s) :=
 .of_wp fun prog w A R s h=>by
  obtain⟨hp,g,d,tk,os⟩:=s
  obtain⟨hl,h⟩:=h
  have f1:=AutoSeq1.idx_int
  have f2:=AutoSeq1.sub_tuple_tuple
  wp_walk using AutoSeq1.wpAny_loadPart' hl
  rw [if_neg h1]
  wp_walk using AutoSeq1.wpAny_loadPart' hl
  exact⟨_,rfl,h⟩
theorem acn (l:Addr) (items:Array Value) (n:Nat) (dd:Option Addr) (sl:Array (Option Value)) (k:Int) (t:Tok) (h0:¬ (items.isEmpty || k == 1)=true) (h1:¬ (decide (k < -(2 ^ 63)) || decide (k ≥ 2 ^ 63))=true) (h2:(decide (k≤0) || items.isEmpty)=true) :
  Meets (Builtin.«tuple.__mul__» ⟨[.ref l,.int k t],[]⟩) (fun _ R s=>s.heap.get? l=some { cls:=.type "tuple",dict:=dd,data:=.seq items n,slots:=sl }∧R (.ok (.ret (.ref s.heap.objs.size))) { s with heap:=s.heap.push { cls:=.type "tuple",data:=.seq #[] } }) :=
 .of_wp fun prog w A R s h=>by
  obtain⟨hp,g,d,tk,os⟩:=s
  obtain⟨hl,h⟩:=h
  have f1:=AutoSeq1.idx_int
  have f2:=AutoSeq1.sub_tuple_tuple
  wp_walk using AutoSeq1.wpAny_loadPart' hl
  rw [if_neg h1]
  wp_walk using AutoSeq1.wpAny_loadPart' hl
  exact⟨_,rfl,h⟩
theorem acp (l:Addr) (items:Array Value) (n:Nat) (dd:Option Addr) (sl:Array (Option Value)) (k:Int) (t:Tok) (h0:¬ (items.isEmpty || k == 1)=true) (h1:¬ (decide (k < -(2 ^ 63)) || decide (k ≥ 2 ^ 63))=true) (h2:¬ (decide (k≤0) || items.isEmpty)=true)
  (h3:¬ (items.size:Int) * k > (2 ^ 63 - 1) / 8) (h4:¬ Builtin.Tuple.tupleTooMany ((items.size:Int) * k)=true) (h5:((List.replicate k.toNat items).foldl (·++·) #[]).size≤sizeLine) :
  Meets (Builtin.«tuple.__mul__» ⟨[.ref l,.int k t],[]⟩) (fun _ R s=>s.heap.get? l=some { cls:=.type "tuple",dict:=dd,data:=.seq items n,slots:=sl }∧R (.ok (.ret (.ref s.heap.objs.size))) { s with heap:=s.heap.push { cls:=.type "tuple",data:=.seq ((List.replicate k.toNat items).foldl (·++·) #[]) } }) :=
 .of_wp fun prog w A R s h=>by
  obtain⟨hp,g,d,tk,os⟩:=s
  obtain⟨hl,h⟩:=h
  have f1:=AutoSeq1.idx_int
  have f2:=AutoSeq1.sub_tuple_tuple
  wp_walk using AutoSeq1.wpAny_loadPart' hl
  rw [if_neg h1]
  wp_walk using AutoSeq1.wpAny_loadPart' hl
  rw [if_neg h3]
  wp_walk using AutoSeq1.wpAny_loadPart' hl
  exact⟨_,rfl,h⟩
def vO (xs:List V) (k:Int):List V:=(List.replicate k.toNat xs).flatten
def Ga (K:PySem.W.Frag):R2:=fun x y H Q=>∃ a k xs,x=.ref a∧y=.int k∧SqT K H a xs∧-(2 ^ 62)≤k∧k<2 ^ 62∧xs.length * k.toNat≤sizeLine∧∀ p H',Same H H'→SqT K H' p (vO xs k)→Q (.ref p) H'
theorem mV:OpR X (binaryOp .Mult) (Ga X.K):=by
 intro pins s σ H x y v u Q I rx ry h
 obtain⟨a,k,xs,rfl,rfl,ha,h1,h2,hz,q⟩:=h
 cases rx
 obtain⟨t,rfl⟩:=ry
 obtain⟨its,r,p1,hzx⟩:=I.tuple ha
 have hlen:=r.length
 obtain⟨⟨cls,dd,data,sl⟩,ho,hc,n,hd⟩:=id p1
 simp only at hc hd
 subst hc hd
 have b1:¬ (decide (k < -(2 ^ 63)) || decide (k ≥ 2 ^ 63))=true:=by
  rw [decide_eq_false (by lia),decide_eq_false (by lia)]
  decide
 refine wpAny_binaryOp_repeat_ref (T:="tuple") (U:="int") (by decide) ⟨_,ho,rfl⟩ (fun s'=>typeIs_int s' k t) K4 F.fills_int_mul F.slot_int_rmul Vn F.slot_int_index.lookup
  (call_meets F.slot_int_rmul (typeIs_int s k t) F.entry_int_rmul (F.args_int_rmul_2 _ _) (aaJ k t a its.toArray n dd sl) ⟨ho,rfl,⟨_,ho,rfl⟩,?_⟩)
 by_cases c0:(its.toArray.isEmpty || k == 1)=true
 ·refine call_meets F.slot_tuple_mul ⟨_,ho,rfl⟩ F.entry_tuple_mul (F.args_tuple_mul_2 _ _) (aco a its.toArray n dd sl k t c0 b1) ⟨ho,⟨.ref a,H,I,rfl,q a H (Same.refl H) ?_⟩⟩
  rcases Bool.or_eq_true_iff.mp c0 with z | z
  ·have:its=[]:=by simpa using z
   have hx:xs=[]:=r.BP.mp this
   subst hx
   have:vO ([]:List V) k=[]:=by unfold vO; simp
   rw [this]
   exact ha
  ·have:k=1:=by simpa using z
   subst this
   have:vO xs 1=xs:=by unfold vO; simp
   rw [this]
   exact ha
 ·by_cases c2:(decide (k≤0) || its.toArray.isEmpty)=true
  ·refine call_meets F.slot_tuple_mul ⟨_,ho,rfl⟩ F.entry_tuple_mul (F.args_tuple_mul_2 _ _) (acn a its.toArray n dd sl k t c0 b1 c2) ⟨ho,?_⟩
   have hk:k≤0:=by
    rcases Bool.or_eq_true_iff.mp c2 with z | z
    ·exact of_decide_eq_true z
    ·rw [z] at c0
     exact absurd rfl c0
   have e0:vO xs k=[]:=by
    unfold vO
    rw [show k.toNat=0 by lia]
    rfl
   refine⟨.ref s.heap.objs.size,_,I.laid (t':=s.toks) (o:=.tup []) (fun b ob z=>Heap.get?_push_of_some _ z) (Nat.le_refl _) ?_,rfl,q _ _ (same_new (I.hok.fresh (Nat.le_refl _)) _) (by rw [e0]; exact SqT.of upd_same)⟩
   exact⟨Nat.zero_le _,[],.nil,IsTup.new _ _⟩
  ·have hk:0<k:=by
    by_cases hk:k≤0
    ·rw [decide_eq_true hk] at c2
     exact absurd rfl c2
    ·lia
   have hsz:its.toArray.size * k.toNat≤sizeLine:=by rw [List.size_toArray,← hlen]; exact hz
   have hsl:(sizeLine:Nat)=16777216:=sizeLine_eq
   have hpr:(its.toArray.size:Int) * k=((its.toArray.size * k.toNat:Nat):Int):=by
    rw [Int.natCast_mul,show ((k.toNat:Nat):Int)=k by lia]
   have hnew:(List.replicate k.toNat its.toArray).foldl (·++·) #[]=(List.replicate k.toNat its).flatten.toArray:=by
    have:=foldl_rep its k.toNat []
    rw [List.nil_append] at this
    exact this
   have hrl:(List.replicate k.toNat its).flatten.length≤sizeLine:=by
    rw [len_rep,Nat.mul_comm]
    simpa using hsz
   refine call_meets F.slot_tuple_mul ⟨_,ho,rfl⟩ F.entry_tuple_mul (F.args_tuple_mul_2 _ _) (acp a its.toArray n dd sl k t c0 b1 c2 ?_ ?_ ?_) ⟨ho,?_⟩
   ·rw [hpr]
    have:((2:Int) ^ 63 - 1) / 8=1152921504606846975:=by decide
    rw [this]
    lia
   ·unfold Builtin.Tuple.tupleTooMany
    rw [hpr,decide_eq_false (by lia)]
    decide
   ·rw [hnew,List.size_toArray]
    exact hrl
   ·rw [hnew]
    have rr:=r.rep k.toNat
    refine⟨.ref s.heap.objs.size,_,I.laid (t':=s.toks) (o:=.tup (vO xs k)) (fun b ob z=>Heap.get?_push_of_some _ z) (Nat.le_refl _) ?_,rfl,q _ _ (same_new (I.hok.fresh (Nat.le_refl _)) _) (SqT.of upd_same)⟩
    exact⟨by unfold vO; rw [rr.length]; exact hrl,_,rr,IsTup.new _ _⟩
end
theorem Gu {H:Hp}{lo:Int}{n:Nat}{σ:Sg}{js:List Nat}{te:TE}{Q:VK} (J:Addr→Nat→List V→Hp→Prop) (hz:n≤sizeLine) (h0:∀ D,H D=none→J D 0 [] (upd H D (.lst [])))
  (hD:∀ D i ys H',J D i ys H'→H' D=some (.lst ys)∧ys.length=i)
  (hte:∀ D i ys H' (R:VK),i<n→J D i ys H'→(∀ y H3,H3 D=some (.lst ys)→J D (i+1) (ys++[y]) (upd H3 D (.lst (ys++[y])))→R y H3)→te (some (.int (lo+i))::frv σ js) H' R)
  (q:∀ D ys H',J D n ys H'→Q (.ref D) H'):uX (Itr lo n) js te σ Q H:=by
 intro D hDn
 refine⟨fun i m ys H'=>m=n - i∧i≤n∧J D i ys H',⟨n,by lia,Nat.zero_le _,h0 D hDn⟩,?_⟩
 rintro i m ys H' ⟨rfl,hi,hj⟩
 obtain⟨h1,h2⟩:=hD D i ys H' hj
 refine⟨h1,?_⟩
 by_cases hlt:i<n
 ·refine .inr ⟨hlt,fun x H2 y=>?_⟩
  obtain⟨e,y⟩:=y
  subst e
  subst y
  exact hte D i ys _ _ hlt hj fun y H3 g1 g2=>⟨g1,by lia,n - (i+1),by lia,rfl,hlt,g2⟩
 ·have e:i=n:=by lia
  subst e
  exact .inl ⟨Nat.le_refl _,q D ys H' hj⟩
theorem agF {K:PySem.W.Frag}{H:Hp}{a:Addr}{xs:List V}{σ:Sg}{js:List Nat}{te:TE}{Q:VK} (J:Addr→Nat→List V→Hp→Prop) (hz:xs.length≤sizeLine) (h0:∀ D,H D=none→J D 0 [] (upd H D (.lst [])))
  (hD:∀ D i ys H',J D i ys H'→H' D=some (.lst ys)∧ys.length=i∧SqT K H' a xs)
  (hte:∀ D i x ys H' (R:VK),xs[i]?=some x→J D i ys H'→(∀ y H3,H3 D=some (.lst ys)→J D (i+1) (ys++[y]) (upd H3 D (.lst (ys++[y])))→R y H3)→te (some x::frv σ js) H' R)
  (q:∀ D ys H',J D xs.length ys H'→Q (.ref D) H'):uX (Itt K a) js te σ Q H:=by
 intro D hDn
 refine⟨fun i m ys H'=>m=xs.length - i∧i≤xs.length∧J D i ys H',⟨xs.length,by lia,Nat.zero_le _,h0 D hDn⟩,?_⟩
 rintro i m ys H' ⟨rfl,hi,hj⟩
 obtain⟨h1,h2,h3⟩:=hD D i ys H' hj
 refine⟨h1,?_⟩
 by_cases hlt:i<xs.length
 ·refine .inr ⟨⟨xs,xs[i],h3,List.getElem?_eq_getElem hlt⟩,fun x H2 y=>?_⟩
  obtain⟨e,y⟩:=y
  subst e
  exact hte D i x ys _ _ (y xs h3) hj fun y H3 g1 g2=>⟨g1,by lia,xs.length - (i+1),by lia,rfl,hlt,g2⟩
 ·have e:i=xs.length:=by lia
  subst e
  exact .inl ⟨⟨xs,h3,Nat.le_refl _⟩,q D ys H' hj⟩
theorem aeR {K:PySem.W.Frag}{H:Hp}{a:Addr}{xs:List V}{σ:Sg}{js:List Nat}{te:TE}{Q:VK} (J:Addr→Nat→List V→Hp→Prop) (hz:xs.length≤sizeLine) (h0:∀ D,H D=none→J D 0 [] (upd H D (.lst [])))
  (hD:∀ D i ys H',J D i ys H'→H' D=some (.lst ys)∧ys.length=i∧SqL K H' a xs)
  (hte:∀ D i x ys H' (R:VK),xs[i]?=some x→J D i ys H'→(∀ y H3,H3 D=some (.lst ys)→J D (i+1) (ys++[y]) (upd H3 D (.lst (ys++[y])))→R y H3)→te (some x::frv σ js) H' R)
  (q:∀ D ys H',J D xs.length ys H'→Q (.ref D) H'):uX (Itl K a) js te σ Q H:=by
 intro D hDn
 refine⟨fun i m ys H'=>m=xs.length - i∧i≤xs.length∧J D i ys H',⟨xs.length,by lia,Nat.zero_le _,h0 D hDn⟩,?_⟩
 rintro i m ys H' ⟨rfl,hi,hj⟩
 obtain⟨h1,h2,h3⟩:=hD D i ys H' hj
 refine⟨h1,?_⟩
 by_cases hlt:i<xs.length
 ·refine .inr ⟨⟨xs,xs[i],h3,List.getElem?_eq_getElem hlt⟩,fun x H2 y=>?_⟩
  obtain⟨e,y⟩:=y
  subst e
  exact hte D i x ys _ _ (y xs h3) hj fun y H3 g1 g2=>⟨g1,by lia,xs.length - (i+1),by lia,rfl,hlt,g2⟩
 ·have e:i=xs.length:=by lia
  subst e
  exact .inl ⟨⟨xs,h3,Nat.le_refl _⟩,q D ys H' hj⟩
def wC (H:Hp) (p:Addr):Prop:=∃ ns:List Int,H p=some (.lst (ns.map V.int))
structure Dr (p:Addr) (H H':Hp):Prop where
 keep:∀ b o,b≠p→H b=some o→H' b=some o
 dH:wC H' p
theorem Dr.refl {p:Addr}{H:Hp} (d:wC H p):Dr p H H:=⟨fun _ _ _ e=>e,d⟩
theorem Dr.trans {p:Addr}{H H1 H2:Hp} (a:Dr p H H1) (b:Dr p H1 H2):Dr p H H2:=⟨fun c o n e=>b.keep c o n (a.keep c o n e),b.dH⟩
theorem Dr.same {p:Addr}{H H1 H2:Hp} (a:Dr p H H1) (S:Same H1 H2):Dr p H H2:=⟨fun c o n e=>S c o (a.keep c o n e),let ⟨ns,e⟩:=a.dH; ⟨ns,S _ _ e⟩⟩
theorem Dr.kt {p:Addr}{H H':Hp} (d:wC H p) (a:Dr p H H'):Kt H H':=by
 obtain⟨ns,e⟩:=d
 exact⟨fun b xs q=>a.keep b _ (ne_of q e (fun z=>by cases z)) q,fun b o u q=>a.keep b _ (ne_of q e (fun z=>by cases z)) q⟩
theorem Dr.upd {p b:Addr}{H H':Hp}{o:HO} (a:Dr p H H') (h:H b=none) (hp:b≠p):Dr p H (upd H' b o) :=
 ⟨fun c u n e=>by rw [upd_ne (ne_of_none e h)]; exact a.keep c u n e,let ⟨ns,e⟩:=a.dH; ⟨ns,by rw [upd_ne (Ne.symm hp)]; exact e⟩⟩
section
variable {X:Cx}{scope:Scope}{cl:List (Str×Addr)}{x:Str}{fr:List Str}{js:List Nat}{elt iter:Expr}{px pos:Pos}{wi:TI}{te:TE}{pins:List (Addr×Obj)}{s:Shared}{σ:Sg}{H:Hp}
theorem agK {Q:VK} (use:Option (Value→Sem Unit)) (QQ:Value→Shared→Prop) (hc:X.calm=true) (L:zu X scope x fr js cl) (hi:PI X (.Name x px) iter wi)
  (he:∀ C s H fp pins,PE (blk X scope cl C (x::fr) s H fp pins) elt te)
  (hs:∀ v,foldedSetIterable iter X.env v=pure v) (I:Inv X pins σ H s) (h:tLC wi js te σ H Q)
  (fin:∀ (D C:Addr) (s6:Shared) (H5:Hp) (m6:Str→Option Value),s6.heap.Ns C m6→H5 C=none→(∀ h',Heap.SameBut C s6.heap h'→Inv X pins σ H5 { s6 with heap:=h' })→X.env.locals≠C→X.s₀.heap.objs.size≤C →
   (∀ y c,X.env.cells.lookup y=some c→c≠C)→(∀ p∈X.pn++pins,p.1≠C)→Q (.ref D) H5→compPost (model X.prog X.w) X.A X.xe use QQ (.ref D) C (.ok .next) s6) :
  wpAny (model X.prog X.w) X.A (comprehension (.ListComp elt [⟨.Name x px,iter,[],0⟩] scope pos) scope X.env (firstIterPos [⟨.Name x px,iter,[],0⟩] pos) (newList []) false (eval iter X.env) use) QQ X.xe s:=by
 refine wpAny_comprehension_free rfl hs L.clos L.kind L.loc (thn (hi pins s σ H _ I h) fun v s1 h1=>thn h1 fun itv s2 h2=>?_)
 obtain⟨it,fp,tn,J,H2,e,I2,T,st2,f2,rd⟩:=h2
 subst e
 obtain⟨W,⟨m0,w0⟩,turn⟩:=rd _ I2.fresh
 have I3:=I2.lnew (ys:=[]) (its:=[]) (t':=s2.toks) .nil (Nat.zero_le _)
 refine wpAny_newObj_type ?_
 have Gz:∀ b∈fp,b<s2.heap.objs.size:=fun b hb=>by
  obtain⟨o,ho,_⟩:=T.obj 0 _ st2 b hb
  exact Heap.lt_size ho
 generalize hs3:({ s2 with heap:=s2.heap.push { cls:=.type "list",dict:=none,data:=.seq ([]:List Value).toArray } }:Shared)=s3
 have I3':Inv X pins σ (upd H2 s2.heap.objs.size (.lst [])) s3:=by rw [← hs3]; exact I3
 have sz3:s3.heap.objs.size=s2.heap.objs.size+1:=by rw [← hs3]; exact Heap.size_push ..
 have k23:∀ b o,s2.heap.get? b=some o→s3.heap.get? b=some o:=fun b o e=>by rw [← hs3]; exact Heap.get?_push_of_some _ e
 have fsz:∀ b∈fp,b<s3.heap.objs.size:=fun b hb=>by rw [sz3]; exact Nat.lt_succ_of_lt (Gz b hb)
 have f3:∀ b∈fp,FpOk X pins (upd H2 s2.heap.objs.size (.lst [])) b:=fun b hb=>⟨by rw [upd_ne (Nat.ne_of_lt (Gz b hb))]; exact (f2 b hb).1,(f2 b hb).2⟩
 refine wpAny_newFunctionEnv L.cell (by intro y hy; simp at hy) (fun h4 hn4 Ww=>?_) L.kind
 have k34:∀ b o,s3.heap.get? b=some o→h4.get? b=some o:=fun b o e=>(Ww.2 b (Nat.ne_of_lt (Heap.lt_size e))).trans (Heap.get?_push_of_some _ e)
 generalize hX':blk X scope cl s3.heap.objs.size (x::fr) s3 (upd H2 s2.heap.objs.size (.lst [])) fp pins=X'
 have I4:Inv X' [] (none::frv σ js) (upd H2 s2.heap.objs.size (.lst [])) { s3 with heap:=h4,toks:=s3.toks+([]:List (Str×Value)).length }:=by
  rw [← hX']; exact aah I3' L hc f3 fsz hn4 k34
 have st4:tn 0 h4:=T.keep _ _ _ st2 fun b _ o e=>k34 b o (k23 b o e)
 have he':PE X' elt te:=by rw [← hX']; exact he _ _ _ _ _
 have xp:X'.prog=X.prog:=by rw [← hX']; rfl
 have xw:X'.w=X.w:=by rw [← hX']; rfl
 have xK:X'.K=X.K:=by rw [← hX']; rfl
 have xA:X'.A=X.A:=by rw [← hX']; rfl
 have xc:X'.calm=true:=by rw [← hX']; rfl
 have xe:X'.xe=fun _ _=>False:=by rw [← hX']; rfl
 have xn:X'.N=x::fr:=by rw [← hX']; rfl
 have xv:X'.env=compEnvC scope cl s3.heap.objs.size X.env:=by rw [← hX']; rfl
 have xpn:X'.pn=X.pn++pins:=by rw [← hX']; rfl
 have xex:X'.ex=fp:=by rw [← hX']; rfl
 have xfs:X'.fs=frs X.stack:=by rw [← hX']; rfl
 have back:∀ {H':Hp}{s':Shared}{h':Heap}{σ':Sg},Inv X' [] σ' H' s'→Heap.SameBut s3.heap.objs.size s'.heap h'→Inv X pins σ H' { s' with heap:=h' }:=fun {H' s' h' σ'} J' hsb=>by
  rw [← hX'] at J'; exact Mu I3' J' f3 hsb
 have frame:∀ b∈fp,b ∉ frs X.stack:=fun b hb z=>by
  rcases List.mem_cons.mp (I3'.stkSub b z) with e | e
  ·exact (f3 b hb).2.1 e
  ·exact (f3 b hb).2.2.1 e
 have stat:∀ {H':Hp},(∀ b∈fp,H' b=none)→∀ b∈fp,FpOk X' [] H' b:=fun {H'} hn b hb=>by
  refine⟨hn b hb,?_,?_,.inl (by rw [xex]; exact hb),?_,?_⟩
  ·rw [xv]; exact Nat.ne_of_lt (fsz b hb)
  ·rw [xfs]; exact frame b hb
  ·rw [xv]; exact fun y c e=>(f3 b hb).2.2.2.2.1 y c (L.sub y c e)
  ·rw [xpn,List.append_nil]; exact (f3 b hb).2.2.2.2.2
 have loop:codeAny (model X.prog X.w) X.A (.compLoop (.ListComp elt [⟨.Name x px,iter,[],0⟩] scope pos) 0 (.ref it) (.ref s2.heap.objs.size) (compEnvC scope cl s3.heap.objs.size X.env))
   (compPost (model X.prog X.w) X.A X.xe use QQ (.ref s2.heap.objs.size) s3.heap.objs.size) { s3 with heap:=h4,toks:=s3.toks+([]:List (Str×Value)).length }:=by
  refine QV (fun n s'=>∃ i ys o H',Inv X' [] (o::frv σ js) H' s'∧tn i s'.heap∧(∀ b∈fp,H' b=none)∧W i n ys H') ?_ m0 ⟨0,[],none,_,I4,st4,fun b hb=>(f3 b hb).1,w0⟩
  rintro n s5 ⟨i,ys,o,H5,I5,st5,fr5,w5⟩
  obtain⟨hD,hstep⟩:=turn i n ys H5 w5
  rcases hstep with⟨stop,qn⟩ | ⟨go,step⟩
  ·have q:=T.done X' xp xw xK xc i [] s5 _ H5 (fun _ _=>False) I5 (stat fr5) st5 stop
   rw [xA] at q
   refine thn q fun r s6 ⟨hr,I6⟩=>?_
   subst hr
   obtain⟨m6,hn6,_⟩:=I6.loc
   rw [xv] at hn6
   have nC:H5 s3.heap.objs.size=none:=by
    have q:=I6.free
    rw [xv] at q
    exact q
   exact fin s2.heap.objs.size s3.heap.objs.size s6 H5 m6 hn6 nC (fun h' hsb=>back I6 hsb) (Nat.ne_of_lt I3'.lt) I3'.sz (fun y c e=>Nat.ne_of_lt (by
    obtain⟨v,hv⟩:=I3'.cell y c e
    obtain⟨o,ho,_⟩:=hv
    exact Heap.lt_size ho)) (fun p hp=>Nat.ne_of_lt (Heap.lt_size (I3'.pin p hp).1)) qn
  ·have q:=T.item X' xp xw xK xc i [] s5 _ H5 (fun _ _=>False) I5 (stat fr5) st5 go
   rw [xA] at q
   refine thn q fun r s6 ⟨u,hr,h6⟩=>?_
   subst hr
   refine thn h6 fun _ s7 ⟨xx,H7,I7,r7,y7,st7,fr7⟩=>?_
   have I7':=I7.pinned (stat fr7) (T.obj _ _ st7)
   have hg:PG X' (.Name x px) (gName 0):=by
    refine pg_name (i:=0) (x:=x) (by rw [xn]; exact L.nd) (by rw [xn]; rfl) ?_ ?_
    ·rw [xv]; exact .inl (lookup_relabel_local L.var)
    ·rw [xv]; exact .inr (lookup_relabel_local L.var)
   have q7:=hg _ s7 _ H7 xx u (fun σ8 H8=>σ8=some xx::frv σ js∧H8=H7) I7' r7 ⟨rfl,rfl⟩
   rw [xp,xw,xA,xe,xv] at q7
   refine thn q7 fun _ s8 ⟨σ8,H8,I8,e8,e8'⟩=>?_
   subst e8 e8'
   have q8:=he' _ s8 _ _ _ I8 (step xx _ y7)
   rw [xp,xw,xA,xe,xv] at q8
   refine thn q8 fun yv s9 ⟨y,H9,I9,r9,d9,z9,m9,hm9,w9⟩=>?_
   have q9:=cP (X:=X') _ s9 _ H9 (.ref s2.heap.objs.size) [y] (.ref s2.heap.objs.size) [yv] (fun z H'=>H'=upd H9 s2.heap.objs.size (.lst (ys++[y]))) I9 rfl (.cons r9 .nil) ⟨_,ys,y,rfl,rfl,d9,z9,rfl⟩
   rw [xp,xw,xA,xe] at q9
   refine thn q9 fun _ s10 ⟨_,H10,I10,_,e10⟩=>?_
   subst e10
   refine⟨m9,hm9,i+1,ys++[y],some xx,_,I10.unpinned,T.keep _ _ _ st7 fun b hb ob e=>(I10.pin (b,ob) (List.mem_append_right _ (List.mem_append_right _ (mem_pinsAt hb e)))).1,fun b hb=>?_,w9⟩
   obtain⟨ob,e,_⟩:=T.obj _ _ st7 b hb
   exact (I10.pin (b,ob) (List.mem_append_right _ (List.mem_append_right _ (mem_pinsAt hb e)))).2.1
 exact codeAny_compStart_list loop (T.self _ 0 _ _ _ st4 loop)
theorem aex {i:Nat}{y:Str}{py spos:Pos} (hN:X.N.Nodup) (hy:X.N[i]?=some y) (hx:Loc X.env.scope y) (hc:X.calm=true) (L:zu X scope x fr js cl) (hi:PI X (.Name x px) iter wi)
  (he:∀ C s H fp pins,PE (blk X scope cl C (x::fr) s H fp pins) elt te)
  (hs:∀ v,foldedSetIterable iter X.env v=pure v:=by intro _; rfl)
  (hsw:swapsWith (.ListComp elt [⟨.Name x px,iter,[],0⟩] scope pos) (some (.Name y py)) spos.line X.env=pure true:=by rfl)
  (hf:X.fn y=true∨X.env.scope.names.lookup y=some .local:=by first | exact .inl rfl | exact .inr rfl | assumption) :
  PS X (.Assign [.Name y py] (.ListComp elt [⟨.Name x px,iter,[],0⟩] scope pos) spos) (tAsg (tLC wi js te) (gName i)):=by
 intro pins s σ H D I h
 rw [exec_Assign_Name_used _ _ _ _ hsw]
 refine wpAny_bind (wpAny_standAt (wpAny_bind ?_))
 show wpAny _ X.A (do let _ ← comprehension (.ListComp elt [⟨.Name x px,iter,[],0⟩] scope pos) scope X.env (firstIterPos [⟨.Name x px,iter,[],0⟩] pos) (newList []) false (eval iter X.env) (some (assign (.Name y py) X.env))) _ _ s
 refine wpAny_bind (wpAny_mono (agK (some (assign (.Name y py) X.env)) (fun _ s'=>SP X pins D .next s') hc L hi he hs I h ?_) (fun _ s' hq=>wpAny_pure (wpAny_pure hq)) fun _ _ e=>e)
 intro Dd C s6 H5 m6 hn nC back hLC hsz hcell hpin q
 have J:Inv X pins σ H5 s6:=back s6.heap (Heap.SameBut.refl _ _)
 show wpAny _ X.A (assign (.Name y py) X.env (.ref Dd)) _ _ _
 refine wpAny_assign_Name (store_ok2 (v:=.ref Dd) J hN hy hx rfl (fun s7 I7 hsb=>?_) hf)
 obtain⟨a,hsb,ha⟩:=hsb
 have haC:C≠a:=by
  rcases ha with e | e
  ·rw [e]; exact Ne.symm hLC
  ·exact Ne.symm (hcell _ _ e)
 refine⟨m6,hn.sameBut hsb haC,fun h' hs'=>?_⟩
 have k:∀ b o,b≠C→s7.heap.get? b=some o→h'.get? b=some o:=fun b o n e=>hs'.extBut b o n e
 have J':=I7.turned (t':=s7.toks) k nC (Ne.symm hLC) (.inr hsz) hcell hpin
 exact⟨_,_,J',q⟩
end
theorem Vp {X:Cx}{scope:Scope}{cl:List (Str×Addr)}{x:Str}{fr:List Str}{js:List Nat}{elt iter:Expr}{px pos:Pos}{wi:TI}{te:TE}{i:Nat}{y:Str}{py spos:Pos} (hN:X.N.Nodup) (hy:X.N[i]?=some y) (hx:Loc X.env.scope y) (hc:X.calm=true) (L:zu X scope x fr js cl) (hi:QI X (.Name x px) iter wi)
  (he:∀ C s H fp pins,QE (blk X scope cl C (x::fr) s H fp pins) elt te)
  (hs:∀ v,foldedSetIterable iter X.env v=pure v:=by intro _; rfl)
  (hsw:swapsWith (.ListComp elt [⟨.Name x px,iter,[],0⟩] scope pos) (some (.Name y py)) spos.line X.env=pure true:=by rfl)
  (hf:X.fn y=true∨X.env.scope.names.lookup y=some .local:=by first | exact .inl rfl | exact .inr rfl | assumption) :
  QS X (.Assign [.Name y py] (.ListComp elt [⟨.Name x px,iter,[],0⟩] scope pos) spos) (tAsg (tLC wi js te) (gName i)) :=
 ⟨aex hN hy hx hc L hi.run (fun C s H fp pins=>(he C s H fp pins).run) hs hsw hf⟩
section
variable {K:PySem.W.Frag}{H:Hp}{Q:VK}
theorem cH {ts us:List T}{x y:V} (hx:TR K H (.node ts) x) (hy:TR K H (.node us) y) (hz:ts.length+us.length≤sizeLine) (q:∀ z H',Same H H'→TR K H' (.node (ts++us)) z→Q z H'):acG K x y H Q:=by
 obtain⟨a,xs,rfl,ha,ra⟩:=cF.mp hx
 obtain⟨b,ys,rfl,hb,rb⟩:=cF.mp hy
 refine⟨a,b,xs,ys,rfl,rfl,ha,hb,by rw [ra.length,rb.length]; exact hz,fun p H' S h=>q _ _ S (uW h ((ra.append rb).mono (.of S)))⟩
theorem TRs.at {ts:List T}{xs:List V} (h:TRs K H ts xs) {i:Nat}{t:T} (e:ts[i]?=some t):∃ x,xs[i]?=some x∧TR K H t x:=by
 have hl:=h.length
 have hi:i<ts.length:=(List.getElem?_eq_some_iff.mp e).1
 have e2:xs[i]?=some (xs[i]'(by lia)):=List.getElem?_eq_getElem _
 obtain⟨t',e3,h3⟩:=h.get e2
 rw [e] at e3
 cases e3
 exact⟨_,e2,h3⟩
theorem nIx {ts:List T}{x y:V}{t:T} (hx:TR K H (.node ts) x) (i:Nat) (e:ts[i]?=some t) (q:∀ z,TR K H t z→Q z H) (hy:y=.int ((i:Nat):Int):=by rfl):aer K x y H Q:=by
 obtain⟨a,xs,rfl,ha,ra⟩:=cF.mp hx
 obtain⟨v,e2,h2⟩:=ra.at e
 exact⟨a,xs,_,v,rfl,hy,ha,atI_nat e2,q v h2⟩
theorem ake {ts:List T}{x:V} (hx:TR K H (.node ts) x) (k:Nat) {j:Option Int} (q:∀ z H',Same H H'→TR K H' (.node (ts.drop k)) z→Q z H') (hj:j=some ((k:Nat):Int):=by rfl):Nu K x j none H Q:=by
 obtain⟨a,xs,rfl,ha,ra⟩:=cF.mp hx
 subst hj
 refine⟨a,xs,rfl,ha,fun p H' S h=>q _ _ S (uW h ?_)⟩
 rw [Mi]
 exact (ra.drop k).mono (.of S)
theorem nTo {ts:List T}{x:V} (hx:TR K H (.node ts) x) (k:Nat) {j:Option Int} (q:∀ z H',Same H H'→TR K H' (.node (ts.take k)) z→Q z H') (hj:j=some ((k:Nat):Int):=by rfl):Nu K x none j H Q:=by
 obtain⟨a,xs,rfl,ha,ra⟩:=cF.mp hx
 subst hj
 refine⟨a,xs,rfl,ha,fun p H' S h=>q _ _ S (uW h ?_)⟩
 rw [Xg]
 exact (ra.take k).mono (.of S)
theorem dO {t:T}{x:V} (h:TR K H t x):TRs K H [t] [x]:=cN.mpr ⟨x,[],rfl,h,bJ.mpr rfl⟩
theorem pZ {t u:T}{x y:V} (h:TR K H t x) (g:TR K H u y):TRs K H [t,u] [x,y]:=cN.mpr ⟨x,[y],rfl,h,dO g⟩
theorem aks {t u r:T}{x y z:V} (h:TR K H t x) (g:TR K H u y) (k:TR K H r z):TRs K H [t,u,r] [x,y,z]:=cN.mpr ⟨x,[y,z],rfl,h,pZ g k⟩
end
section
variable {X:Cx}{K:PySem.W.Frag}
end
theorem agJ {K:PySem.W.Frag}{p:Addr}{H1:Hp}{n:Nat}{lo:Int}{σ:Sg}{js:List Nat}{te:TE}{Q:VK} (Sh:T→Prop) (hk:wC H1 p) (hn:n≤sizeLine)
  (hte:∀ (i:Nat) H' (R:VK),i<n→Dr p H1 H'→(∀ y t H3,Dr p H' H3→TR K H3 t y→Sh t→R y H3)→te (some (.int (lo+i))::frv σ js) H' R)
  (q:∀ D ys ts H',Dr p H1 H'→H' D=some (.lst ys)→ts.length=n→TRs K H' ts ys→(∀ t∈ts,Sh t)→Q (.ref D) H'):uX (Itr lo n) js te σ Q H1:=by
 refine Gu (fun D i ys H'=>D≠p∧H1 D=none∧Dr p H1 H'∧H' D=some (.lst ys)∧ys.length=i∧∃ ts,TRs K H' ts ys∧∀ t∈ts,Sh t) hn (fun D hD=>?_) (fun D i ys H' j=>⟨j.2.2.2.1,j.2.2.2.2.1⟩) (fun D i ys H' R hi j hR=>?_) (fun D ys H' j=>?_)
 ·have hne:D≠p:=fun z=>by
   obtain⟨ns,e1⟩:=hk
   rw [z,e1] at hD; cases hD
  exact⟨hne,hD,(Dr.refl hk).upd hD hne,upd_same,rfl,[],bJ.mpr rfl,fun _ h=>by simp at h⟩
 ·obtain⟨hne,hD,Dh,h1,hl,ts,htr,hsh⟩:=j
  refine hte i H' R hi Dh fun y t H3 D3 ht hs=>?_
  have h3:=D3.keep D _ hne h1
  refine hR y H3 h3 ⟨hne,hD,(Dh.trans D3).upd hD hne,upd_same,by rw [List.length_append,hl]; rfl,ts++[t],?_,fun u hu=>?_⟩
  ·exact TRs.append ((htr.mono (D3.kt Dh.dH)).mono (Kt.lst h3)) (cN.mpr ⟨y,[],rfl,ht.mono (Kt.lst h3),bJ.mpr rfl⟩)
  ·rcases List.mem_append.mp hu with z | z
   ·exact hsh u z
   ·rw [List.mem_singleton.mp z]; exact hs
 ·obtain⟨hne,hD,Dh,h1,hl,ts,htr,hsh⟩:=j
  exact q D ys ts H' Dh h1 (by rw [← htr.length]; exact hl) htr hsh
section
variable {X:Cx}
end
def B (a b:Nat) (t:T):Prop:=t.deep≤a∧t.parts≤b
theorem B.le {a b a' b':Nat}{t:T} (h:B a b t) (h1:a≤a') (h2:b≤b'):B a' b' t:=⟨Nat.le_trans h.1 h1,Nat.le_trans h.2 h2⟩
theorem Ej:B 0 1 (.node []):=⟨by rw [T.aK,T.aZ]; lia,by rw [T.aG,T.aO]; lia⟩
theorem fH {a b a' b':Nat}{t:T}{ts:List T} (h:B a b t) (g:B a' b' (.node ts)):B (max (a+1) a') (b+b') (.node (t::ts)):=by
 obtain⟨h1,h2⟩:=h
 obtain⟨g1,g2⟩:=g
 rw [T.aK] at g1
 rw [T.aG] at g2
 refine⟨?_,?_⟩
 ·rw [T.aK,T.aL]; lia
 ·rw [T.aG,T.aq]; lia
theorem Jh {a b a' b':Nat}{us:List T} (g:B a' b' (.node us)):∀ {ts:List T},B a b (.node ts)→B (max a a') (b+b') (.node (ts++us))
 | [],_=>g.le (by lia) (by lia)
 | t::ts,h=>by
  obtain⟨h1,h2⟩:=h
  rw [T.aK,T.aL] at h1
  rw [T.aG,T.aq] at h2
  have q:=Jh g (ts:=ts) (a:=a) (b:=b - t.parts) ⟨by rw [T.aK]; lia,by rw [T.aG]; lia⟩
  have q1:=q.1
  have q2:=q.2
  rw [T.aK] at q1
  rw [T.aG] at q2
  refine⟨?_,?_⟩
  ·rw [List.cons_append,T.aK,T.aL]; lia
  ·rw [List.cons_append,T.aG,T.aq]; lia
theorem Ou {a b:Nat}{t:T} (h:B a b t):B (a+1) (b+1) (.node [t]):=(fH h Ej).le (by lia) (by lia)
theorem Jf {a b n:Nat}:∀ {ts:List T},(∀ t∈ts,B a b t)→ts.length≤n→B (a+1) (1+n * b) (.node ts)
 | [],_,_=>Ej.le (by lia) (by lia)
 | t::ts,h,hl=>by
  rw [List.length_cons] at hl
  obtain⟨m,rfl⟩:∃ m,n=m+1:=⟨n - 1,by lia⟩
  refine (fH (h t List.mem_cons_self) (Jf (n:=m) (fun u hu=>h u (List.mem_cons_of_mem _ hu)) (by lia))).le (by lia) ?_
  rw [Nat.succ_mul]; lia
theorem B.len {a b:Nat}{ts:List T} (h:B a b (.node ts)):ts.length<b:=by
 have h2:=h.2
 rw [T.aG] at h2
 have:∀ us:List T,us.length≤T.aA us:=fun us=>by
  induction us with
  | nil=>exact Nat.zero_le _
  | cons u us ih =>
   rw [List.length_cons,T.aq]
   have:1≤u.parts:=by cases u; rw [T.aG]; lia
   lia
 have:=this ts
 lia
theorem bN {K:PySem.W.Frag}{H:Hp}{p:Addr}{xs:List V}{ts:List T} (hp:H p=none) (h:TRs K H ts xs):Same H (upd H p (.tup xs))∧TR K (upd H p (.tup xs)) (.node ts) (.ref p) :=
 ⟨same_new hp _,uW (SqT.of upd_same) (h.mono (.new hp))⟩
def pbT:Nat→Nat
 | 0=>1
 | d+1=>1+3 * pbT d
theorem R7 {ts:List T}{n b:Nat} (hl:ts.length≤n) (h:∀ t∈ts,t.parts≤b):T.aA ts≤n * b :=
 Nat.le_trans (T.Ge h) (Nat.mul_le_mul_right b hl)
theorem jx {K:PySem.W.Frag}{H:Hp}{p:Addr} (h:H p=some (.tup [])):TR K H (.node []) (.ref p):=uW (xs:=[]) (SqT.of h) (bJ.mpr rfl)
theorem Zn {K:PySem.W.Frag}{H:Hp}{t:T}{x:V} (h:TR K H t x):∀ n:Nat,TRs K H (List.replicate n t) (List.replicate n x)
 | 0=>bJ.mpr rfl
 | n+1=>by
  rw [List.replicate_succ,List.replicate_succ]
  exact cN.mpr ⟨x,_,rfl,h,Zn h n⟩
def acy (K:PySem.W.Frag):Sp:=fun vs H Q _=>∃ (a:Addr) (ns:List Int),vs=[.ref a]∧SqL K H a (ns.map V.int)∧ns.length≤63∧∀ p H',Same H H'→H p=none→wC H' p→Q (.ref p) H'
def Ft:Sp:=fun vs H Q _=>∃ (p:Addr) (m:Int),vs=[.ref p,.int m]∧0<m∧wC H p∧∀ i H',0≤i→i<m→Dr p H H'→Q (.int i) H'
def ShT:Nat→T→Prop:=fun d t=>t.deep≤d∧t.parts≤pbT d
def Ni (K:PySem.W.Frag) (n:Nat):Sp:=fun vs H Q _=>∃ (p:Addr) (d:Nat),vs=[.ref p,.int (d:Int)]∧d≤n∧wC H p∧∀ y t H',Dr p H H'→TR K H' t y→ShT d t→Q y H'
def wY (n:Nat):T:=.node (List.replicate n (.node []))
theorem afx (n:Nat):B 1 (1+n) (wY n):=(Jf (n:=n) (fun t ht=>by rw [List.eq_of_mem_replicate ht]; exact Ej) (by rw [List.length_replicate]; exact Nat.le_refl _)).le (by lia) (by lia)
theorem ShT.b {d:Nat}{t:T} (h:ShT d t):B d (pbT d) t:=h
theorem aie {ns:List Nat}{k:Nat} (hk:k<ns.length):∃ c∈ns,atI (ns.map fun n:Nat=>V.int (n:Int)) (k:Int)=some (.int (c:Int)) :=
 ⟨ns[k],List.getElem_mem hk,atI_nat (by rw [List.getElem?_map,List.getElem?_eq_getElem hk]; rfl)⟩
def spLaw (K:PySem.W.Frag):Sp:=fun vs H Q _=>∃ (a:Addr) (ns:List Int),vs=[.ref a]∧SqL K H a (ns.map V.int)∧ns.length≤63∧∀ H',Q (.bl true) H'
def aH (t:T):Nat:=match t.kids with
 | []=>0
 | f::_=>min 9 f.kids.length
def bf (t:T):T:=.node (t.kids.drop 1)
theorem ae9 {α:Type} (x:α) (n:Nat):(List.replicate n [x]).flatten=List.replicate n x:=by
 induction n with
 | zero=>rfl
 | succ n ih=>rw [List.replicate_succ,List.flatten_cons,ih,List.replicate_succ]; rfl
def dU (n:Nat) (us:List T):T:=.node (wY n::us)
def aaF (K:PySem.W.Frag):Sp:=fun vs H Q _=>∃ x t,vs=[x]∧TR K H t x∧t.deep≤400∧t.parts≤1000000∧∀ y H',Same H H'→TR K H' (dU 0 t.kids) y→Q y H'
def acv (K:PySem.W.Frag):Sp:=fun vs H Q _=>∃ x t,vs=[x]∧TR K H t x∧t.deep≤400∧t.parts≤1000000∧∀ y H',Same H H'→TR K H' (dU 8 t.kids) y→Q y H'
def Py (K:PySem.W.Frag):Sp:=fun vs H Q _=>∃ n:Nat,vs=[.int (n:Int)]∧1≤n∧n≤6∧∀ y H',Same H H'→TR K H' (dU n []) y→Q y H'
def Fv (K:PySem.W.Frag):Sp:=fun vs H Q _=>∃ x t y u,vs=[x,y]∧TR K H t x∧TR K H u y∧(t.deep≤400∧t.parts≤1000000)∧(u.deep≤400∧u.parts≤1000000)∧∀ z H',Same H H'→TR K H' (dU 7 (t::u.kids)) z→Q z H'
theorem lQ {K:PySem.W.Frag}{H:Hp}{Q:VK}{σ:L2.St}{ts:List T}{x:V} (hx:TR K H (.node ts) x) (k:Nat) {j:Option Int} (q:∀ z H',Same H H'→TR K H' (.node (ts.drop k)) z→Q z H') (hj:j=some ((k:Nat):Int):=by rfl):Pq σ H (fun u H3=>Nu K x j u H3 Q):=ake hx k q hj
theorem iV {K:PySem.W.Frag}{H:Hp}{Q:VK}{σ:L2.St}{ts:List T}{x y:V}{t:T} (hx:TR K H (.node ts) x) (i:Nat) (e:ts[i]?=some t) (q:∀ z,TR K H t z→Q z H) (hy:y=.int ((i:Nat):Int):=by rfl):tC y σ H (fun y H2=>aer K x y H2 Q):=nIx hx i e q hy
theorem aap {a b:Nat}{t:T} (h:B a b t):B a b (bf t):=by
 cases t with
 | node ts =>
  cases ts with
  | nil=>exact h
  | cons u us =>
   obtain⟨h1,h2⟩:=h
   rw [T.aK,T.aL] at h1
   rw [T.aG,T.aq] at h2
   exact⟨by show (T.node us).deep≤a; rw [T.aK]; lia,by show (T.node us).parts≤b; rw [T.aG]; lia⟩
def leaf:T:=.node []
def ats (s:List T) (k:Nat):T:=(s[k]?).getD leaf
def many (k:Nat):Nat:=([0,1,1,2,2,1,3,1,1,0]:List Nat).getD k 0
def pad (s:List T) (n:Nat):List T:=s++List.replicate (n - s.length) leaf
theorem cU {s:List T}{n:Nat} (h:n≤s.length):pad s n=s:=by
 unfold pad
 rw [show n - s.length=0 by lia,List.replicate_zero,List.append_nil]
theorem Bx (s:List T) (n:Nat):n≤(pad s n).length:=by
 unfold pad
 rw [List.length_append,List.length_replicate]
 lia
def behind (w:T) (s:List T):List T :=
 if aH w=0 then bf w::s
 else if 6<aH w then pad s (many (aH w))
 else if aH w=1 then (pad s 1).drop 1
 else if aH w=2 then ats (pad s 1) 0::ats (pad s 1) 0::(pad s 1).drop 1
 else if aH w=3 then ats (pad s 2) 1::ats (pad s 2) 0::(pad s 2).drop 2
 else if aH w=4 then .node (ats (pad s 2) 0::(ats (pad s 2) 1).kids)::(pad s 2).drop 2
 else if aH w=5 then ats (ats (pad s 1) 0).kids 0::.node ((ats (pad s 1) 0).kids.drop 1)::(pad s 1).drop 1
 else ats (pad s 3) 2::ats (pad s 3) 0::ats (pad s 3) 1::(pad s 3).drop 3
def onward (tx s:List T):List T×List T×Nat :=
 match (ats tx 0).kids with
 | []=>(tx.drop 1,s,12)
 | w::ws =>
  if aH w=7 then
   if (ats s 0).kids≠[] then (ats (w.kids.drop 1) 0::.node ws::tx.drop 1,behind w s,7) else (.node (w.kids.drop 2)::.node ws::tx.drop 1,behind w s,8)
  else if aH w=8 then
   if (ats s 0).kids≠[] then (bf w::tx,behind w s,9) else (.node ws::tx.drop 1,behind w s,10)
  else if aH w=9 then (.node ws::tx.drop 1,behind w s,11)
  else (.node ws::tx.drop 1,behind w s,aH w)
theorem tY (w:T):aH w≤9:=by
 unfold aH
 split
 ·lia
 ·exact Nat.min_le_left _ _
def Zz (K:PySem.W.Frag):Sp:=fun vs H Q _=>∃ x t,vs=[x]∧TR K H t x∧t.deep≤400∧∀ H',Same H H'→Q (.int (aH t:Nat)) H'
theorem jy {s:List T}{k:Nat} (h:k<s.length):s[k]?=some (ats s k):=by
 unfold ats
 rw [List.getElem?_eq_getElem h]
 rfl
theorem fO (t:T):T.node t.kids=t:=by cases t; rfl
theorem agE {ns:List Nat}{k:Nat} (hk:k<ns.length):atI (ns.map fun n:Nat=>V.int (n:Int)) (k:Int)=some (.int ((ns.getD k 0:Nat):Int)) :=
 atI_nat (by rw [List.getElem?_map,List.getElem?_eq_getElem hk,List.getD_eq_getElem?_getD,List.getElem?_eq_getElem hk]; rfl)
section
variable {w:T}{s:List T}
theorem DX (h:aH w=0):behind w s=bf w::s:=by unfold behind; rw [if_pos h]
theorem jM (h:6<aH w):behind w s=pad s (many (aH w)):=by unfold behind; rw [if_neg (by lia),if_pos h]
theorem Xp (h:aH w=1):behind w s=(pad s 1).drop 1:=by unfold behind; rw [h]; rfl
theorem Xo (h:aH w=2):behind w s=ats (pad s 1) 0::ats (pad s 1) 0::(pad s 1).drop 1:=by unfold behind; rw [h]; rfl
theorem Xn (h:aH w=3):behind w s=ats (pad s 2) 1::ats (pad s 2) 0::(pad s 2).drop 2:=by unfold behind; rw [h]; rfl
theorem Xm (h:aH w=4):behind w s=.node (ats (pad s 2) 0::(ats (pad s 2) 1).kids)::(pad s 2).drop 2:=by unfold behind; rw [h]; rfl
theorem Rq (h:aH w=5):behind w s=ats (ats (pad s 1) 0).kids 0::.node ((ats (pad s 1) 0).kids.drop 1)::(pad s 1).drop 1:=by unfold behind; rw [h]; rfl
theorem Xl (h:aH w=6):behind w s=ats (pad s 3) 2::ats (pad s 3) 0::ats (pad s 3) 1::(pad s 3).drop 3:=by unfold behind; rw [h]; rfl
end
theorem Xx {s:List T}{k:Nat} (h:k<s.length):ats s k∈s:=List.mem_of_getElem? (jy h)
section
variable {X:Cx}
end
theorem B.pos {a b:Nat}{t:T} (h:B a b t):1≤b:=Nat.le_trans (T.iU t) h.2
theorem nj {a b:Nat} (k:Nat) {ts:List T} (h:B a b (.node ts)):B a b (.node (ts.drop k)):=by
 obtain⟨h1,h2⟩:=h
 have e:=List.take_append_drop k ts
 rw [← e,T.aK,T.dR] at h1
 rw [← e,T.aG,T.bV] at h2
 exact⟨by rw [T.aK]; lia,by rw [T.aG]; lia⟩
theorem ab3 {a b:Nat}{ts:List T}{t:T} (h:B a b (.node ts)) (ht:t∈ts):B a b t:=by
 have h1:=h.1
 have h2:=h.2
 rw [T.aK] at h1
 rw [T.aG] at h2
 have:=T.uo ht
 have:=T.iu ht
 exact⟨by lia,by lia⟩
theorem jo {a b:Nat}{ts:List T} (h:B a b (.node ts)) (k:Nat):B a b (ats ts k):=by
 by_cases hk:k<ts.length
 ·exact ab3 h (Xx hk)
 ·unfold ats
  rw [List.getElem?_eq_none (by lia)]
  exact Ej.le (by lia) h.pos
theorem vN {a b:Nat}{t:T} (h:B a b t):B a b (.node t.kids):=by rw [fO]; exact h
theorem Jg {a b:Nat}{s:List T} (n:Nat) (hn:n≤3) (ha:1≤a) (h:B a b (.node s)):B a (b+4) (.node (pad s n)) :=
 (Jh (Jf (a:=0) (b:=1) (n:=3) (fun t ht=>by rw [List.eq_of_mem_replicate ht]; exact Ej) (by rw [List.length_replicate]; lia)) h).le (by lia) (by lia)
theorem afy {a b:Nat}{w:T}{s:List T} (ha:1≤a) (hw:B a b w) (hs:B a b (.node s)):B (a+2) (4 * b+16) (.node (behind w s)):=by
 have hb:=hw.pos
 unfold behind
 split
 ·exact (fH (aap hw) hs).le (by lia) (by lia)
 split
 ·refine (Jg _ ?_ ha hs).le (by lia) (by lia)
  have:∀ k,k≤9→many k≤3:=by decide
  exact this _ (tY w)
 have p1:=Jg 1 (by lia) ha hs
 have p2:=Jg 2 (by lia) ha hs
 have p3:=Jg 3 (by lia) ha hs
 split
 ·exact (nj 1 p1).le (by lia) (by lia)
 split
 ·exact (fH (jo p1 0) (fH (jo p1 0) (nj 1 p1))).le (by lia) (by lia)
 split
 ·exact (fH (jo p2 1) (fH (jo p2 0) (nj 2 p2))).le (by lia) (by lia)
 split
 ·exact (fH (fH (jo p2 0) (vN (jo p2 1))) (nj 2 p2)).le (by lia) (by lia)
 split
 ·exact (fH (jo (vN (jo p1 0)) 0) (fH (nj 1 (vN (jo p1 0))) (nj 1 p1))).le (by lia) (by lia)
 ·exact (fH (jo p3 2) (fH (jo p3 0) (fH (jo p3 1) (nj 3 p3)))).le (by lia) (by lia)
theorem afw {a b:Nat}{tx s:List T} (ha:1≤a) (ht:B a b (.node tx)) (hs:B a b (.node s)):B (a+2) (4 * b+16) (.node (onward tx s).1)∧B (a+2) (4 * b+16) (.node (onward tx s).2.1):=by
 have hb:=ht.pos
 have t0:=vN (jo ht 0)
 unfold onward
 split
 ·exact⟨(nj 1 ht).le (by lia) (by lia),hs.le (by lia) (by lia)⟩
 ·rename_i w ws e
  rw [e] at t0
  have hw:B a b w:=ab3 t0 List.mem_cons_self
  have hws:B a b (.node ws):=nj 1 t0
  have hbe:=afy ha hw hs
  have hd:=nj 1 ht
  have hl:=nj 1 (vN hw)
  split
  ·split
   ·exact⟨(fH (jo hl 0) (fH hws hd)).le (by lia) (by lia),hbe⟩
   ·exact⟨(fH (nj 2 (vN hw)) (fH hws hd)).le (by lia) (by lia),hbe⟩
  split
  ·split
   ·exact⟨(fH (aap hw) ht).le (by lia) (by lia),hbe⟩
   ·exact⟨(fH hws hd).le (by lia) (by lia),hbe⟩
  split
  ·exact⟨(fH hws hd).le (by lia) (by lia),hbe⟩
  ·exact⟨(fH hws hd).le (by lia) (by lia),hbe⟩
theorem ala {te:TE}{i:Nat}{u:TS}{D:Ends}{σ:L2.St}{H:Hp} (P:V→Hp→Prop) (h:∀ R:VK,(∀ v H',P v H'→R v H')→te σ H R) (k:∀ v H',P v H'→u D (σ.set i (some v)) H'):tSeq (tAsg te (gName i)) u D σ H:=h _ k
theorem akj {H:Hp}{p q:Addr} (d:wC H p) (h:H q=none):q≠p:=fun z=>by
 obtain⟨ms,e⟩:=d
 rw [z,e] at h
 cases h
theorem jm {te:TE}{i:Nat}{u:TS}{D:Ends}{σ:L2.St}{H:Hp} (σ':V→L2.St) (hσ:∀ v,σ.set i (some v)=σ' v) (P:V→Hp→Prop) (h:∀ R:VK,(∀ v H',P v H'→R v H')→te σ H R) (k:∀ v H',P v H'→u D (σ' v) H'):tSeq (tAsg te (gName i)) u D σ H :=
 ala P h fun v H' p=>by rw [hσ]; exact k v H' p
def jP (o:Obj) (xs:List V):Prop:=∃ (its:Array Value) (n:Nat),o.cls=.type "tuple"∧o.data=.seq its n∧its.size≤sizeLine∧Vals xs its.toList
theorem jP.sq {K:PySem.W.Frag}{o:Obj}{xs:List V}{a:Addr}{H:Hp} (h:jP o xs) (l:K.lookup a=some o):SqT K H a xs:=by
 obtain⟨its,n,h1,h2,h3,h4⟩:=h
 exact .inr ⟨o,its,n,l,h1,h2,h3,h4⟩
def Ih (K:PySem.W.Frag):Sp:=fun vs H Q _=>∃ x t,vs=[x]∧TR K H t x∧t.deep≤400∧∀ y H',Same H H'→TR K H' (ats t.kids 0) y→Q y H'
def Fq (K:PySem.W.Frag):Sp:=fun vs H Q _=>∃ x t,vs=[x]∧TR K H t x∧∀ y H',Same H H'→TR K H' (bf t) y→Q y H'
theorem U9 (t:T):aH t=min 9 (ats t.kids 0).kids.length:=by
 cases t with
 | node ts=>cases ts <;> rfl
theorem mj {K:PySem.W.Frag}{H:Hp}{t:T}{x:V} (h:TR K H t x):TR K H (.node t.kids) x:=by rw [fO]; exact h
theorem fV {n:Nat} (h:n≤16000000):n≤sizeLine:=Nat.le_trans h (by decide)
theorem ajI:(2:Int) ^ 62=4611686018427387904:=by decide
theorem aa6 {K:PySem.W.Frag}{H:Hp}{Q:VK}{x y:V}{k:Int} (n:Nat) (hx:TR K H (.node [.node []]) x) (hy:y=.int k) (hk:k.toNat=n) (h0:-16000000≤k) (hn:n≤16000000) (q:∀ z H',Same H H'→TR K H' (wY n) z→Q z H'):Ga K x y H Q:=by
 obtain⟨a,xs,rfl,ha,ra⟩:=cF.mp hx
 obtain⟨v,r,rfl,hv,hr⟩:=cN.mp ra
 rw [bJ] at hr
 subst hr
 subst hk
 have h2:=ajI
 refine⟨a,k,[v],rfl,hy,ha,by lia,by lia,by show 1 * k.toNat≤sizeLine; exact fV (by lia),fun p H' S h=>q _ _ S ?_⟩
 have e:vO [v] k=List.replicate k.toNat v:=by
  unfold vO
  exact ae9 v _
 rw [e] at h
 exact uW h (Zn (hv.mono (.of S)) _)
theorem aa5 {K:PySem.W.Frag}{H:Hp}{Q:VK}{σ:L2.St}{x y:V}{k:Int} (n:Nat) (hx:TR K H (.node [.node []]) x) (hy:y=.int k) (hk:k.toNat=n) (h0:-16000000≤k) (hn:n≤16000000) (q:∀ z H',Same H H'→TR K H' (wY n) z→Q z H'):tC y σ H (fun y H2=>Ga K x y H2 Q):=aa6 n hx hy hk h0 hn q
def looks (k:Nat):Nat:=([0,1,1,2,2,1,3,1,1,1,1,0,0]:List Nat).getD k 0
def wI (k:Nat) (l:T) (s:List T):List T :=
 if k=0 then l::s
 else if k=1 then s.drop 1
 else if k=2 then ats s 0::s
 else if k=3 then ats s 1::ats s 0::s.drop 2
 else if k=4 then .node (ats s 0::(ats s 1).kids)::s.drop 2
 else if k=5 then ats (ats s 0).kids 0::bf (ats s 0)::s.drop 1
 else if k=6 then ats s 2::ats s 0::ats s 1::s.drop 3
 else s
theorem adp {s:List T} (h:1≤s.length):ats s 0::s.drop 1=s:=by
 cases s with
 | nil=>simp at h
 | cons t r=>rfl
theorem Yk {w:T}{s:List T} (h:aH w≤6):behind w s=wI (aH w) (bf w) (pad s (looks (aH w))):=by
 have hl:aH w=0∨aH w=1∨aH w=2∨aH w=3∨aH w=4∨aH w=5∨aH w=6:=by lia
 rcases hl with e | e | e | e | e | e | e
 ·rw [DX e,e]; show _=bf w::pad s 0; rw [cU (Nat.zero_le _)]
 ·rw [Xp e,e]; rfl
 ·rw [Xo e,e]
  show _=ats (pad s 1) 0::pad s 1
  rw [adp (Bx s 1)]
 ·rw [Xn e,e]; rfl
 ·rw [Xm e,e]; rfl
 ·rw [Rq e,e]; rfl
 ·rw [Xl e,e]; rfl
def stepT (tx s:List T):Nat:=(onward tx s).2.2
theorem Uy {tx s:List T} (h:(ats tx 0).kids=[]):stepT tx s=12:=by
 unfold stepT onward
 rw [h]
section
variable {tx s:List T}{w:T}{ws:List T}
theorem acR (h:(ats tx 0).kids=[]):onward tx s=(tx.drop 1,s,12):=by
 unfold onward
 rw [h]
theorem Vx (h:(ats tx 0).kids=w::ws) (e:aH w=7) (d:(ats s 0).kids≠[]):onward tx s=(ats (w.kids.drop 1) 0::.node ws::tx.drop 1,pad s 1,7):=by
 unfold onward
 rw [h]
 show (if aH w=7 then _ else _)=_
 rw [if_pos e,if_pos d,jM (by lia),e]
 rfl
theorem aaQ (h:(ats tx 0).kids=w::ws) (e:aH w=7) (d:(ats s 0).kids=[]):onward tx s=(.node (w.kids.drop 2)::.node ws::tx.drop 1,pad s 1,8):=by
 unfold onward
 rw [h]
 show (if aH w=7 then _ else _)=_
 rw [if_pos e,if_neg (by simp [d]),jM (by lia),e]
 rfl
theorem Qt (h:(ats tx 0).kids=w::ws) (e:aH w=8) (d:(ats s 0).kids≠[]):onward tx s=(bf w::tx,pad s 1,9):=by
 unfold onward
 rw [h]
 show (if aH w=7 then _ else _)=_
 rw [if_neg (by lia),if_pos e,if_pos d,jM (by lia),e]
 rfl
theorem Qq (h:(ats tx 0).kids=w::ws) (e:aH w=8) (d:(ats s 0).kids=[]):onward tx s=(.node ws::tx.drop 1,pad s 1,10):=by
 unfold onward
 rw [h]
 show (if aH w=7 then _ else _)=_
 rw [if_neg (by lia),if_pos e,if_neg (by simp [d]),jM (by lia),e]
 rfl
theorem Qs (h:(ats tx 0).kids=w::ws) (e:aH w=9):onward tx s=(.node ws::tx.drop 1,pad s 0,11):=by
 unfold onward
 rw [h]
 show (if aH w=7 then _ else _)=_
 rw [if_neg (by lia),if_neg (by lia),if_pos e,jM (by lia),e]
 rfl
theorem Qp (h:(ats tx 0).kids=w::ws) (e:aH w≤6):onward tx s=(.node ws::tx.drop 1,wI (aH w) (bf w) (pad s (looks (aH w))),aH w):=by
 unfold onward
 rw [h]
 show (if aH w=7 then _ else _)=_
 rw [if_neg (by lia),if_neg (by lia),if_neg (by lia),Yk e]
end
theorem Bt {k:Nat}{l:T}{s:List T} (h:7≤k):wI k l s=s:=by
 unfold wI
 rw [if_neg (by lia),if_neg (by lia),if_neg (by lia),if_neg (by lia),if_neg (by lia),if_neg (by lia),if_neg (by lia)]
theorem aeP (k:Nat):looks k≤3:=by
 by_cases h:k<13
 ·have:∀ k,k<13→looks k≤3:=by decide
  exact this k h
 ·unfold looks
  rw [List.getD_eq_getElem?_getD,List.getElem?_eq_none (by show 13≤k; lia)]
  decide
section
variable {tx s:List T}
theorem ahX:((ats tx 0).kids=[]∧onward tx s=(tx.drop 1,s,12))∨∃ w ws,(ats tx 0).kids=w::ws ∧
  (onward tx s=(ats (w.kids.drop 1) 0::.node ws::tx.drop 1,pad s 1,7)∨onward tx s=(.node (w.kids.drop 2)::.node ws::tx.drop 1,pad s 1,8)∨onward tx s=(bf w::tx,pad s 1,9) ∨ ∃ k,(k≤6∨k=10∨k=11)∧onward tx s=(.node ws::tx.drop 1,wI k (bf w) (pad s (looks k)),k)):=by
 cases hk:(ats tx 0).kids with
 | nil=>exact .inl ⟨rfl,acR hk⟩
 | cons w ws =>
  refine .inr ⟨w,ws,rfl,?_⟩
  have h9:=tY w
  by_cases e7:aH w=7
  ·by_cases d:(ats s 0).kids=[]
   ·exact .inr (.inl (aaQ hk e7 d))
   ·exact .inl (Vx hk e7 d)
  by_cases e8:aH w=8
  ·by_cases d:(ats s 0).kids=[]
   ·exact .inr (.inr (.inr ⟨10,by lia,Qq hk e8 d⟩))
   ·exact .inr (.inr (.inl (Qt hk e8 d)))
  by_cases e9:aH w=9
  ·exact .inr (.inr (.inr ⟨11,by lia,Qs hk e9⟩))
  ·exact .inr (.inr (.inr ⟨aH w,by lia,Qp hk (by lia)⟩))
theorem Ig:stepT tx s≤12:=by
 unfold stepT
 rcases ahX (tx:=tx) (s:=s) with⟨_,e⟩ | ⟨w,ws,_,e | e | e | ⟨k,h,e⟩⟩
 ·rw [e]; exact Nat.le_refl 12
 ·rw [e]; show 7≤12; lia
 ·rw [e]; show 8≤12; lia
 ·rw [e]; show 9≤12; lia
 ·rw [e]; show k≤12; lia
variable {w:T}{ws:List T}
end
def BX (tx:List T):Prop:=tx.length≤8000000∧∀ t∈tx,B 389 8000000 t
theorem BX.of {a b:Nat}{tx:List T} (h:B a b (.node tx)) (ha:a≤390) (hb:b≤8000000):BX tx:=by
 refine⟨by have:=h.len; lia,fun t ht=>?_⟩
 have h1:=h.1
 have h2:=h.2
 rw [T.aK] at h1
 rw [T.aG] at h2
 have:=T.uo ht
 have:=T.iu ht
 exact⟨by lia,by lia⟩
theorem W_ {n:Nat}:∀ {ts:List T},(∀ t∈ts,t.deep<n)→T.bM ts≤n
 | [],_=>by rw [T.aZ]; lia
 | t::ts,h=>by
  rw [T.aL]
  have h1:=h t List.mem_cons_self
  have h2:=W_ (n:=n) (ts:=ts) fun u hu=>h u (List.mem_cons_of_mem _ hu)
  lia
theorem BX.deep {tx:List T} (h:BX tx):(T.node tx).deep≤390:=by
 rw [T.aK]
 exact W_ fun t ht=>by have:=(h.2 t ht).1; lia
theorem BX.ats {tx:List T} (h:BX tx):B 390 8000000 (ats tx 0):=by
 cases tx with
 | nil=>exact Ej.le (by lia) (by lia)
 | cons t r=>exact (h.2 t List.mem_cons_self).le (by lia) (by lia)
def R0 (K:PySem.W.Frag):Sp:=fun vs H Q _=>∃ x tx s,vs=[x]∧TR K H (.node [.node tx,.node s]) x∧tx≠[]∧BX tx∧B 390 8000000 (.node s) ∧
 ∀ y H',Same H H'→TR K H' (.node [.node (onward tx s).1,.node (onward tx s).2.1]) y→Q y H'
theorem yE {t:T}:T.beq t leaf=decide (t.kids=[]):=by
 by_cases z:t.kids=[]
 ·rw [decide_eq_true z]
  exact (T.beq_iff _ _).mpr (by cases t; exact congrArg T.node z)
 ·rw [decide_eq_false z]
  exact Bool.eq_false_iff.mpr fun y=>z (by rw [(T.beq_iff _ _).mp y]; rfl)
theorem ahz {X:Cx}{pos:Pos}{o i:Expr}{to ti:TE}{t:MP} (ho:QE X o to) (hi:QE X i ti) (hs:X4 X t)
  (ha:∀ v,assign (.Subscript o i pos) X.env v=(do
   let ov ← holding [v] (eval o X.env)
   let iv ← holding [v,ov] (eval i X.env)
   standAt pos
   holding [v,ov,iv] (setItem ov iv v)
   release [v,ov,iv] []):=by intro _; rfl):QG X (.Subscript o i pos) (aiB to ti t):=⟨L2.ahN (ho:=ho.run) (hi:=hi.run) (hs:=hs) (ha:=ha)⟩
section
variable {X:Cx}
theorem adq (hc:X.calm=true):CallR X (.builtin "sum") (fun xs H Q=>∃ (p:Addr) (ns:List Int),xs=[.ref p]∧SqT X.K H p (ns.map V.int)∧Q (.int ns.sum) H):=by
 intro pins s σ H xs us Q I r h
 obtain⟨p,ns,rfl,hq,q⟩:=h
 obtain⟨u,rfl,rx⟩:=vals1 r
 cases rx
 obtain⟨its,r',pl,hz⟩:=I.tuple hq
 have hi:IntsAre its ns:=intsAre_of r'
 obtain⟨ys,e⟩:=hi.allInts.items
 have hns:ns=ys.toList.map (·.1):=by
  rw [← hi.numsOf,← nums_intItems,← e]
 have ht:s.heap.IsTuple p its.toArray:=pl
 rw [e] at ht
 obtain⟨o,ho,hc',n,hd⟩:=id ht
 have hne:p≠s.heap.objs.size:=Nat.ne_of_lt (Heap.lt_size ho)
 have hsz:(intItems ys).size=ys.size:=by simp [intItems]
 have W:=Walks.tuple (prog:=X.prog) (w:=X.w) (A:=X.A.in1) (I.ok.hd hc) s.heap.objs.size p hne (intItems ys)
 rw [hsz] at W
 refine call_sum_walkG (wpAny_pyIter_tuple ht ?_)
 refine⟨s.heap.objs.size,_,_,_,_,_,numAt ys,rfl,W,⟨⟨_,Heap.get?_push_size _ rfl,rfl,rfl⟩,ht.push _⟩,fun b hb=>?_,fun i v hP=>intItems_at hP,fun h' tk t' hk=>?_⟩
 ·rcases List.mem_cons.mp hb with rfl | hb
  ·exact Heap.lt_size (Heap.get?_push_size _ rfl)
  ·obtain rfl:=List.mem_singleton.mp hb
   exact Heap.lt_size (Heap.get?_push_of_some _ ho)
 ·have es:preSum (numAt ys) ys.size=ns.sum:=by rw [preSum_eq,List.take_of_length_le (by simp),hns]
  exact⟨.int ns.sum,H,I.kept (fun b o e=>hk b o (fun z=>absurd (Heap.lt_size e) (by rw [List.mem_singleton.mp z]; exact Nat.lt_irrefl _)) (Heap.get?_push_of_some _ e)),⟨t',by rw [es]⟩,q⟩
end
theorem Q7 {n j:Nat} (h:j<n):ixN n (j:Int)=some j:=by
 unfold ixN
 rw [if_pos (by lia),if_pos (by lia),Int.toNat_natCast]
abbrev nv (n:Nat):V:=.int (n:Int)
def U4 (K:PySem.W.Frag):Sp:=fun vs H Q _=>∃ x t,vs=[x]∧TR K H t x∧t.parts≤8000000∧∀ H',Same H H'→Q (.int t.parts) H'
def aam (K:PySem.W.Frag) (H:Hp) (x:V) (n:Nat) (p:Addr):Nat→Sg→Hp→Prop:=fun m σ H'=>∃ (ys:List V) (ts:List T) (c:Nat) (o:Option V),
 σ=[some x,some (.ref p),some (.int c),o]∧Same H H'∧H' p=some (.lst ys)∧TRs K H' ts ys∧c+T.aA ts=n∧m=T.aA ts
def ev0 (k:Nat):List Nat:=(List.replicate 15 0).set k 1
def o_ (tx s:List T):List Nat :=
 if stepT tx s=2 then (ev0 2).set 13 (ats s 0).parts
 else if stepT tx s=9 then (ev0 9).set 14 (bf (ats (ats tx 0).kids 0)).parts
 else ev0 (stepT tx s)
def abC (ns:List Nat):Int:=((ns.take 13).map fun n:Nat=>(n:Int)).sum - (ns.getD 2 0:Nat)+(ns.getD 13 0:Nat)
def bL (tx s:List T):Nat:=if stepT tx s=2 then (ats s 0).parts else 1
theorem N_ (tx s:List T):(o_ tx s).length=15:=by
 unfold o_ ev0
 split
 ·simp
 split <;> simp
theorem DQ (tx s:List T):1≤bL tx s:=by
 unfold bL
 split
 ·exact T.iU _
 ·exact Nat.le_refl 1
def acz (K:PySem.W.Frag):Sp:=fun vs H Q _=>∃ (a:Addr) (ns:List Nat),vs=[.ref a]∧SqT K H a (ns.map nv)∧ns.length=15∧∀ H',Same H H'→Q (.int (abC ns)) H'
theorem Uk {ns:List Nat}{k:Nat} (h:k<ns.length):atI (ns.map nv) (k:Int)=some (.int ((ns.getD k 0:Nat):Int)) :=
 atI_nat (by rw [List.getElem?_map,List.getElem?_eq_getElem h,List.getD_eq_getElem?_getD,List.getElem?_eq_getElem h]; rfl)
theorem agz (ns:List Nat) (k:Nat):(ns.map nv).take k=((ns.take k).map fun n:Nat=>(n:Int)).map V.int:=by
 rw [← List.map_take,List.map_map]
 rfl
theorem ah6 (ns:List Nat) (k v:Nat):(ns.map nv).set k (nv v)=(ns.set k v).map nv:=by rw [List.map_set]
theorem abw (s:List T) (k:Nat):T.aA (s.drop k)≤T.aA s:=by
 have e:=congrArg T.aA (List.take_append_drop k s)
 rw [T.bV] at e
 lia
theorem aeE (t:T):t.parts=1+T.aA t.kids:=by cases t; rw [T.aG]; rfl
theorem abg (t:T):(bf t).parts≤t.parts:=by
 unfold bf
 rw [T.aG,aeE t]
 have:=abw t.kids 1
 lia
end Sw
namespace PySem
section
variable {prog:Program}{w:World}{A:Around}{E:Value→Shared→Prop}{s:Shared}
theorem ac0 {m t:Addr}{i:Nat}{its:Array Value}{x:Value}{Q:Value→Shared→Prop} (hm:s.heap.IsTupleIter m t i) (ht:s.heap.IsTuple t its) (hx:its[i]?=some x)
  (q:∀ g,g.IsTupleIter m t (i+1)→Heap.SameBut m s.heap g→Q x { s with heap:=g }):wpAny (model prog w) A (Builtin.SmallTypes.nextOf (.ref m)) Q E s:=by
 obtain⟨om,e1,e2,e3⟩:=id hm
 obtain⟨ot,f1,_,nt,f3⟩:=ht
 unfold Builtin.SmallTypes.nextOf; refine wpAny_bind (wpAny_callSpecial?_slot (name:=Str.ofString "__next__") hm.typeIs F.slot_tuple_iterator_next (wpAny_call_entry F.slot_tuple_iterator_next hm.typeIs F.entry_tuple_iterator_next ?_ (F.args_tuple_iterator_next_1 _)))
 show wpAny _ _ (field (.ref m) 0 >>= _) _ _ s
 refine wpAny_bind (wpAny_field e1 e3 (x:=.ref t) rfl ?_); show wpAny _ _ (if (Value.ref t == Value.none)=true then _ else _) _ _ s
 rw [if_neg (fun z:(Value.ref t == Value.none)=true=>Bool.false_ne_true z)]; show wpAny _ _ (field (.ref m) 1 >>= _) _ _ s
 refine wpAny_bind (wpAny_field e1 e3 (x:=.int i 0) rfl ?_); show wpAny _ _ (seqItems? (.ref t) >>= _) _ _ s
 refine wpAny_bind (wpAny_seqItems f1 f3 ?_); simp only [Int.toNat_natCast,hx]
 refine wpAny_bind (wpAny_setField e1 e3 (by simp) (wpAny_pure ⟨x,rfl,wpAny_pure (q _ ?_ (Heap.SameBut.update ..))⟩))
 refine⟨_,Heap.get?_update_self _ e1 (Obj.isFreed_of_fields (Obj.data_mapFields e3 _)),(Obj.cls_mapFields ..).trans e2,?_⟩
 rw [Obj.data_mapFields e3]; simp [rawInt]
theorem aa1 {m t:Addr}{i:Nat}{its:Array Value}{Q:Value→Shared→Prop} (hh:A.handled=none) (hm:s.heap.IsTupleIter m t i) (ht:s.heap.IsTuple t its) (hx:its[i]?=none)
  (q:∀ g e,Heap.ExtBut m s.heap g→(∃ o,g.get? e=some o∧o.cls=.type "StopIteration")→E (.ref e) { s with heap:=g }):wpAny (model prog w) A (Builtin.SmallTypes.nextOf (.ref m)) Q E s:=by
 obtain⟨om,e1,e2,e3⟩:=id hm
 obtain⟨ot,f1,_,nt,f3⟩:=ht
 unfold Builtin.SmallTypes.nextOf; refine wpAny_bind (wpAny_callSpecial?_slot (name:=Str.ofString "__next__") hm.typeIs F.slot_tuple_iterator_next (wpAny_call_entry F.slot_tuple_iterator_next hm.typeIs F.entry_tuple_iterator_next ?_ (F.args_tuple_iterator_next_1 _)))
 show wpAny _ _ (field (.ref m) 0 >>= _) _ _ s
 refine wpAny_bind (wpAny_field e1 e3 (x:=.ref t) rfl ?_); show wpAny _ _ (if (Value.ref t == Value.none)=true then _ else _) _ _ s
 rw [if_neg (fun z:(Value.ref t == Value.none)=true=>Bool.false_ne_true z)]; show wpAny _ _ (field (.ref m) 1 >>= _) _ _ s
 refine wpAny_bind (wpAny_field e1 e3 (x:=.int i 0) rfl ?_); show wpAny _ _ (seqItems? (.ref t) >>= _) _ _ s
 refine wpAny_bind (wpAny_seqItems f1 f3 ?_); simp only [Int.toNat_natCast,hx]
 refine wpAny_bind (wpAny_rule (wpAny_bind (wpAny_setField e1 e3 (by simp) ?_))); show wpAny _ _ (newExc (.type "StopIteration") [] >>= _) _ _ _
 refine wpAny_bind ?_; simp only [newExc,newTuple]; refine wpAny_bind (wpAny_newObj_type ?_ (by size_fits))
 refine wpAny_bind (m:=firstArgMember _ _) (wpAny_of_eq (a:=Value.none) (by first | rfl | (simp only [firstArgMember]; rfl)) ?_); refine wpAny_newObj_type ?_ (by size_fits)
 simp only [raiseNew]; refine wpAny_bind (wpAny_handled ?_); first | rw [show A.in1.handled=none from hh] | rw [hh]
 refine wpAny_bind (wpAny_pure (wpAny_throw ?_))
 exact q _ _ (((Heap.SameBut.update ..).extBut.push _).push _) ⟨_,Heap.get?_push_size _ rfl,rfl⟩
theorem afR {z I O i1 i2 l1 l2:Addr}{k1 k2:Nat}{xs ys:Array Value}{x y a b:Value}{Q:Value→Shared→Prop} (D:ZipApart z I O i1 i2 l1 l2)
  (hz:IsZip s.heap z I O .none) (hI:IsPair s.heap I (.ref i1) (.ref i2)) (hO:IsPair s.heap O a b) (m1:s.heap.IsTupleIter i1 l1 k1) (m2:s.heap.IsTupleIter i2 l2 k2)
  (t1:s.heap.IsTuple l1 xs) (t2:s.heap.IsTuple l2 ys) (hx:xs[k1]?=some x) (hy:ys[k2]?=some y)
  (q:∀ g,IsZip g z I O (rawInt s.heap.objs.size)→IsPair g O x y→g.IsTupleIter i1 l1 (k1+1)→g.IsTupleIter i2 l2 (k2+1)→IsPair g s.heap.objs.size x y→g.objs.size=s.heap.objs.size+1 →
   (∀ c o,c≠z→c≠O→c≠i1→c≠i2→s.heap.get? c=some o→g.get? c=some o)→Q (.ref s.heap.objs.size) { s with heap:=g }) :
  wpAny (model prog w) A (Builtin.«zip.__next__» ⟨[.ref z],[]⟩) (fun fin u=>∃ v,fin=.done (.ret v)∧Q v u) E s:=by
 show wpAny _ _ (field (.ref z) 2 >>= _) _ _ _; refine wpAny_bind (wpAny_field hz rfl (x:=.bool false) rfl ?_)
 show wpAny _ _ (field (.ref z) 3 >>= _) _ _ _; refine wpAny_bind (wpAny_field hz rfl (x:=.ref I) rfl ?_)
 refine wpAny_bind (wpAny_seqItems hI rfl ?_); show wpAny _ _ (Builtin.SmallTypes.ownedTupleIsFree (.ref z) >>= _) _ _ _
 refine wpAny_bind ?_; unfold Builtin.SmallTypes.ownedTupleIsFree; refine wpAny_bind (wpAny_field hz rfl (x:=.none) rfl (wpAny_pure ?_))
 simp only [if_true]; refine wpAny_bind (wpAny_rule ?_); refine wpAny_bind (wpAny_field hz rfl (x:=.ref O) rfl ?_)
 refine wpAny_bind (wpAny_setField_rec hz (by simp) fun g1 z1 b1=>?_)
 replace z1:IsZip g1 z I O .ellipsis:=z1
 refine wpAny_bind ?_; simp only [List.zipIdx_cons,List.zipIdx_nil,List.forIn_cons,List.forIn_nil]
 refine wpAny_bind (wpAny_bind (wpAny_onRaise ?_)); show wpAny _ _ (Builtin.SmallTypes.nextOf (.ref i1) >>= _) _ _ _
 refine wpAny_bind (ac0 (m1.extBut b1.extBut D.i1z) (t1.extBut b1.extBut D.l1z) hx fun g2 m12 b2=>wpAny_pure ?_)
 have O2:IsPair g2 O a b:=b2.extBut _ _ D.TOi1 (b1.extBut _ _ D.TOz hO)
 refine wpAny_bind (wpAny_seqItems O2 rfl ?_); refine wpAny_bind (wpAny_updateSeq_pair O2 fun g3 O3 b3=>?_)
 replace O3:IsPair g3 O x b:=O3
 refine wpAny_bind (wpAny_letGo (wpAny_pure ?_)); refine wpAny_bind (wpAny_bind (wpAny_onRaise ?_)); show wpAny _ _ (Builtin.SmallTypes.nextOf (.ref i2) >>= _) _ _ _
 refine wpAny_bind (ac0 (((m2.extBut b1.extBut D.i2z).extBut b2.extBut D.i12.symm).extBut b3.extBut D.TOi2.symm) (((t2.extBut b1.extBut D.l2z).extBut b2.extBut D.l2i1).extBut b3.extBut D.l2TO) hy fun g4 m24 b4=>wpAny_pure ?_)
 have O4:IsPair g4 O x b:=b4.extBut _ _ D.TOi2 O3
 refine wpAny_bind (wpAny_seqItems O4 rfl ?_); refine wpAny_bind (wpAny_updateSeq_pair O4 fun g5 O5 b5=>?_)
 replace O5:IsPair g5 O x y:=O5
 refine wpAny_bind (wpAny_letGo (wpAny_pure (wpAny_pure ?_))); refine wpAny_bind (wpAny_seqItems O5 rfl ?_); refine wpAny_bind (wpAny_newTuple ?_)
 have sz:g5.objs.size=s.heap.objs.size:=by rw [b5.1,b4.1,b3.1,b2.1,b1.1]
 have z5:IsZip g5 z I O .ellipsis:=b5.extBut _ _ D.TOz.symm (b4.extBut _ _ D.i2z.symm (b3.extBut _ _ D.TOz.symm (b2.extBut _ _ D.i1z.symm z1)))
 have k5:∀ c o,c≠z→c≠O→c≠i1→c≠i2→s.heap.get? c=some o→g5.get? c=some o:=fun c o c1 c2 c3 c4 e=>b5.extBut _ _ c2 (b4.extBut _ _ c4 (b3.extBut _ _ c2 (b2.extBut _ _ c3 (b1.extBut _ _ c1 e))))
 have m15:g5.IsTupleIter i1 l1 (k1+1):=((m12.extBut b3.extBut D.TOi1.symm).extBut b4.extBut D.i12).extBut b5.extBut D.TOi1.symm
 have m25:g5.IsTupleIter i2 l2 (k2+1):=m24.extBut b5.extBut D.TOi2.symm
 have zlt:z<g5.objs.size:=Heap.lt_size z5
 show wpAny _ _ (Builtin.SmallTypes.ownedTupleHandOut (.ref z) (.ref g5.objs.size) >>= _) _ _ _
 refine wpAny_bind ?_; unfold Builtin.SmallTypes.ownedTupleHandOut
 have z6:IsZip (g5.push { cls:=.type "tuple",data:=.seq #[x,y] }) z I O .ellipsis:=Heap.get?_push_of_some _ z5
 refine wpAny_bind (wpAny_setField_rec z6 (by simp) fun g7 z7 b7=>?_)
 replace z7:IsZip g7 z I O (rawInt g5.objs.size):=z7
 refine wpAny_setField_rec z7 (by simp) fun g8 z8 b8=>?_
 replace z8:IsZip g8 z I O (rawInt g5.objs.size):=z8
 have up:∀ c o,c≠z→g5.get? c=some o→g8.get? c=some o:=fun c o c1 e=>b8.extBut _ _ c1 (b7.extBut _ _ c1 (Heap.get?_push_of_some _ e))
 have T8:IsPair g8 g5.objs.size x y:=b8.extBut _ _ (Nat.ne_of_gt zlt) (b7.extBut _ _ (Nat.ne_of_gt zlt) (Heap.get?_push_size _ rfl))
 have s8:g8.objs.size=g5.objs.size+1:=by rw [b8.1,b7.1,Heap.size_push]
 rw [sz] at z8 T8 s8; refine wpAny_pure ⟨_,rfl,?_⟩; show Q (.ref g5.objs.size) _
 rw [sz]; exact q g8 z8 (up _ _ D.TOz O5) (by obtain⟨o,e,r⟩:=m15; exact⟨o,up _ o D.i1z e,r⟩) (by obtain⟨o,e,r⟩:=m25; exact⟨o,up _ o D.i2z e,r⟩) T8 s8 fun c o c1 c2 c3 c4 e=>up c o c1 (k5 c o c1 c2 c3 c4 e)
theorem ahb {z I O i1 i2 l1 l2:Addr}{k1:Nat}{xs:Array Value}{Q:Fin→Shared→Prop} (hh:A.handled=none) (D:ZipApart z I O i1 i2 l1 l2)
  (hz:IsZip s.heap z I O .none) (hI:IsPair s.heap I (.ref i1) (.ref i2)) (m1:s.heap.IsTupleIter i1 l1 k1) (t1:s.heap.IsTuple l1 xs) (hx:xs[k1]?=none)
  (q:∀ g e,(∀ c o,c≠z→c≠O→c≠i1→c≠i2→s.heap.get? c=some o→g.get? c=some o)→(∃ o,g.get? e=some o∧o.cls=.type "StopIteration")→E (.ref e) { s with heap:=g }) :
  wpAny (model prog w) A (Builtin.«zip.__next__» ⟨[.ref z],[]⟩) Q E s:=by
 show wpAny _ _ (field (.ref z) 2 >>= _) _ _ _; refine wpAny_bind (wpAny_field hz rfl (x:=.bool false) rfl ?_)
 show wpAny _ _ (field (.ref z) 3 >>= _) _ _ _; refine wpAny_bind (wpAny_field hz rfl (x:=.ref I) rfl ?_)
 refine wpAny_bind (wpAny_seqItems hI rfl ?_); show wpAny _ _ (Builtin.SmallTypes.ownedTupleIsFree (.ref z) >>= _) _ _ _
 refine wpAny_bind ?_; unfold Builtin.SmallTypes.ownedTupleIsFree; refine wpAny_bind (wpAny_field hz rfl (x:=.none) rfl (wpAny_pure ?_))
 simp only [if_true]; refine wpAny_bind (wpAny_rule ?_); refine wpAny_bind (wpAny_field hz rfl (x:=.ref O) rfl ?_)
 refine wpAny_bind (wpAny_setField_rec hz (by simp) fun g1 z1 b1=>?_)
 replace z1:IsZip g1 z I O .ellipsis:=z1
 refine wpAny_bind ?_; simp only [List.zipIdx_cons,List.zipIdx_nil,List.forIn_cons,List.forIn_nil]
 refine wpAny_bind (wpAny_bind (wpAny_onRaise ?_)); show wpAny _ _ (Builtin.SmallTypes.nextOf (.ref i1) >>= _) _ _ _
 refine wpAny_bind (aa1 hh (m1.extBut b1.extBut D.i1z) (t1.extBut b1.extBut D.l1z) hx fun g2 e b2 he=>?_)
 obtain⟨oe,h1,h2⟩:=he
 have z2:IsZip g2 z I O .ellipsis:=b2 _ _ D.i1z.symm z1
 have ez:e≠z:=fun x=>by subst x; rw [z2] at h1; cases h1; simp at h2
 refine wpAny_setField_rec z2 (by simp) fun g3 _ b3=>q g3 e (fun c o c1 _ c3 _ x=>b3.extBut _ _ c1 (b2 _ _ c3 (b1.extBut _ _ c1 x))) ⟨oe,b3.extBut _ _ ez h1,h2⟩
abbrev zt1 (h:Heap) (l1:Addr):Heap:=h.push { cls:=.type "tuple_iterator",data:=.fields #[.ref l1,.int 0 0] }
abbrev zt2 (h:Heap) (l1 l2:Addr):Heap:=(zt1 h l1).push { cls:=.type "tuple_iterator",data:=.fields #[.ref l2,.int 0 0] }
abbrev zt3 (h:Heap) (l1 l2:Addr):Heap:=(zt2 h l1 l2).push { cls:=.type "tuple",data:=.seq #[.ref h.objs.size,.ref (zt1 h l1).objs.size] }
abbrev zt4 (h:Heap) (l1 l2:Addr):Heap:=(zt3 h l1 l2).push { cls:=.type "tuple",data:=.seq #[.none,.none] }
abbrev zt5 (h:Heap) (l1 l2:Addr):Heap:=(zt4 h l1 l2).push { cls:=.type "zip",data:=.fields #[.none,.bool false,.bool false,.ref (zt2 h l1 l2).objs.size,.ref (zt3 h l1 l2).objs.size] }
theorem aha (l1 l2:Addr) (xs ys:Array Value) :
  Meets (Builtin.«zip.__new__» ⟨[.type "zip",.ref l1,.ref l2],[]⟩) (fun _ R u=>u.heap.IsTuple l1 xs∧u.heap.IsTuple l2 ys∧R (.ok (.ret (.ref (zt4 u.heap l1 l2).objs.size))) { u with heap:=zt5 u.heap l1 l2 }) :=
 .of_wp fun prog w A R u h=>by
  obtain⟨hp,g,d,tk,os⟩:=u; obtain⟨h1,h2,h⟩:=h
  have hsub:=sub_zip
  have T1:Heap.IsTuple (Shared.heap ⟨hp,g,d,tk,os⟩) l1 xs:=h1
  have T2:Heap.IsTuple (Shared.heap ⟨hp.push { cls:=.type "tuple_iterator",data:=.fields #[.ref l1,.int 0 0] },g,d,tk,os⟩) l2 ys:=Heap.IsTuple.push h2 _
  wp_walk using wpAny_pyIter_tuple T1,wpAny_pyIter_tuple T2
  exact⟨_,rfl,h⟩
theorem ag1 {l1 l2:Addr}{xs ys:Array Value}{Q:Value→Shared→Prop} (h1:s.heap.IsTuple l1 xs) (h2:s.heap.IsTuple l2 ys)
  (q:∀ g,IsZip g (s.heap.objs.size+4) (s.heap.objs.size+2) (s.heap.objs.size+3) .none→IsPair g (s.heap.objs.size+2) (.ref s.heap.objs.size) (.ref (s.heap.objs.size+1)) →
   IsPair g (s.heap.objs.size+3) .none .none→g.IsTupleIter s.heap.objs.size l1 0→g.IsTupleIter (s.heap.objs.size+1) l2 0→g.objs.size=s.heap.objs.size+5 →
   (∀ c o,s.heap.get? c=some o→g.get? c=some o)→Q (.ref (s.heap.objs.size+4)) { s with heap:=g }):wpAny (model prog w) A (call (.type "zip") [.ref l1,.ref l2]) Q E s:=by
 refine callType_new F.called_zip (by decide) (F.typeCall_zip_2 _ _) (F.newCall_zip_2 _ _) (fun obj=>F.args_object_init_3 obj _ _) F.entry_zip_new (aha l1 l2 xs ys) ⟨h1,h2,?_⟩
 have z1:(zt1 s.heap l1).objs.size=s.heap.objs.size+1:=Heap.size_push ..
 have z2:(zt2 s.heap l1 l2).objs.size=s.heap.objs.size+2:=by rw [Heap.size_push,z1]
 have z3:(zt3 s.heap l1 l2).objs.size=s.heap.objs.size+3:=by rw [Heap.size_push,z2]
 have z4:(zt4 s.heap l1 l2).objs.size=s.heap.objs.size+4:=by rw [Heap.size_push,z3]
 have z5:(zt5 s.heap l1 l2).objs.size=s.heap.objs.size+5:=by rw [Heap.size_push,z4]
 have w5:(zt5 s.heap l1 l2).get? (zt4 s.heap l1 l2).objs.size=some _:=Heap.get?_push_size _ rfl
 have w4:(zt5 s.heap l1 l2).get? (zt3 s.heap l1 l2).objs.size=some _:=Heap.get?_push_of_some _ (Heap.get?_push_size _ rfl)
 have w3:(zt5 s.heap l1 l2).get? (zt2 s.heap l1 l2).objs.size=some _:=Heap.get?_push_of_some _ (Heap.get?_push_of_some _ (Heap.get?_push_size _ rfl))
 have w2:(zt5 s.heap l1 l2).get? (zt1 s.heap l1).objs.size=some _:=Heap.get?_push_of_some _ (Heap.get?_push_of_some _ (Heap.get?_push_of_some _ (Heap.get?_push_size _ rfl)))
 have w1:(zt5 s.heap l1 l2).get? s.heap.objs.size=some _:=Heap.get?_push_of_some _ (Heap.get?_push_of_some _ (Heap.get?_push_of_some _ (Heap.get?_push_of_some _ (Heap.get?_push_size _ rfl))))
 show _∧_
 rw [z2,z3,z4] at w5; rw [z1,z2] at w3; rw [z3] at w4; rw [z1] at w2; rw [z4]
 exact⟨⟨_,w5,rfl⟩,q _ w5 w3 w4 ⟨_,w1,rfl,rfl⟩ ⟨_,w2,rfl,rfl⟩ z5 fun c o x=>Heap.get?_push_of_some _ (Heap.get?_push_of_some _ (Heap.get?_push_of_some _ (Heap.get?_push_of_some _ (Heap.get?_push_of_some _ x))))⟩
end
end PySem
namespace Sw
open PySem PySem.Spec PyProof.Rows L2
def Itz (K:PySem.W.Frag) (a b:Addr):It :=
 ⟨fun i H=>∃ xs ys x y,SqT K H a xs∧SqT K H b ys∧xs[i]?=some x∧ys[i]?=some y, fun i H v H'=>∃ p x y,v=.ref p∧H p=none∧H'=upd H p (.tup [x,y])∧(∀ xs,SqT K H a xs→xs[i]?=some x)∧∀ ys,SqT K H b ys→ys[i]?=some y, fun i H=>∃ xs,SqT K H a xs∧xs.length≤i⟩
theorem ae7 {X:Cx}{pins:List (Addr×Obj)}{σ:Sg}{H:Hp}{s:Shared}{h2:Heap}{tk:Nat}{fp:List Addr}{xs:List V} (I:Inv X pins σ H s) (hf:∀ b∈fp,FpOk X pins H b)
  (k:∀ b o,b ∉ fp→s.heap.get? b=some o→h2.get? b=some o) (new:ObjOk X.prog X.w (upd H s.heap.objs.size (.tup xs)) h2 s.heap.objs.size (.tup xs)) :
  Inv X pins σ (upd H s.heap.objs.size (.tup xs)) { s with heap:=h2,toks:=tk }:=by
 have hn:H s.heap.objs.size=none:=I.hok.fresh (Nat.le_refl _)
 have nt:∀ b u,H b=some u→b≠s.heap.objs.size:=fun b u q=>ne_of_none q hn
 have ne:∀ b u,H b=some u→b ∉ fp:=fun b u q z=>by rw [(hf b z).1] at q; cases q
 have up:∀ b u,H b=some u→upd H s.heap.objs.size (.tup xs) b=some u:=fun b u q=>by rw [upd_ne (nt b u q)]; exact q
 refine I.step (g':=s.gens) (d':=s.drawn) (t':=tk) (ch:=fp) (fun b hb=>⟨(hf b hb).2.2.2.1,(hf b hb).2.1,(hf b hb).2.2.2.2.1,(hf b hb).2.2.2.2.2⟩) (fun b o _ _ hb q _=>k b o hb q)
  (fun b o _ _ hb q _=>⟨o.slots,k b o hb q⟩) (fun b o _ q n=>by rw [upd_ne (Nat.ne_of_lt (Heap.lt_size q))]; exact n)
  (fun b o hb q=>⟨o,k b o hb q⟩) (fun b ys q=>up _ _ q) (fun b o u q=>up _ _ q) (fun b ps q=>⟨#[],by rw [up _ _ q]; simp⟩) (fun m hm=>?_) (fun b u q=>?_) I.bare
 ·obtain⟨o,es,ep,ho,r⟩:=hm
  exact⟨o,es,ep,k _ o (fun z=>(hf _ z).2.1 rfl) ho,r⟩
 ·by_cases hb:b=s.heap.objs.size
  ·subst hb
   rw [upd_same] at q
   cases q
   exact new
  ·rw [upd_ne hb] at q
   refine (I.hok b u q).stay (fun c v hc q'=>k c v ?_ q') (fun c q'=>up _ _ q') fun c ys q'=>up _ _ q'
   rcases hc with z | z
   ·rw [z]; exact ne b u q
   ·exact ne c _ z
theorem YL {X:Cx}{pins:List (Addr×Obj)}{σ:Sg}{H:Hp}{s:Shared}{h2:Heap}{tk:Nat}{fp:List Addr} (I:Inv X pins σ H s) (hf:∀ b∈fp,FpOk X pins H b)
  (k:∀ b o,b ∉ fp→s.heap.get? b=some o→h2.get? b=some o):Inv X pins σ H { s with heap:=h2,toks:=tk }:=by
 have ne:∀ b u,H b=some u→b ∉ fp:=fun b u q z=>by rw [(hf b z).1] at q; cases q
 refine I.step (g':=s.gens) (d':=s.drawn) (t':=tk) (ch:=fp) (fun b hb=>⟨(hf b hb).2.2.2.1,(hf b hb).2.1,(hf b hb).2.2.2.2.1,(hf b hb).2.2.2.2.2⟩) (fun b o _ _ hb q _=>k b o hb q)
  (fun b o _ _ hb q _=>⟨o.slots,k b o hb q⟩) (fun _ _ _ _ n=>n) (fun b o hb q=>⟨o,k b o hb q⟩) (fun _ _ q=>q) (fun _ _ _ q=>q) (fun b ps q=>⟨#[],by rw [q]; simp⟩) (fun m hm=>?_) (fun b u q=>?_) I.bare
 ·obtain⟨o,es,ep,ho,r⟩:=hm
  exact⟨o,es,ep,k _ o (fun z=>(hf _ z).2.1 rfl) ho,r⟩
 ·refine (I.hok b u q).stay (fun c v hc q'=>k c v ?_ q') (fun _ q'=>q') fun _ _ q'=>q'
  rcases hc with z | z
  ·rw [z]; exact ne b u q
  ·exact ne c _ z
theorem ad8 {P:Program}{w:World}{K:PySem.W.Frag}{elts:List Expr}{x1:Nat}{tp:Pos} (z I O i1 i2 a b:Addr) (D:ZipApart z I O i1 i2 a b) :
  Turn P w K (.Tuple elts x1 tp) (Itz K a b) [z,I,O,i1,i2] z (fun i h=>IsZip h z I O .none∧IsPair h I (.ref i1) (.ref i2)∧(∃ u v,IsPair h O u v)∧h.IsTupleIter i1 a i∧h.IsTupleIter i2 b i) where
 mem:=by simp
 obj:=fun i h st c hc=>by
  obtain⟨h1,h2,⟨u,v,h3⟩,⟨o4,h4,_,d4⟩,⟨o5,h5,_,d5⟩⟩:=st
  simp only [List.mem_cons,List.not_mem_nil,or_false] at hc
  rcases hc with e | e | e | e | e
  ·rw [e]; exact⟨_,h1,fun v z=>by cases z⟩
  ·rw [e]; exact⟨_,h2,fun v z=>by cases z⟩
  ·rw [e]; exact⟨_,h3,fun v z=>by cases z⟩
  ·rw [e]; exact⟨_,h4,fun v z=>by rw [d4] at z; cases z⟩
  ·rw [e]; exact⟨_,h5,fun v z=>by rw [d5] at z; cases z⟩
 keep:=fun i h h' st k=>by
  obtain⟨h1,h2,⟨u,v,h3⟩,⟨o4,h4,r4⟩,⟨o5,h5,r5⟩⟩:=st
  exact⟨k z (by simp) _ h1,k I (by simp) _ h2,⟨u,v,k O (by simp) _ h3⟩,⟨o4,k i1 (by simp) _ h4,r4⟩,⟨o5,k i2 (by simp) _ h5,r5⟩⟩
 item:=by
  intro X hP hw hK hc i pins s σ H E Iv hf st hg
  subst hP hw hK
  obtain⟨h1,h2,⟨u,v,h3⟩,h4,h5⟩:=st
  obtain⟨xs,ys,x,y,qa,qb,ex,ey⟩:=hg
  obtain⟨its,ra,pa,_⟩:=Iv.tuple qa
  obtain⟨jts,rb,pb,_⟩:=Iv.tuple qb
  obtain⟨vx,hvx,rx⟩:=ra.get ex
  obtain⟨vy,hvy,ry⟩:=rb.get ey
  have hT:s.TypeIs (.ref z) "zip":=⟨_,h1,rfl⟩
  unfold pyNext
  refine wpAny_bind (wpAny_attempt (wpAny_callSpecial?_slot (name:=Str.ofString "__next__") hT F.slot_zip_next (wpAny_call_entry F.slot_zip_next hT F.entry_zip_next
   (afR D h1 h2 h3 h4 h5 (show s.heap.IsTuple a its.toArray from pa) (show s.heap.IsTuple b jts.toArray from pb) (x:=vx) (y:=vy) (by simpa using hvx) (by simpa using hvy) fun g a1 a2 a3 a4 a5 a6 a7=>wpAny_pure ⟨_,rfl,?_⟩) (F.args_zip_next_1 _))))
  refine wpAny_letOwnedTupleGo_zip a1 fun g2 z2 b2=>?_
  have zlt:z<s.heap.objs.size:=Heap.lt_size h1
  have hn:H s.heap.objs.size=none:=Iv.hok.fresh (Nat.le_refl _)
  have T2:g2.get? s.heap.objs.size=some { cls:=.type "tuple",data:=.seq #[vx,vy] }:=(b2.2 _ (Nat.ne_of_gt zlt)).trans a5
  have lt:∀ c∈[z,I,O,i1,i2],c<s.heap.objs.size:=fun c hc=>by
   simp only [List.mem_cons,List.not_mem_nil,or_false] at hc
   rcases hc with e | e | e | e | e
   ·rw [e]; exact zlt
   ·rw [e]; exact Heap.lt_size h2
   ·rw [e]; exact Heap.lt_size h3
   ·rw [e]; obtain⟨_,q,_⟩:=h4; exact Heap.lt_size q
   ·rw [e]; obtain⟨_,q,_⟩:=h5; exact Heap.lt_size q
  refine⟨.ref s.heap.objs.size,upd H s.heap.objs.size (.tup [x,y]),ae7 (s:=s) (xs:=[x,y]) (h2:=g2) (tk:=s.toks) Iv hf (fun c o hc q=>?_) ?_,rfl,⟨_,x,y,rfl,hn,rfl,fun zs hz=>by rw [Iv.u_ hz qa]; exact ex,fun zs hz=>by rw [Iv.u_ hz qb]; exact ey⟩,⟨z2,?_,⟨_,_,(b2.2 O D.TOz).trans a2⟩,?_,?_⟩,fun c hc=>?_⟩
  ·simp only [List.mem_cons,List.not_mem_nil,or_false,not_or] at hc
   exact (b2.2 c hc.1).trans (a7 c o hc.1 hc.2.2.1 hc.2.2.2.1 hc.2.2.2.2 q)
  ·exact⟨(by show 2≤sizeLine; decide),[vx,vy],.cons rx (.cons ry .nil),⟨_,T2,rfl,_,rfl⟩⟩
  ·exact (b2.2 I D.TIz).trans (a7 I _ D.TIz D.TITO D.TIi1 D.TIi2 h2)
  ·obtain⟨o,q,r⟩:=a3; exact⟨o,(b2.2 i1 D.i1z).trans q,r⟩
  ·obtain⟨o,q,r⟩:=a4; exact⟨o,(b2.2 i2 D.i2z).trans q,r⟩
  ·rw [upd_ne (Nat.ne_of_lt (lt c hc))]; exact (hf c hc).1
 done:=by
  intro X hP hw hK hc i pins s σ H E Iv hf st hg
  subst hP hw hK
  obtain⟨h1,h2,⟨u,v,h3⟩,h4,h5⟩:=st
  obtain⟨xs,qa,hl⟩:=hg
  obtain⟨its,ra,pa,_⟩:=Iv.tuple qa
  have hlen:=ra.length
  have hT:s.TypeIs (.ref z) "zip":=⟨_,h1,rfl⟩
  unfold pyNext
  refine wpAny_bind (wpAny_attempt (wpAny_callSpecial?_slot (name:=Str.ofString "__next__") hT F.slot_zip_next (wpAny_call_entry F.slot_zip_next hT F.entry_zip_next
   (ahb (Iv.ok.hd hc) D h1 h2 h4 (show s.heap.IsTuple a its.toArray from pa) (by simp; lia) fun g e hk he=>?_) (F.args_zip_next_1 _))))
  obtain⟨oe,he1,he2⟩:=he
  refine wpAny_bind (wpAny_isInstance (T:="StopIteration") (b:=true) ⟨oe,he1,he2⟩ isSubtype_stop (wpAny_pure ⟨rfl,?_⟩))
  refine YL (tk:=s.toks) Iv hf fun c o hc q=>?_
  simp only [List.mem_cons,List.not_mem_nil,or_false,not_or] at hc
  exact hk c o hc.1 hc.2.2.1 hc.2.2.2.1 hc.2.2.2.2 q
 self:=fun _ _ _ _ _ st h=>wpAny_pyIter_zip st.1 h
theorem ajm:bootBuiltins "zip"=some (.type "zip"):=by decide +kernel
def ain (K:PySem.W.Frag) (ta:TA):TI:=fun σ H R=>ta σ H fun vs H1=>∃ a b xs ys,vs=[.ref a,.ref b]∧SqT K H1 a xs∧SqT K H1 b ys∧R (Itz K a b) H1
theorem ahL {X:Cx}{elts:List Expr}{x1:Nat}{tp p pos:Pos}{a b:Expr}{ta:TA} (hg:Gl X "zip") (hm:X.mg "zip"=none) (ha:PA X [a,b] ta)
  (hs:starEach [a,b] X.env=[(false,eval a X.env),(false,eval b X.env)]:=by rfl) (hs2:starEach [b] X.env=[(false,eval b X.env)]:=by rfl) :
  PI X (.Tuple elts x1 tp) (.Call (.Name "zip" p) [a,b] [] pos) (ain X.K ta):=by
 intro pins s σ H R I h
 refine Call_ (ld_blt I hg hm ajm (PyProof.Rows.callWith_type1 (thn (ha pos pins s σ H _ I h) fun us s1 ⟨vs,H1,I1,r1,q1⟩=>?_) (by rw [hs,hs2]) (by rw [hs2]; rfl)))
 obtain⟨l1,l2,xs,ys,rfl,qa,qb,q⟩:=q1
 cases r1 with
 | cons r rr =>
  cases rr with
  | cons r' rr =>
   cases rr
   cases r
   cases r'
   obtain⟨its,ra,pa,_⟩:=I1.tuple qa
   obtain⟨jts,rb,pb,_⟩:=I1.tuple qb
   have lt1:l1<s1.heap.objs.size:=by obtain⟨_,e,_⟩:=id pa; exact Heap.lt_size e
   have lt2:l2<s1.heap.objs.size:=by obtain⟨_,e,_⟩:=id pb; exact Heap.lt_size e
   refine ag1 (show s1.heap.IsTuple l1 its.toArray from pa) (show s1.heap.IsTuple l2 jts.toArray from pb) fun g z1 z2 z3 z4 z5 z6 z7=>wpAny_pyIter_zip z1 ?_
   have I2:Inv X pins σ H1 { s1 with heap:=g }:=I1.kept (t':=s1.toks) z7
   refine⟨_,_,_,Itz X.K l1 l2,H1,rfl,I2,ad8 (s1.heap.objs.size+4) (s1.heap.objs.size+2) (s1.heap.objs.size+3) s1.heap.objs.size (s1.heap.objs.size+1) l1 l2 (zipApart_new lt1 lt2),⟨z1,z2,⟨_,_,z3⟩,z4,z5⟩,fun c hc=>?_,q⟩
   have hb':s1.heap.objs.size≤c:=by
    simp only [List.mem_cons,List.not_mem_nil,or_false] at hc
    rcases hc with e | e | e | e | e <;> rw [e] <;> lia
   exact I1.fpOk hb' (I1.hok.fresh hb')
section
variable {X:Cx}{pins:List (Addr×Obj)}{σ:Sg}{H:Hp}{s:Shared}{scope:Scope}{cl:List (Str×Addr)}{x y:Str}{fr:List Str}{js:List Nat}{fp:List Addr}
theorem afj {h1:Heap}{m1:Str→Option Value}{tk:Nat} (I:Inv X pins σ H s) (L:zu X scope x fr js cl) (hc:X.calm=true) (hfp:∀ b∈fp,FpOk X pins H b) (hsz:∀ b∈fp,b<s.heap.objs.size)
  (hy:scope.names.lookup y=some .local) (hn:h1.Ns s.heap.objs.size m1) (hk:∀ b o,s.heap.get? b=some o→h1.get? b=some o) :
  Inv (blk X scope cl s.heap.objs.size (x::y::fr) s H fp pins) [] (none::none::frv σ js) H { s with heap:=h1,toks:=tk }:=by
 refine⟨adw I L hc hfp hsz,rfl,I.bare,Un.kept hk,⟨m1,hn,fun i yy v e1 e2 _=>?_⟩,fun y c e=>?_,I.hok.fresh (Nat.le_refl _),fun y c e=>I.freeC y c (L.sub y c e),fun p hp=>?_,I.hok.kept hk,?_⟩
 ·cases i with
  | zero=>exact absurd e2 (by simp)
  | succ i =>
  cases i with
  | zero=>exact absurd e2 (by simp)
  | succ i =>
   have e1':fr[i]?=some yy:=by simpa [blk] using e1
   obtain⟨j,hj,hN,hcell,hrel⟩:=L.frk.get e1'
   have e2':σ[j]?=some (some v):=by
    have q:(frv σ js)[i]?=some (some v):=by simpa using e2
    unfold frv at q
    rw [List.getElem?_map,hj] at q
    have q':(σ[j]?).getD none=some v:=by simpa using q
    cases hs:σ[j]? with
    | none=>rw [hs] at q'; cases q'
    | some o=>rw [hs] at q'; exact congrArg some q'
   obtain⟨m,_,hl⟩:=I.loc
   obtain⟨u,r,lk⟩:=hl j yy v hN e2' (.inr (.inl hcell))
   refine⟨u,r,.inr ⟨.inl hrel,?_⟩⟩
   rcases lk with⟨hloc,_⟩ | ⟨_,c,hc1,hc2⟩
   ·have:X.env.scope.names.lookup yy=some .local:=hloc
    rw [hcell] at this; cases this
   ·obtain⟨c',hc'⟩:=L.has yy (.inl hrel)
    have e3:=L.sub yy c' hc'
    rw [hc1] at e3; cases e3
    exact⟨c,hc',hc2.keeps hk⟩
 ·obtain⟨v,hv⟩:=I.cell y c (L.sub y c e)
  exact⟨v,hv.keeps hk⟩
 ·have hp':p∈X.pn++pins:=by simpa [blk] using hp
  obtain⟨a1,a2,a3,a4,a5⟩:=I.pin p hp'
  refine⟨hk _ _ a1,a2,Nat.ne_of_lt (Heap.lt_size a1),fun z=>?_,a5⟩
  rcases List.mem_cons.mp (I.stkSub _ z) with e | e
  ·exact a3 e
  ·exact a4 e
 ·show (none::none::frv σ js).length=(x::y::fr).length
  simp [frv,L.frk.len]
end
def adK (K:PySem.W.Frag) (J:It) (js:List Nat) (te:TE) (σ:Sg) (Q:VK) (H1:Hp):Prop:=∀ D,H1 D=none →
 ∃ W:Nat→Nat→List V→Hp→Prop,(∃ m,W 0 m [] (upd H1 D (.lst [])))∧∀ i m ys H',W i m ys H'→H' D=some (.lst ys) ∧
  ((J.stop i H'∧Q (.ref D) H')∨(J.go i H'∧∀ v H2,J.yld i H' v H2→∃ a x y,v=.ref a∧SqT K H2 a [x,y]∧te (some x::some y::frv σ js) H2 fun z H3=>H3 D=some (.lst ys)∧ys.length<sizeLine ∧
   ∃ m',m'<m∧W (i+1) m' (ys++[z]) (upd H3 D (.lst (ys++[z])))))
def ahf (K:PySem.W.Frag) (wi:TI) (js:List Nat) (te:TE):TE:=fun σ H Q=>wi σ H fun J H1=>adK K J js te σ Q H1
section
variable {X:Cx}{scope:Scope}{cl:List (Str×Addr)}{x y:Str}{fr:List Str}{js:List Nat}{elt iter:Expr}{px py pt pos:Pos}{kt:Nat}{wi:TI}{te:TE}
theorem ahS (hc:X.calm=true) (L:zu X scope x fr js cl) (hy:scope.names.lookup y=some .local) (nd2:(x::y::fr).Nodup) (hi:PI X (.Tuple [.Name x px,.Name y py] kt pt) iter wi)
  (he:∀ C s H fp pins,PE (blk X scope cl C (x::y::fr) s H fp pins) elt te)
  (hs:∀ v,foldedSetIterable iter X.env v=pure v:=by intro _; rfl) :
  PE X (.ListComp elt [⟨.Tuple [.Name x px,.Name y py] kt pt,iter,[],0⟩] scope pos) (ahf X.K wi js te):=by
 intro pins s σ H Q I h
 rw [eval_ListComp]
 refine wpAny_comprehension_free (use:=none) rfl hs L.clos L.kind L.loc (thn (hi pins s σ H _ I h) fun v s1 h1=>thn h1 fun itv s2 h2=>?_)
 obtain⟨it,fp,tn,J,H2,e,I2,T,st2,f2,rd⟩:=h2
 subst e
 obtain⟨W,⟨m0,w0⟩,turn⟩:=rd _ I2.fresh
 have I3:=I2.lnew (ys:=[]) (its:=[]) (t':=s2.toks) .nil (Nat.zero_le _)
 refine wpAny_newObj_type ?_
 have Gz:∀ b∈fp,b<s2.heap.objs.size:=fun b hb=>by
  obtain⟨o,ho,_⟩:=T.obj 0 _ st2 b hb
  exact Heap.lt_size ho
 generalize hs3:({ s2 with heap:=s2.heap.push { cls:=.type "list",dict:=none,data:=.seq ([]:List Value).toArray } }:Shared)=s3
 have I3':Inv X pins σ (upd H2 s2.heap.objs.size (.lst [])) s3:=by rw [← hs3]; exact I3
 have sz3:s3.heap.objs.size=s2.heap.objs.size+1:=by rw [← hs3]; exact Heap.size_push ..
 have k23:∀ b o,s2.heap.get? b=some o→s3.heap.get? b=some o:=fun b o e=>by rw [← hs3]; exact Heap.get?_push_of_some _ e
 have fsz:∀ b∈fp,b<s3.heap.objs.size:=fun b hb=>by rw [sz3]; exact Nat.lt_succ_of_lt (Gz b hb)
 have f3:∀ b∈fp,FpOk X pins (upd H2 s2.heap.objs.size (.lst [])) b:=fun b hb=>⟨by rw [upd_ne (Nat.ne_of_lt (Gz b hb))]; exact (f2 b hb).1,(f2 b hb).2⟩
 refine wpAny_newFunctionEnv L.cell (by intro y' hy'; simp at hy') (fun h4 hn4 Ww=>?_) L.kind
 have k34:∀ b o,s3.heap.get? b=some o→h4.get? b=some o:=fun b o e=>(Ww.2 b (Nat.ne_of_lt (Heap.lt_size e))).trans (Heap.get?_push_of_some _ e)
 generalize hX':blk X scope cl s3.heap.objs.size (x::y::fr) s3 (upd H2 s2.heap.objs.size (.lst [])) fp pins=X'
 have I4:Inv X' [] (none::none::frv σ js) (upd H2 s2.heap.objs.size (.lst [])) { s3 with heap:=h4,toks:=s3.toks+([]:List (Str×Value)).length }:=by
  rw [← hX']; exact afj I3' L hc f3 fsz hy hn4 k34
 have st4:tn 0 h4:=T.keep _ _ _ st2 fun b _ o e=>k34 b o (k23 b o e)
 have he':PE X' elt te:=by rw [← hX']; exact he _ _ _ _ _
 have xp:X'.prog=X.prog:=by rw [← hX']; rfl
 have xw:X'.w=X.w:=by rw [← hX']; rfl
 have xK:X'.K=X.K:=by rw [← hX']; rfl
 have xA:X'.A=X.A:=by rw [← hX']; rfl
 have xc:X'.calm=true:=by rw [← hX']; rfl
 have xe:X'.xe=fun _ _=>False:=by rw [← hX']; rfl
 have xn:X'.N=x::y::fr:=by rw [← hX']; rfl
 have xv:X'.env=compEnvC scope cl s3.heap.objs.size X.env:=by rw [← hX']; rfl
 have xpn:X'.pn=X.pn++pins:=by rw [← hX']; rfl
 have xex:X'.ex=fp:=by rw [← hX']; rfl
 have xfs:X'.fs=frs X.stack:=by rw [← hX']; rfl
 have back:∀ {H':Hp}{s':Shared}{h':Heap}{σ':Sg},Inv X' [] σ' H' s'→Heap.SameBut s3.heap.objs.size s'.heap h'→Inv X pins σ H' { s' with heap:=h' }:=fun {H' s' h' σ'} J' hsb=>by
  rw [← hX'] at J'; exact Mu I3' J' f3 hsb
 have frame:∀ b∈fp,b ∉ frs X.stack:=fun b hb z=>by
  rcases List.mem_cons.mp (I3'.stkSub b z) with e | e
  ·exact (f3 b hb).2.1 e
  ·exact (f3 b hb).2.2.1 e
 have stat:∀ {H':Hp},(∀ b∈fp,H' b=none)→∀ b∈fp,FpOk X' [] H' b:=fun {H'} hn b hb=>by
  refine⟨hn b hb,?_,?_,.inl (by rw [xex]; exact hb),?_,?_⟩
  ·rw [xv]; exact Nat.ne_of_lt (fsz b hb)
  ·rw [xfs]; exact frame b hb
  ·rw [xv]; exact fun y' c e=>(f3 b hb).2.2.2.2.1 y' c (L.sub y' c e)
  ·rw [xpn,List.append_nil]; exact (f3 b hb).2.2.2.2.2
 have loop:codeAny (model X.prog X.w) X.A (.compLoop (.ListComp elt [⟨.Tuple [.Name x px,.Name y py] kt pt,iter,[],0⟩] scope pos) 0 (.ref it) (.ref s2.heap.objs.size) (compEnvC scope cl s3.heap.objs.size X.env))
   (compPost (model X.prog X.w) X.A X.xe none (EP X pins σ Q) (.ref s2.heap.objs.size) s3.heap.objs.size) { s3 with heap:=h4,toks:=s3.toks+([]:List (Str×Value)).length }:=by
  refine QV (fun n s'=>∃ i ys o o' H',Inv X' [] (o::o'::frv σ js) H' s'∧tn i s'.heap∧(∀ b∈fp,H' b=none)∧W i n ys H') ?_ m0 ⟨0,[],none,none,_,I4,st4,fun b hb=>(f3 b hb).1,w0⟩
  rintro n s5 ⟨i,ys,o,o',H5,I5,st5,fr5,w5⟩
  obtain⟨hD,hstep⟩:=turn i n ys H5 w5
  rcases hstep with⟨stop,qn⟩ | ⟨go,step⟩
  ·have q:=T.done X' xp xw xK xc i [] s5 _ H5 (fun _ _=>False) I5 (stat fr5) st5 stop
   rw [xA] at q
   refine thn q fun r s6 ⟨hr,I6⟩=>?_
   subst hr
   obtain⟨m6,hn6,_⟩:=I6.loc
   rw [xv] at hn6
   exact⟨m6,hn6,fun h' hsb=>⟨.ref s2.heap.objs.size,H5,back I6 hsb,rfl,qn⟩⟩
  ·have q:=T.item X' xp xw xK xc i [] s5 _ H5 (fun _ _=>False) I5 (stat fr5) st5 go
   rw [xA] at q
   refine thn q fun r s6 ⟨u,hr,h6⟩=>?_
   subst hr
   refine thn h6 fun _ s7 ⟨xx,H7,I7,r7,y7,st7,fr7⟩=>?_
   have I7':=I7.pinned (stat fr7) (T.obj _ _ st7)
   obtain⟨ta,x0,y0,rfl,qt,step⟩:=step xx _ y7
   have g0:PG X' (.Name x px) (gName 0):=by
    refine pg_name (i:=0) (x:=x) (by rw [xn]; exact nd2) (by rw [xn]; rfl) ?_ ?_
    ·rw [xv]; exact .inl (lookup_relabel_local L.var)
    ·rw [xv]; exact .inr (lookup_relabel_local L.var)
   have g1:PG X' (.Name y py) (gName 1):=by
    refine pg_name (i:=1) (x:=y) (by rw [xn]; exact nd2) (by rw [xn]; rfl) ?_ ?_
    ·rw [xv]; exact .inl (lookup_relabel_local hy)
    ·rw [xv]; exact .inr (lookup_relabel_local hy)
   have hg:PG X' (.Tuple [.Name x px,.Name y py] kt pt) (ae5 X'.K 2 (Uq (gName 0) (Uq (gName 1) ae6))):=acN xc (Ks g0 (Ks g1 Z5))
   have q7:=hg _ s7 _ H7 _ u (fun σ8 H8=>σ8=some x0::some y0::frv σ js∧H8=H7) I7' r7 ⟨ta,[x0,y0],rfl,by rw [xK]; exact qt,rfl,_,_,rfl,_,_,rfl,rfl,rfl,rfl⟩
   rw [xp,xw,xA,xe,xv] at q7
   refine thn q7 fun _ s8 ⟨σ8,H8,I8,e8,e8'⟩=>?_
   subst e8 e8'
   have q8:=he' _ s8 _ _ _ I8 step
   rw [xp,xw,xA,xe,xv] at q8
   refine thn q8 fun yv s9 ⟨yr,H9,I9,r9,d9,z9,m9,hm9,w9⟩=>?_
   have q9:=cP (X:=X') _ s9 _ H9 (.ref s2.heap.objs.size) [yr] (.ref s2.heap.objs.size) [yv] (fun z H'=>H'=upd H9 s2.heap.objs.size (.lst (ys++[yr]))) I9 rfl (.cons r9 .nil) ⟨_,ys,yr,rfl,rfl,d9,z9,rfl⟩
   rw [xp,xw,xA,xe] at q9
   refine thn q9 fun _ s10 ⟨_,H10,I10,_,e10⟩=>?_
   subst e10
   refine⟨m9,hm9,i+1,ys++[yr],some x0,some y0,_,I10.unpinned,T.keep _ _ _ st7 fun b hb ob e=>(I10.pin (b,ob) (List.mem_append_right _ (List.mem_append_right _ (mem_pinsAt hb e)))).1,fun b hb=>?_,w9⟩
   obtain⟨ob,e,_⟩:=T.obj _ _ st7 b hb
   exact (I10.pin (b,ob) (List.mem_append_right _ (List.mem_append_right _ (mem_pinsAt hb e)))).2.1
 exact codeAny_compStart_list loop (T.self _ 0 _ _ _ st4 loop)
end
theorem acJ {X:Cx}{elts:List Expr}{x1:Nat}{tp p pos:Pos}{a b:Expr}{ta:TA} (hg:Gl X "zip") (hm:X.mg "zip"=none) (ha:QA X [a,b] ta)
  (hs:starEach [a,b] X.env=[(false,eval a X.env),(false,eval b X.env)]:=by rfl) (hs2:starEach [b] X.env=[(false,eval b X.env)]:=by rfl) :
  QI X (.Tuple elts x1 tp) (.Call (.Name "zip" p) [a,b] [] pos) (ain X.K ta):=⟨ahL hg hm ha.run hs hs2⟩
theorem ahB {X:Cx}{scope:Scope}{cl:List (Str×Addr)}{x y:Str}{fr:List Str}{js:List Nat}{elt iter:Expr}{px py pt pos:Pos}{kt:Nat}{wi:TI}{te:TE} (hc:X.calm=true) (L:zu X scope x fr js cl) (hy:scope.names.lookup y=some .local) (nd2:(x::y::fr).Nodup) (hi:QI X (.Tuple [.Name x px,.Name y py] kt pt) iter wi)
  (he:∀ C s H fp pins,QE (blk X scope cl C (x::y::fr) s H fp pins) elt te)
  (hs:∀ v,foldedSetIterable iter X.env v=pure v:=by intro _; rfl) :
  QE X (.ListComp elt [⟨.Tuple [.Name x px,.Name y py] kt pt,iter,[],0⟩] scope pos) (ahf X.K wi js te):=⟨ahS hc L hy nd2 hi.run (fun C s H fp pins=>(he C s H fp pins).run) hs⟩
theorem aii {K:PySem.W.Frag}{a b:Addr}{H1:Hp}{ns ms:List Nat}{σ:Sg}{js:List Nat}{te:TE}{Q:VK} (hn:ns.length≤1000) (he:ns.length=ms.length) (ha:SqT K H1 a (ns.map nv)) (hb:SqT K H1 b (ms.map nv))
  (hte:∀ (i j:Nat) (H':Hp) (R:VK),R (nv (i+j)) H'→te (some (nv i)::some (nv j)::frv σ js) H' R)
  (q:∀ D H',Same H1 H'→H' D=some (.lst ((ns.zipWith (· + ·) ms).map nv))→Q (.ref D) H'):adK K (Itz K a b) js te σ Q H1:=by
 intro D hD
 refine⟨fun i m ys H'=>i≤ns.length∧m=ns.length - i∧Same H1 H'∧H' D=some (.lst ys)∧ys=((ns.zipWith (· + ·) ms).take i).map nv,⟨_,Nat.zero_le _,rfl,same_new hD _,upd_same,rfl⟩,?_⟩
 rintro i m ys H' ⟨hi,rfl,S,hl,rfl⟩
 refine⟨hl,?_⟩
 have ha':=bW (.of S) ha
 have hb':=bW (.of S) hb
 have hz:(ns.zipWith (· + ·) ms).length=ns.length:=by rw [List.length_zipWith,he,Nat.min_self]
 by_cases h:i<ns.length
 ·have hm:i<ms.length:=by lia
  have ex:(ns.map nv)[i]?=some (nv ns[i]):=by rw [List.getElem?_map,List.getElem?_eq_getElem h]; rfl
  have ey:(ms.map nv)[i]?=some (nv ms[i]):=by rw [List.getElem?_map,List.getElem?_eq_getElem hm]; rfl
  refine .inr ⟨⟨_,_,_,_,ha',hb',ex,ey⟩,?_⟩
  rintro v H2 ⟨p,x,y,rfl,hp,rfl,hx,hy⟩
  have e1:=(hx _ ha').symm.trans ex
  have e2:=(hy _ hb').symm.trans ey
  cases e1
  cases e2
  refine⟨p,_,_,rfl,SqT.of upd_same,hte _ _ _ _ ?_⟩
  have hne:D≠p:=fun z=>by rw [z,hp] at hl; cases hl
  refine⟨by rw [upd_ne hne]; exact hl,by rw [List.length_map,List.length_take]; exact Nat.lt_of_le_of_lt (Nat.min_le_left _ _) (Nat.lt_of_lt_of_le (Nat.lt_of_lt_of_le h hn) (by decide)),ns.length - (i+1),by lia,by lia,rfl,eX (S.trans (same_new hp _)) hD,upd_same,?_⟩
  have et:(ns.zipWith (· + ·) ms).take (i+1)=(ns.zipWith (· + ·) ms).take i++[ns[i]+ms[i]]:=by
   rw [List.take_succ,List.getElem?_zipWith,List.getElem?_eq_getElem h,List.getElem?_eq_getElem hm]
   rfl
  rw [et,List.map_append]
  rfl
 ·have e:i=ns.length:=by lia
  subst e
  refine .inl ⟨⟨_,ha',by rw [List.length_map]; exact Nat.le_refl _⟩,q D H' S ?_⟩
  rw [hl,List.take_of_length_le (by lia)]
theorem Sd:∀ ns ms:List Int,((List.range (min ns.length ms.length)).all (fun j=>ns[j]? == ms[j]?) && ns.length == ms.length)=decide (ns=ms):=by
 intro ns ms
 rw [Bool.eq_iff_iff,Bool.and_eq_true,List.all_eq_true,decide_eq_true_iff,beq_iff_eq]
 refine⟨fun ⟨h1,h2⟩=>List.ext_getElem? fun j=>?_,fun h=>by subst h; exact⟨fun j _=>beq_self_eq_true _,rfl⟩⟩
 by_cases hj:j<ns.length
 ·exact eq_of_beq (h1 j (List.mem_range.mpr (by lia)))
 ·rw [List.getElem?_eq_none (by lia),List.getElem?_eq_none (by lia)]
section
variable {X:Cx}{pins:List (Addr×Obj)}{σ:Sg}{H:Hp}{s:Shared}
theorem R_ {A:Around}{ns ms:List Int}{its jts:List Value} (ra:Vals (ns.map V.int) its) (rb:Vals (ms.map V.int) jts) (j:Nat) (j1:j<its.toArray.size) (j2:j<jts.toArray.size) :
  SeqAt.EqAt A s its.toArray[j] jts.toArray[j] (ns[j]? == ms[j]?):=by
 have l1:=ra.length
 have l2:=rb.length
 rw [List.length_map] at l1 l2
 have h1:j<ns.length:=by simp at j1; lia
 have h2:j<ms.length:=by simp at j2; lia
 obtain⟨u1,hu1,⟨t1,e1⟩⟩:=ra.get (i:=j) (x:=.int ns[j]) (by rw [List.getElem?_map,List.getElem?_eq_getElem h1]; rfl)
 obtain⟨u2,hu2,⟨t2,e2⟩⟩:=rb.get (i:=j) (x:=.int ms[j]) (by rw [List.getElem?_map,List.getElem?_eq_getElem h2]; rfl)
 have g1:its.toArray[j]=.int ns[j] t1:=by
  obtain⟨_,e⟩:=List.getElem?_eq_some_iff.mp hu1
  rw [← e1,← e]
  simp
 have g2:jts.toArray[j]=.int ms[j] t2:=by
  obtain⟨_,e⟩:=List.getElem?_eq_some_iff.mp hu2
  rw [← e2,← e]
  simp
 rw [g1,g2,List.getElem?_eq_getElem h1,List.getElem?_eq_getElem h2]
 exact SeqAt.EqAt.int_int _ _ _ _
end
section
variable {X:Cx}
def aj3 (K:PySem.W.Frag):R2:=fun x y H Q=>∃ a b ns ms,x=.ref a∧y=.ref b∧SqT K H a (List.map V.int ns)∧SqT K H b (List.map V.int ms)∧Q (.bl (decide (ns=ms))) H
def aj0 (K:PySem.W.Frag):R2:=fun x y H Q=>∃ a b ns ms,x=.ref a∧y=.ref b∧SqT K H a (List.map V.int ns)∧SqT K H b (List.map V.int ms)∧Q (.bl (!decide (ns=ms))) H
theorem agp {n:Nat} (hu:X.A.units+n<cLine):OpR X (compareOp .Eq) (aj3 X.K):=by
 intro pins s σ H x y v u Q I rx ry h
 obtain⟨a,b,ns,ms,rfl,rfl,h1,h2,q⟩:=h
 cases rx
 cases ry
 obtain⟨its,rv,ht,_⟩:=I.tuple h1
 obtain⟨jts,rw',ht2,_⟩:=I.tuple h2
 have key:=SeqAt.RcAt.tuples (A:=X.A) (e:=fun j=>ns[j]? == ms[j]?) ht ht2 (by lia) (fun j j1 j2=>R_ rv rw' j j1 j2)
 have ev:((List.range (min its.toArray.size jts.toArray.size)).all (fun j=>ns[j]? == ms[j]?) && its.toArray.size == jts.toArray.size)=decide (ns=ms):=by
  rw [← Sd,List.size_toArray,List.size_toArray,← rv.length,← rw'.length,List.length_map,List.length_map]
 rw [ev] at key
 exact key _ _ _ _ ⟨.bl _,H,I,rfl,q⟩
theorem Z6 {n:Nat} (hu:X.A.units+n<cLine):OpR X (compareOp .NotEq) (aj0 X.K):=by
 intro pins s σ H x y v u Q I rx ry h
 obtain⟨a,b,ns,ms,rfl,rfl,h1,h2,q⟩:=h
 cases rx
 cases ry
 obtain⟨its,rv,ht,_⟩:=I.tuple h1
 obtain⟨jts,rw',ht2,_⟩:=I.tuple h2
 have key:=SeqAt.RcNeAt.tuples (A:=X.A) (e:=fun j=>ns[j]? == ms[j]?) ht ht2 (by lia) (fun j j1 j2=>R_ rv rw' j j1 j2)
 have ev:((List.range (min its.toArray.size jts.toArray.size)).all (fun j=>ns[j]? == ms[j]?) && its.toArray.size == jts.toArray.size)=decide (ns=ms):=by
  rw [← Sd,List.size_toArray,List.size_toArray,← rv.length,← rw'.length,List.length_map,List.length_map]
 rw [ev] at key
 exact key _ _ _ _ ⟨.bl _,H,I,rfl,q⟩
end
def Pz (K:PySem.W.Frag):Sp:=fun vs H Q _=>∃ a b ns ms,vs=[.ref a,.ref b]∧SqT K H a (List.map nv ns)∧SqT K H b (List.map nv ms)∧ns.length=15∧ms.length=15∧∀ p H',Same H H'→SqT K H' p ((ns.zipWith (· + ·) ms).map nv)→Q (.ref p) H'
theorem BL (ns:List Nat):ns.map nv=(ns.map fun n:Nat=>(n:Int)).map V.int:=by rw [List.map_map]; rfl
namespace Dt
end Dt
section
variable {K:PySem.W.Frag}{H H':Hp}
end
section
variable {X:Cx}{pins:List (Addr×Obj)}{σ:Sg}{H:Hp}{s:Shared}
end
section
variable {X:Cx}{pins:List (Addr×Obj)}{σ:Sg}{H:Hp}{s:Shared}
end
section
variable {X:Cx}
end
def iw:List Nat:=List.replicate 15 0
def fC (a b:List Nat):List Nat:=a.zipWith (· + ·) b
theorem MJ {a b:List Nat} (h:a.length=15) (g:b.length=15):(fC a b).length=15:=by unfold fC; rw [List.length_zipWith,h,g]; rfl
theorem adJ {b:List Nat} (g:b.length=15):fC iw b=b:=by
 unfold fC iw
 refine List.ext_getElem? fun i=>?_
 rw [List.getElem?_zipWith,List.getElem?_replicate]
 by_cases h:i<15
 ·rw [if_pos h,List.getElem?_eq_getElem (by lia)]
  show some (0+_)=some _
  rw [Nat.zero_add]
 ·rw [if_neg h,List.getElem?_eq_none (by lia)]
theorem abN {b:List Nat} (g:b.length=15):fC b iw=b:=by
 unfold fC iw
 refine List.ext_getElem? fun i=>?_
 rw [List.getElem?_zipWith,List.getElem?_replicate]
 by_cases h:i<15
 ·rw [if_pos h,List.getElem?_eq_getElem (by lia)]
  show some (_+0)=some _
  rw [Nat.add_zero]
 ·rw [if_neg h,List.getElem?_eq_none (by lia)]
theorem abO (a b c:List Nat):fC (fC a b) c=fC a (fC b c):=by
 unfold fC
 refine List.ext_getElem? fun i=>?_
 simp only [List.getElem?_zipWith]
 cases a[i]? <;> cases b[i]? <;> cases c[i]? <;> simp [Nat.add_assoc]
def goT (b:Nat) (tx s:List T):List T×List T×List Nat :=
 if h:tx=[]∨b<bL tx s then (tx,s,iw)
 else ((goT (b - bL tx s) (onward tx s).1 (onward tx s).2.1).1,(goT (b - bL tx s) (onward tx s).1 (onward tx s).2.1).2.1,fC (o_ tx s) (goT (b - bL tx s) (onward tx s).1 (onward tx s).2.1).2.2)
termination_by b
decreasing_by
 all_goals
  have:=DQ tx s
  have:¬ b<bL tx s:=fun z=>h (.inr z)
  lia
def spT (b:Nat) (tx s:List T):Nat :=
 if h:tx=[]∨b<bL tx s then 0
 else bL tx s+spT (b - bL tx s) (onward tx s).1 (onward tx s).2.1
termination_by b
decreasing_by
 have:=DQ tx s
 have:¬ b<bL tx s:=fun z=>h (.inr z)
 lia
section
variable {b:Nat}{tx s:List T}
theorem ux (h:tx=[]∨b<bL tx s):goT b tx s=(tx,s,iw):=by rw [goT,dif_pos h]
theorem Zr (h:tx=[]∨b<bL tx s):spT b tx s=0:=by rw [spT,dif_pos h]
theorem xg (h1:tx≠[]) (h2:bL tx s≤b):goT b tx s=((goT (b - bL tx s) (onward tx s).1 (onward tx s).2.1).1,(goT (b - bL tx s) (onward tx s).1 (onward tx s).2.1).2.1,fC (o_ tx s) (goT (b - bL tx s) (onward tx s).1 (onward tx s).2.1).2.2):=by
 rw [goT,dif_neg (fun z=>z.elim h1 (by lia))]
theorem Zt (h1:tx≠[]) (h2:bL tx s≤b):spT b tx s=bL tx s+spT (b - bL tx s) (onward tx s).1 (onward tx s).2.1:=by
 rw [spT,dif_neg (fun z=>z.elim h1 (by lia))]
end
theorem Qa {P:Nat→List T→List T→Prop} (h0:∀ b tx s,(tx=[]∨b<bL tx s)→P b tx s) (h1:∀ b tx s,tx≠[]→bL tx s≤b→P (b - bL tx s) (onward tx s).1 (onward tx s).2.1→P b tx s):∀ b tx s,P b tx s:=by
 intro b
 induction b using Nat.strongRecOn with
 | ind b ih =>
  intro tx s
  by_cases h:tx=[]∨b<bL tx s
  ·exact h0 b tx s h
  ·have hc:=DQ tx s
   have h2:bL tx s≤b:=by
    have:¬ b<bL tx s:=fun z=>h (.inr z)
    lia
   exact h1 b tx s (fun z=>h (.inl z)) h2 (ih _ (by lia) _ _)
theorem Gy:∀ b tx s,(goT b tx s).2.2.length=15:=by
 refine Qa (fun b tx s h=>?_) (fun b tx s h1 h2 ih=>?_)
 ·rw [ux h]; rfl
 ·rw [xg h1 h2]; exact MJ (N_ _ _) ih
inductive Sane:Nat→List T→List T→Prop
 | mk {b:Nat}{tx s:List T} (h1:BX tx) (h2:B 390 8000000 (.node s)) (h3:tx≠[]→bL tx s≤b→Sane (b - bL tx s) (onward tx s).1 (onward tx s).2.1):Sane b tx s
theorem Sane.bx {b:Nat}{tx s:List T} (h:Sane b tx s):BX tx:=by cases h; assumption
theorem Sane.bs {b:Nat}{tx s:List T} (h:Sane b tx s):B 390 8000000 (.node s):=by cases h; assumption
theorem Sane.next {b:Nat}{tx s:List T} (h:Sane b tx s) (h1:tx≠[]) (h2:bL tx s≤b):Sane (b - bL tx s) (onward tx s).1 (onward tx s).2.1:=by
 cases h with
 | mk _ _ h3=>exact h3 h1 h2
theorem Sane.last:∀ b tx s,Sane b tx s→BX (goT b tx s).1∧B 390 8000000 (.node (goT b tx s).2.1):=by
 refine Qa (fun b tx s h g=>?_) (fun b tx s h1 h2 ih g=>?_)
 ·rw [ux h]; exact⟨g.bx,g.bs⟩
 ·rw [xg h1 h2]; exact ih (g.next h1 h2)
theorem agZ (t:T):t.deep=T.bM t.kids:=by cases t; rw [T.aK]; rfl
def Ij (tx s:List T):T:=.node [.node tx,.node s]
def ZK (K:PySem.W.Frag):Sp:=fun vs H Q _=>∃ x t y u,vs=[x,y]∧TR K H t x∧TR K H u y∧∀ z H',Same H H'→TR K H' (Ij [t] [u]) z→Q z H'
def acw (K:PySem.W.Frag):Sp:=fun vs H Q _=>∃ (x:V) (tx s:List T) (b:Nat),vs=[x,.int (b:Int)]∧TR K H (Ij tx s) x∧Sane b tx s ∧
 ∀ p y c H',Same H H'→SqT K H' p [y,.ref c]→TR K H' (Ij (goT b tx s).1 (goT b tx s).2.1) y→SqT K H' c ((goT b tx s).2.2.map nv)→Q (.ref p) H'
def RZ (K:PySem.W.Frag):Sp:=fun vs H Q _=>∃ (x y:V) (t u:T) (b:Nat),vs=[x,y,.int (b:Int)]∧TR K H t x∧TR K H u y∧Sane b [t] [u] ∧
 ∀ c H',Same H H'→SqT K H' c ((goT b [t] [u]).2.2.map nv)→Q (.ref c) H'
def Vs (p:List T) (d:T):List T:=dU 0 d.kids::dU 4 []::p
def afH (K:PySem.W.Frag):Sp:=fun vs H Q _=>∃ x p y d,vs=[x,y]∧TR K H (.node p) x∧TR K H d y∧B 390 900000 (.node p)∧B 390 900000 d∧∀ z H',Same H H'→TR K H' (.node (Vs p d)) z→Q z H'
def O_:List Nat:=[1,0,0,0,1,0,0,0,0,0,0,0,0,0,0]
section
variable (p:List T) (d x:T) (Y:List T)
end
end Sw
namespace PySem
open Builtin Builtin.Str
section
variable {prog:Program}{w:World}{A:Around}{E:Value→Shared→Prop}{s:Shared}{x:Str}{t:Tok}{Q:Value→Shared→Prop}
end
end PySem
namespace Sw
open PySem PySem.Spec PyProof.Rows L2
section
variable {X:Cx}
end
open SeqAt in
theorem Yl (l:Addr) (items:Array Value) (n:Nat) (dd:Option Addr) (sl:Array (Option Value)) (x:Value) (e:Value→Bool) (j:Nat) (hj:j<items.size) (hit:e items[j]=true) (hno:∀ m (hm:m<items.size),m<j→e items[m]=false) :
  Meets (Builtin.«tuple.index» ⟨[.ref l,x],[]⟩) (fun A R u=>u.heap.get? l=some { cls:=.type "tuple",dict:=dd,data:=.seq items n,slots:=sl }∧(∀ y,y∈items→EqAt A.in1 u y x (e y))∧R (.ok (.ret (.int j u.toks))) { u with toks:=u.toks+1 }) :=
 .of_wp fun prog w A R u h=>by
  obtain⟨hp,g,d,tk,os⟩:=u; obtain⟨hl,he,h⟩:=h
  unfold Builtin.«tuple.index»
  simp only [Std.Legacy.Range.forIn_eq_forIn_range']
  wp_walk using wpAny_loadPart' hl,wpAny_forIn_list _ (fun rest b s'=>b.1=none∧s'=⟨hp,g,d,tk,os⟩∧∃ i,i≤j∧rest=(List.range' 0 items.size).drop i) _
  case turn =>
   rintro i rest b s' ⟨hb,rfl,m,hm,hr⟩
   have hlt:m<items.size:=by
    have:=congrArg List.length hr
    simp at this
    lia
   have hr2:(List.range' 0 items.size).drop m=m::(List.range' 0 items.size).drop (m+1):=by
    rw [List.drop_eq_getElem_cons (by simpa using hlt)]
    simp
   rw [hr2] at hr
   obtain⟨rfl,rfl⟩:=List.cons.inj hr
   have e1:items[i]?=some items[i]:=Array.getElem?_eq_getElem hlt
   rw [e1]
   refine wpAny_bind (he _ (Array.getElem_mem hlt) prog w _ _ ?_)
   by_cases hmj:i=j
   ·subst hmj
    rw [hit]
    wp_walk
    exact⟨_,rfl,h⟩
   ·rw [hno i hlt (by lia)]
    wp_walk
    exact⟨rfl,rfl,i+1,by lia,rfl⟩
  case fin =>
   rintro ⟨b1,b2⟩ s' ⟨hb,rfl,m,hm,hr⟩
   have:=congrArg List.length hr
   simp at this
   lia
  case h =>
   refine⟨rfl,rfl,0,Nat.zero_le _,?_⟩
   simp
end Sw
namespace Sw
abbrev Std:=List T×List T
def nx (st:Std):Std:=((onward st.1 st.2).1,(onward st.1 st.2).2.1)
def zT (st:Std):Nat:=match (ats st.1 0).kids with
 | []=>1
 | w::_=>if aH w=2 then (ats st.2 0).parts else 1
abbrev W (n:Nat):T:=dU n []
abbrev mW (yes no:List T):T:=dU 7 (.node yes::no)
def Gj (st:Std):Prop:=aH (ats (ats st.1 0).kids 0)≠8
inductive Wlk:Std→Nat→Nat→Std→Prop where
 | nil {st:Std}:Wlk st 0 0 st
 | cons {st e:Std}{n c:Nat}:st.1≠[]→Gj st→Wlk (nx st) n c e→Wlk st (n+1) (c+zT st) e
theorem Wlk.to {st e:Std}{n c n' c':Nat} (h:Wlk st n c e) (e1:n=n') (e2:c=c'):Wlk st n' c' e:=by subst e1; subst e2; exact h
theorem Wlk.trans {a b d:Std}{n c m k:Nat} (h:Wlk a n c b) (g:Wlk b m k d):Wlk a (n+m) (c+k) d:=by
 induction h with
 | nil=>exact g.to (by lia) (by lia)
 | cons h1 h2 _ ih=>exact (Wlk.cons h1 h2 (ih g)).to (by lia) (by lia)
theorem Wlk.one {st e u:Std}{n c k:Nat} (h1:st.1≠[]) (h2:Gj st) (h3:nx st=u) (h4:zT st=k) (g:Wlk u n c e):Wlk st (n+1) (c+k) e:=by
 subst h3; subst h4; exact .cons h1 h2 g
section
variable {t cs s:List T}{e:Std}{n c:Nat}
theorem pP {w:T}{k:Nat} (h:aH w=k) (hk:k≠8):Gj (.node (w::t)::cs,s):=by
 show aH w≠8
 rw [h]; exact hk
theorem gb {w:T} (h:aH w≤6):nx (.node (w::t)::cs,s)=(.node t::cs,behind w s):=by
 unfold nx onward
 show (_,_)=_
 simp only [ats,T.kids,List.getElem?_cons_zero,Option.getD_some,List.drop_succ_cons,List.drop_zero]
 rw [if_neg (by lia),if_neg (by lia),if_neg (by lia)]
theorem kW {w:T} (h:aH w≠2):zT (.node (w::t)::cs,s)=1:=by
 show (if aH w=2 then _ else 1)=1
 rw [if_neg h]
theorem Ia {us:List T} (g:Wlk (.node t::cs,.node us::s) n c e):Wlk (.node (dU 0 us::t)::cs,s) (n+1) (c+1) e :=
 .one (by simp) (pP (k:=0) rfl (by decide)) (by rw [gb (by show 0≤6; decide),DX rfl]; rfl) (kW (by show 0≠2; decide)) g
theorem lG {a:T} (g:Wlk (.node t::cs,s) n c e):Wlk (.node (W 1::t)::cs,a::s) (n+1) (c+1) e :=
 .one (by simp) (pP (k:=1) rfl (by decide)) (by rw [gb (by decide),Xp rfl,cU (by simp)]; rfl) (kW (by decide)) g
theorem ab5 {a:T} (g:Wlk (.node t::cs,a::a::s) n c e):Wlk (.node (W 2::t)::cs,a::s) (n+1) (c+a.parts) e :=
 .one (by simp) (pP (k:=2) rfl (by decide)) (by rw [gb (by decide),Xo rfl,cU (by simp)]; rfl) rfl g
theorem dN {a b:T} (g:Wlk (.node t::cs,b::a::s) n c e):Wlk (.node (W 3::t)::cs,a::b::s) (n+1) (c+1) e :=
 .one (by simp) (pP (k:=3) rfl (by decide)) (by rw [gb (by decide),Xn rfl,cU (by simp)]; rfl) (kW (by decide)) g
theorem bQ {a:T}{b:List T} (g:Wlk (.node t::cs,.node (a::b)::s) n c e):Wlk (.node (W 4::t)::cs,a::.node b::s) (n+1) (c+1) e :=
 .one (by simp) (pP (k:=4) rfl (by decide)) (by rw [gb (by decide),Xm rfl,cU (by simp)]; rfl) (kW (by decide)) g
theorem jZ {a:List T} (g:Wlk (.node t::cs,ats a 0::.node (a.drop 1)::s) n c e):Wlk (.node (W 5::t)::cs,.node a::s) (n+1) (c+1) e :=
 .one (by simp) (pP (k:=5) rfl (by decide)) (by rw [gb (by decide),Rq rfl,cU (by simp)]; rfl) (kW (by decide)) g
theorem gR {a:T}{b:List T} (g:Wlk (.node t::cs,a::.node b::s) n c e):Wlk (.node (W 5::t)::cs,.node (a::b)::s) (n+1) (c+1) e:=jZ g
theorem dM {a b d:T} (g:Wlk (.node t::cs,d::a::b::s) n c e):Wlk (.node (W 6::t)::cs,a::b::d::s) (n+1) (c+1) e :=
 .one (by simp) (pP (k:=6) rfl (by decide)) (by rw [gb (by decide),Xl rfl,cU (by simp)]; rfl) (kW (by decide)) g
theorem cT (g:Wlk (cs,s) n c e):Wlk (.node []::cs,s) (n+1) (c+1) e :=
 .one (by simp) (by show 0≠8; decide) rfl rfl g
theorem zH {yes no:List T}{a:T} (ha:a.kids≠[]) (g:Wlk (.node yes::.node t::cs,a::s) n c e):Wlk (.node (mW yes no::t)::cs,a::s) (n+1) (c+1) e :=
 .one (by simp) (pP (k:=7) rfl (by decide)) (by
  unfold nx onward
  simp only [ats,T.kids,List.getElem?_cons_zero,Option.getD_some,List.drop_succ_cons,List.drop_zero]
  rw [if_pos (by rfl),if_pos (by exact ha),jM (by show 6<7; decide),cU (by show 1≤_; simp)]; rfl) (kW (by show 7≠2; decide)) g
theorem zZ {yes no:List T}{a:T} (ha:a.kids=[]) (g:Wlk (.node no::.node t::cs,a::s) n c e):Wlk (.node (mW yes no::t)::cs,a::s) (n+1) (c+1) e :=
 .one (by simp) (pP (k:=7) rfl (by decide)) (by
  unfold nx onward
  simp only [ats,T.kids,List.getElem?_cons_zero,Option.getD_some,List.drop_succ_cons,List.drop_zero]
  rw [if_pos (by rfl),if_neg (by exact fun z=>z ha),jM (by show 6<7; decide),cU (by show 1≤_; simp)]; rfl) (kW (by show 7≠2; decide)) g
end
def aaz (t:List T):List T:=W 6::W 6::W 4::W 6::W 6::W 4::W 3::t
def Pn (t:List T):List T:=W 1::W 4::W 3::W 5::t
def Pj:Nat→List T
 | 1=>[W 1]
 | 2=>[W 2,W 6,W 3,W 4,W 3,W 4]
 | 3=>[W 3,W 5,W 3,W 6,W 4,W 3,W 4]
 | 4=>[W 3,W 5,W 6,W 4,W 4]
 | 5=>[W 5,W 6,W 6,W 4,W 3,W 4]
 | 6=>[W 3,W 5,W 3,W 5,W 3,W 6,W 4,W 6,W 4,W 3,W 4]
 | _=>[]
def Pk (t:List T):List T:=W 6::W 6::W 4::W 6::W 5::t
def akt:List T:=[W 4,W 3,W 6,W 5,W 3,W 1,W 4]
def tNo:List T:=[W 4,W 3,W 6,W 5,W 1,W 4]
def aaA:List T:=[W 4,W 3,W 6,W 5,W 3,W 2,W 6,W 4,W 6,W 5,W 6,W 4,W 4,W 3,W 4]
def aay:List T:=[W 4,W 6,W 1,W 3]
def Fp:Nat→List T→List T
 | 0,t=>t
 | n+1,t=>W 1::Fp n t
def nQ (k:Nat):List T:=Fp (k+1) (if k=0 then aaz [] else if k=7 then Pk [mW akt tNo] else Pn (Pj k++[W 3]))
def Ie:Nat→List T→List T
 | 0,t=>t
 | n+1,t=>W 3::W 4::Ie n t
def vf:List T:=Ie 8 (W 4::Pk [mW aaA aay])
def Fo:List T:=Fp 10 [W 4]
def cu:Nat→List T
 | 0=>[mW Fo vf]
 | d+1=>[mW (W 5::W 3::cu d) (nQ (7 - d))]
def eO:List T:=[W 5,mW (W 5::W 5::cu 8) [W 1]]
def bB:List T:=[dU 8 eO,W 1,W 5,W 3,W 1]
def dW:List T:=W 5::dU 0 []::W 6::W 4::dU 0 []::W 6::W 4::bB
section
variable {t cs s us:List T}{e:Std}{n c:Nat}
theorem Ib {as:List T} (g:Wlk (.node t::cs,s) n c e):∀ {k:Nat},as.length=k→Wlk (.node (Fp k t)::cs,as++s) (n+k) (c+k) e:=by
 intro k hk
 induction as generalizing k with
 | nil=>cases hk; exact g
 | cons a as ih=>cases hk; exact lG (ih rfl)
theorem ahc {l:T}{w:T}{ts st:List T} (g:Wlk (.node t::cs,.node (w::ts)::.node (l::st)::us) n c e):Wlk (.node (aaz t)::cs,l::w::.node ts::.node st::us) (n+7) (c+7) e :=
 dM (dM (bQ (dM (dM (bQ (dN g))))))
theorem ad6 {l w:T}{ts st:List T} (g:Wlk (.node t::cs,ats st 0::.node (st.drop 1)::.node (w::ts)::us) n c e):Wlk (.node (Pn t)::cs,l::w::.node ts::.node st::us) (n+4) (c+4) e :=
 lG (bQ (dN (jZ g)))
theorem w_top {l w:T}{ts st:List T} (g:Wlk (.node t::cs,ats st 0::.node (st.drop 1)::.node (w::ts)::l::us) n c e):Wlk (.node (Pk t)::cs,l::w::.node ts::.node st::us) (n+5) (c+5) e :=
 dM (dM (bQ (dM (jZ g))))
def jg:Nat→List T→List T
 | 1,s=>s.drop 1
 | 2,s=>ats s 0::ats s 0::s.drop 1
 | 3,s=>ats (s.drop 1) 0::ats s 0::s.drop 2
 | 4,s=>.node (ats s 0::(ats (s.drop 1) 0).kids)::s.drop 2
 | 5,s=>ats (ats s 0).kids 0::.node ((ats s 0).kids.drop 1)::s.drop 1
 | 6,s=>ats (s.drop 2) 0::ats s 0::ats (s.drop 1) 0::s.drop 3
 | _,s=>s
theorem ad5 {x:T}{st:List T}:∀ {k:Nat},1≤k→k≤6→Wlk (.node t::cs,.node (jg k st)::x::us) n c e →
  ∃ m d,m≤11∧d≤11+(if k=2 then (ats st 0).parts else 0)∧Wlk (.node (Pj k++t)::cs,ats st 0::.node (st.drop 1)::x::us) (n+m) (c+d) e:=by
 intro k h1 h6 g
 rcases (by lia:k=1∨k=2∨k=3∨k=4∨k=5∨k=6) with rfl | rfl | rfl | rfl | rfl | rfl
 ·exact⟨1,1,by decide,by rw [if_neg (by decide)]; decide,lG g⟩
 ·exact⟨6,5+(ats st 0).parts,by decide,by rw [if_pos rfl]; lia,(ab5 (dM (dN (bQ (dN (bQ g)))))).to rfl (by lia)⟩
 ·exact⟨7,7,by decide,by rw [if_neg (by decide)]; decide,dN (jZ (dN (dM (bQ (dN (bQ (by rw [List.drop_drop]; exact g)))))))⟩
 ·refine⟨5,5,by decide,by rw [if_neg (by decide)]; decide,dN (jZ (dM ?_))⟩
  rw [show ats (st.drop 1) 0=.node (ats (st.drop 1) 0).kids from (fO _).symm]
  exact bQ (bQ (by rw [List.drop_drop]; exact g))
 ·refine⟨6,6,by decide,by rw [if_neg (by decide)]; decide,?_⟩
  rw [show ats st 0=.node (ats st 0).kids from (fO _).symm]
  exact jZ (dM (dM (bQ (dN (bQ g)))))
 ·exact⟨11,11,by decide,by rw [if_neg (by decide)]; decide,dN (jZ (dN (jZ (dN (dM (bQ (dM (bQ (dN (bQ (by rw [List.drop_drop,List.drop_drop]; exact g)))))))))))⟩
theorem wR (k:Nat) (g:Wlk (cs,s) n c e):Wlk (List.replicate k (.node [])++cs,s) (n+k) (c+k) e:=by
 induction k with
 | zero=>exact g
 | succ k ih=>exact cT ih
theorem ZV {α:Type} (x:α) (k:Nat) (l:List α):List.replicate k x++x::l=List.replicate (k+1) x++l:=by
 induction k with
 | zero=>rfl
 | succ k ih=>rw [List.replicate_succ,List.cons_append,ih]; rfl
theorem Bu {fs:List T}{d:Nat}:∀ {as cs s:List T},Wlk (.node (cu d)::(List.replicate as.length (.node [])++cs),.node fs::(as.reverse++s)) n c e →
  Wlk (.node (cu (as.length+d))::cs,.node (as++fs)::s) (n+3 * as.length) (c+3 * as.length) e:=by
 intro as
 induction as with
 | nil=>intro cs s g; rw [List.length_nil,Nat.zero_add]; exact g
 | cons a as ih =>
  intro cs s g
  have g':Wlk (.node (cu d)::(List.replicate as.length (.node [])++.node []::cs),.node fs::(as.reverse++a::s)) n c e:=by
   rw [ZV]
   rw [List.reverse_cons,List.append_assoc] at g
   exact g
  rw [List.length_cons,show as.length+1+d=as.length+d+1 by lia]
  exact (zH (yes:=W 5::W 3::cu (as.length+d)) (a:=.node (a::(as++fs))) (by simp [T.kids]) (gR (dN (ih g')))).to (by lia) (by lia)
theorem ab7:∀ {as fs s:List T},Wlk (.node t::cs,.node (as.reverse++fs)::s) n c e→Wlk (.node (Ie as.length t)::cs,.node fs::(as++s)) (n+2 * as.length) (c+2 * as.length) e:=by
 intro as
 induction as with
 | nil=>intro fs s g; exact g
 | cons a as ih =>
  intro fs s g
  rw [List.reverse_cons,List.append_assoc] at g
  exact (dN (bQ (ih g))).to (by rw [List.length_cons]; lia) (by rw [List.length_cons]; lia)
def resT (as l xs ts st:List T):List T×List T :=
 if as.length=0 then (.node xs::ts,.node l::st)
 else if as.length≤6 then (.node xs::ts,jg as.length st)
 else if as.length=7 then if (ats st 0).kids≠[] then (ats l 0::.node xs::ts,ats st 0::st.drop 1) else (.node (l.drop 1)::.node xs::ts,ats st 0::st.drop 1)
 else if as.length=8 then if (ats st 0).kids≠[] then (.node l::.node (.node (.node as::l)::xs)::ts,ats st 0::st.drop 1) else (.node xs::ts,ats st 0::st.drop 1)
 else (.node xs::ts,st)
theorem Ng {as l xs ts st:List T} (g:Wlk (cs,.node (resT as l xs ts st).1::.node (resT as l xs ts st).2::us) n c e) :
  ∃ m d,m≤100∧(1≤as.length→as.length≤8→5 * as.length+9≤m)∧d≤100+(if as.length=2 then (ats st 0).parts else 0)+(if as.length=8∧(ats st 0).kids≠[] then (T.node l).parts else 0) ∧
   Wlk (.node (cu 8)::cs,.node as::.node l::.node xs::.node ts::.node st::us) (n+m) (c+d) e:=by
 by_cases h0:as.length=0
 ·have:as=[]:=List.length_eq_zero_iff.mp h0
  subst this
  refine⟨11,11,by decide,fun z=>absurd z (by decide),by rw [if_neg (by decide),if_neg (by simp)]; decide,?_⟩
  have g:Wlk (cs,.node (.node xs::ts)::.node (.node l::st)::us) n c e:=g
  exact zZ rfl (lG (ahc (cT (cT g))))
 rw [resT,if_neg h0] at g
 by_cases h6:as.length≤6
 ·rw [if_pos h6] at g
  have g1:=cT (cT (wR as.length g))
  obtain⟨m,d,hm,hd,g2⟩:=ad5 (k:=as.length) (by lia) h6 (dN g1)
  have g3:=Ib (as:=.node []::as.reverse) (ad6 (l:=.node l) g2) (k:=as.length+1) (by rw [List.length_cons,List.length_reverse])
  refine⟨3 * as.length+1+(as.length+1)+4+m+1+1+1+as.length,3 * as.length+1+(as.length+1)+4+d+1+1+1+as.length,by lia,fun _ _=>by lia,by lia,?_⟩
  have e8:cu 8=cu (as.length+(8 - as.length)):=by rw [show as.length+(8 - as.length)=8 by lia]
  rw [e8,show T.node as=T.node (as++[]) by rw [List.append_nil]]
  refine (Bu (n:=(n+as.length+1+1+1+m+4+(as.length+1))+1) (c:=(c+as.length+1+1+1+d+4+(as.length+1))+1) ?_).to (by lia) (by lia)
  have e9:cu (8 - as.length)=[mW (W 5::W 3::cu (7 - as.length)) (nQ as.length)]:=by
   rw [show 8 - as.length=(7 - as.length)+1 by lia,cu,show 7 - (7 - as.length)=as.length by lia]
  rw [e9]
  refine zZ rfl ?_
  rw [nQ,if_neg h0,if_neg (by lia)]
  exact g3
 rw [if_neg h6] at g
 by_cases h7:as.length=7
 ·rw [if_pos h7] at g
  have e8:cu 8=cu (as.length+1):=by rw [h7]
  have e9:cu 1=[mW (W 5::W 3::cu 0) (nQ 7)]:=rfl
  by_cases ht:(ats st 0).kids≠[]
  ·rw [if_pos ht] at g
   have g1:=cT (cT (cT (wR as.length g)))
   refine⟨3 * as.length+1+(as.length+1)+5+1+7+3+as.length,3 * as.length+1+(as.length+1)+5+1+7+3+as.length,by lia,fun _ _=>by lia,by rw [if_neg (by lia),if_neg (by lia)]; lia,?_⟩
   rw [e8,show T.node as=T.node (as++[]) by rw [List.append_nil]]
   refine (Bu (n:=(n+as.length+3+7+1+5+(as.length+1))+1) (c:=(c+as.length+3+7+1+5+(as.length+1))+1) ?_).to (by lia) (by lia)
   rw [e9]
   refine zZ rfl ?_
   rw [nQ,if_neg (by decide),if_pos rfl]
   exact (Ib (as:=.node []::as.reverse) (w_top (zH ht (bQ (dN (dM (jZ (dN (lG (bQ g1))))))))) (k:=7+1) (by rw [List.length_cons,List.length_reverse,h7])).to (by lia) (by lia)
  ·rw [if_neg ht] at g
   have g1:=cT (cT (cT (wR as.length g)))
   refine⟨3 * as.length+1+(as.length+1)+5+1+6+3+as.length,3 * as.length+1+(as.length+1)+5+1+6+3+as.length,by lia,fun _ _=>by lia,by rw [if_neg (by lia),if_neg (by lia)]; lia,?_⟩
   rw [e8,show T.node as=T.node (as++[]) by rw [List.append_nil]]
   refine (Bu (n:=(n+as.length+3+6+1+5+(as.length+1))+1) (c:=(c+as.length+3+6+1+5+(as.length+1))+1) ?_).to (by lia) (by lia)
   rw [e9]
   refine zZ rfl ?_
   rw [nQ,if_neg (by decide),if_pos rfl]
   exact (Ib (as:=.node []::as.reverse) (w_top (zZ (Classical.not_not.mp ht) (bQ (dN (dM (jZ (lG (bQ g1)))))))) (k:=7+1) (by rw [List.length_cons,List.length_reverse,h7])).to (by lia) (by lia)
 rw [if_neg h7] at g
 by_cases h8:as.length=8
 ·rw [if_pos h8] at g
  have e8:cu 8=cu (as.length+0):=by rw [h8]
  have eb:vf=Ie as.reverse.length (W 4::Pk [mW aaA aay]):=by rw [List.length_reverse,h8]; rfl
  by_cases ht:(ats st 0).kids≠[]
  ·rw [if_pos ht] at g
   have g1:=cT (cT (cT (wR as.length g)))
   refine⟨3 * as.length+1+2 * as.length+1+5+1+15+3+as.length,3 * as.length+1+2 * as.length+1+5+1+14+3+as.length+(T.node l).parts,by lia,fun _ _=>by lia,by rw [if_neg (by lia),if_pos ⟨h8,ht⟩]; lia,?_⟩
   rw [e8,show T.node as=T.node (as++[]) by rw [List.append_nil]]
   refine (Bu (n:=(n+as.length+3+15+1+5+1+2 * as.length)+1) (c:=(c+as.length+3+14+(T.node l).parts+1+5+1+2 * as.length)+1) ?_).to (by lia) (by lia)
   refine zZ rfl ?_
   rw [eb]
   refine (ab7 (n:=n+as.length+3+15+1+5+1) (c:=c+as.length+3+14+(T.node l).parts+1+5+1) ?_).to (by rw [List.length_reverse]) (by rw [List.length_reverse])
   rw [List.reverse_reverse,List.append_nil]
   exact (bQ (w_top (zH ht (bQ (dN (dM (gR (dN (ab5 (dM (bQ (dM (gR (dM (bQ (bQ (dN (bQ g1)))))))))))))))))).to (by lia) (by lia)
  ·rw [if_neg ht] at g
   have g1:=cT (cT (cT (wR as.length g)))
   refine⟨3 * as.length+1+2 * as.length+1+5+1+4+3+as.length,3 * as.length+1+2 * as.length+1+5+1+4+3+as.length,by lia,fun _ _=>by lia,by rw [if_neg (by lia),if_neg (fun z=>ht z.2)]; lia,?_⟩
   rw [e8,show T.node as=T.node (as++[]) by rw [List.append_nil]]
   refine (Bu (n:=(n+as.length+3+4+1+5+1+2 * as.length)+1) (c:=(c+as.length+3+4+1+5+1+2 * as.length)+1) ?_).to (by lia) (by lia)
   refine zZ rfl ?_
   rw [eb]
   refine (ab7 (n:=n+as.length+3+4+1+5+1) (c:=c+as.length+3+4+1+5+1) ?_).to (by rw [List.length_reverse]) (by rw [List.length_reverse])
   rw [List.reverse_reverse,List.append_nil]
   exact bQ (w_top (zZ (Classical.not_not.mp ht) (bQ (dM (lG (dN g1))))))
 ·rw [if_neg h8] at g
  have hl:(as.take 8).length=8:=by rw [List.length_take]; lia
  have g1:=cT (cT (wR 8 g))
  refine⟨3 * 8+1+10+1+2+8,3 * 8+1+10+1+2+8,by lia,fun _ _=>by lia,by lia,?_⟩
  have e8:cu 8=cu ((as.take 8).length+0):=by rw [hl]
  rw [e8,show T.node as=T.node (as.take 8++as.drop 8) by rw [List.take_append_drop]]
  refine (Bu (n:=(n+8+2+1+10)+1) (c:=(c+8+2+1+10)+1) ?_).to (by lia) (by lia)
  rw [hl]
  refine zH ?_ ?_
  ·show as.drop 8≠[]
   intro z
   have:=congrArg List.length z
   rw [List.length_drop,List.length_nil] at this
   lia
  ·have:=Ib (as:=.node (as.drop 8)::((as.take 8).reverse++[.node l])) (bQ g1) (k:=10) (by rw [List.length_cons,List.length_append,List.length_reverse,hl]; rfl)
   rw [List.cons_append,List.append_assoc] at this
   exact this
def lV (tx s:List T):Nat:=match (ats tx 0).kids with
 | []=>0
 | w::_=>if aH w=2 then (ats s 0).parts else if aH w=8∧(ats s 0).kids≠[] then (bf w).parts else 0
theorem Ky (s:List T):pad s 1=ats s 0::s.drop 1:=by
 cases s with
 | nil=>rfl
 | cons a s=>rw [cU (by simp)]; rfl
theorem B_ {w:T}{k:Nat} (h1:1≤k) (h6:k≤6) (h:aH w=k):behind w s=jg k s:=by
 rcases (by lia:k=1∨k=2∨k=3∨k=4∨k=5∨k=6) with rfl | rfl | rfl | rfl | rfl | rfl
 ·rw [Xp h,Ky]; rfl
 ·rw [Xo h,Ky]; rfl
 ·rw [Xn h]
  match s with
  | []=>rfl
  | [a]=>rfl
  | a::b::s=>rw [cU (by simp)]; rfl
 ·rw [Xm h]
  match s with
  | []=>rfl
  | [a]=>rfl
  | a::b::s=>rw [cU (by simp)]; rfl
 ·rw [Rq h,Ky]; rfl
 ·rw [Xl h]
  match s with
  | []=>rfl
  | [a]=>rfl
  | [a,b]=>rfl
  | a::b::d::s=>rw [cU (by simp)]; rfl
theorem fJ {w:T}{ws ts:List T}:onward (.node (w::ws)::ts) s =
  if aH w=7 then
   if (ats s 0).kids≠[] then (ats (w.kids.drop 1) 0::.node ws::ts,behind w s,7) else (.node (w.kids.drop 2)::.node ws::ts,behind w s,8)
  else if aH w=8 then
   if (ats s 0).kids≠[] then (bf w::.node (w::ws)::ts,behind w s,9) else (.node ws::ts,behind w s,10)
  else if aH w=9 then (.node ws::ts,behind w s,11)
  else (.node ws::ts,behind w s,aH w):=rfl
theorem Vm {as l xs ts:List T}:((onward (.node (.node (.node as::l)::xs)::ts) s).1,(onward (.node (.node (.node as::l)::xs)::ts) s).2.1)=resT as l xs ts s:=by
 have hs:aH (.node (.node as::l))=min 9 as.length:=rfl
 rw [fJ]
 unfold resT
 rw [hs]
 by_cases h0:as.length=0
 ·rw [if_neg (by lia),if_neg (by lia),if_neg (by lia),if_pos h0,DX (by rw [hs]; lia)]; rfl
 rw [if_neg h0]
 by_cases h6:as.length≤6
 ·rw [if_neg (by lia),if_neg (by lia),if_neg (by lia),if_pos h6,B_ (k:=as.length) (by lia) h6 (by rw [hs]; lia)]
 rw [if_neg h6]
 by_cases h7:as.length=7
 ·rw [if_pos (by lia),if_pos h7,jM (by rw [hs]; lia),hs,show min 9 as.length=7 by lia,show many 7=1 from rfl,Ky]
  split <;> rfl
 rw [if_neg h7]
 by_cases h8:as.length=8
 ·rw [if_neg (by lia),if_pos (by lia),if_pos h8,jM (by rw [hs]; lia),hs,show min 9 as.length=8 by lia,show many 8=1 from rfl,Ky]
  split <;> rfl
 ·rw [if_neg (by lia),if_neg (by lia),if_pos (by lia),if_neg h8,jM (by rw [hs]; lia),hs,show min 9 as.length=9 by lia,show many 9=0 from rfl,cU (Nat.zero_le _)]
theorem res_none {xs ts:List T}:((onward (.node (.node []::xs)::ts) s).1,(onward (.node (.node []::xs)::ts) s).2.1)=resT [] [] xs ts s:=by
 unfold onward
 simp only [ats,T.kids,List.getElem?_cons_zero,Option.getD_some,List.drop_succ_cons,List.drop_zero]
 rw [DX rfl]
 rfl
theorem N8 {tx:List T} (h:tx≠[]):nx (.node bB::cs,.node tx::s)=(.node eO::.node bB::cs,.node tx::s):=by
 unfold nx
 rw [show bB=dU 8 eO::[W 1,W 5,W 3,W 1] from rfl,fJ,if_neg (by show 8≠7; decide),if_pos (by rfl),if_pos (by exact h),jM (by show 6<8; decide),cU (by show 1≤_; simp)]
 rfl
theorem Q8:nx (.node bB::cs,.node []::s)=(.node [W 1,W 5,W 3,W 1]::cs,.node []::s):=by
 unfold nx
 rw [show bB=dU 8 eO::[W 1,W 5,W 3,W 1] from rfl,fJ,if_neg (by show 8≠7; decide),if_pos (by rfl),if_neg (by exact fun z=>z rfl),jM (by show 6<8; decide),cU (by show 1≤_; simp)]
def s1 (tx:List T):Nat:=aH (ats (ats tx 0).kids 0)
theorem agO {tx st:List T} (h:tx≠[]):∃ n c,n≤110∧c≤110+lV tx st∧5≤n∧(1≤s1 tx→s1 tx≤8→5 * s1 tx+14≤n) ∧
  Wlk (nx (.node bB::cs,.node tx::.node st::us)) n c (.node bB::cs,.node (onward tx st).1::.node (onward tx st).2.1::us):=by
 rw [N8 h]
 match tx,h with
 | .node []::ts,_=>exact⟨5,5,by decide,by show 5≤110+0; decide,by decide,fun z=>absurd z (by show ¬ 1≤0; decide),gR (zZ rfl (lG (cT (cT .nil))))⟩
 | .node (.node []::xs)::ts,_ =>
  have hr:=res_none (s:=st) (xs:=xs) (ts:=ts)
  obtain⟨m,d,hm,_,hd,g⟩:=Ng (as:=[]) (l:=[]) (xs:=xs) (ts:=ts) (st:=st) (us:=us) (cT (Wlk.nil (st:=(.node bB::cs,.node (resT [] [] xs ts st).1::.node (resT [] [] xs ts st).2::us))))
  rw [← hr] at g
  refine⟨0+1+m+4,0+1+d+4,by lia,by rw [if_neg (by decide),if_neg (by simp)] at hd; lia,by lia,fun z=>absurd z (by show ¬ 1≤0; decide),?_⟩
  exact gR (zH (by simp [T.kids]) (gR (jZ g)))
 | .node (.node (.node as::l)::xs)::ts,_ =>
  have hr:=Vm (s:=st) (as:=as) (l:=l) (xs:=xs) (ts:=ts)
  obtain⟨m,d,hm,hlow,hd,g⟩:=Ng (as:=as) (l:=l) (xs:=xs) (ts:=ts) (st:=st) (us:=us) (cT (Wlk.nil (st:=(.node bB::cs,.node (resT as l xs ts st).1::.node (resT as l xs ts st).2::us))))
  rw [← hr] at g
  have hs1:s1 (.node (.node (.node as::l)::xs)::ts)=min 9 as.length:=rfl
  refine⟨0+1+m+4,0+1+d+4,by lia,?_,by lia,fun z1 z2=>by rw [hs1] at z1 z2 ⊢; have:=hlow (by lia) (by lia); lia,gR (zH (by simp [T.kids]) (gR (gR g)))⟩
  have hx:lV (.node (.node (.node as::l)::xs)::ts) st=if as.length=2 then (ats st 0).parts else if as.length=8∧(ats st 0).kids≠[] then (T.node l).parts else 0:=by
   have hs:aH (.node (.node as::l))=min 9 as.length:=rfl
   rw [show lV (.node (.node (.node as::l)::xs)::ts) st=if aH (.node (.node as::l))=2 then (ats st 0).parts else if aH (.node (.node as::l))=8∧(ats st 0).kids≠[] then (bf (.node (.node as::l))).parts else 0 from rfl,hs]
   by_cases h2:as.length=2
   ·rw [if_pos h2,if_pos (by lia)]
   ·rw [if_neg h2,if_neg (by lia)]
    by_cases h8:as.length=8
    ·by_cases ht:(ats st 0).kids≠[]
     ·rw [if_pos ⟨by lia,ht⟩,if_pos ⟨by lia,ht⟩]; rfl
     ·rw [if_neg (fun z=>ht z.2),if_neg (fun z=>ht z.2)]
    ·rw [if_neg (fun z=>h8 (by have:=z.1; lia)),if_neg (fun z=>h8 (by have:=z.1; lia))]
  rw [hx]
  by_cases h2:as.length=2
  ·rw [if_pos h2,if_neg (by lia)] at hd
   rw [if_pos h2]
   lia
  ·rw [if_neg h2] at hd
   rw [if_neg h2]
   lia
theorem adh {st:List T}:Wlk (nx (.node bB::cs,.node []::.node st::us)) 5 5 (cs,ats st 0::us):=by
 rw [Q8]
 exact lG (jZ (dN (lG (cT .nil))))
theorem ae0 {x:T}{its:List T}:Wlk (nx (.node dW::cs,.node (x::its)::us)) 6 6 (.node bB::cs,.node [x]::.node [.node its]::us):=by
 have e:nx (.node dW::cs,.node (x::its)::us)=(.node (dU 0 []::W 6::W 4::dU 0 []::W 6::W 4::bB)::cs,x::.node its::us):=by
  rw [show dW=W 5::dU 0 []::W 6::W 4::dU 0 []::W 6::W 4::bB from rfl,gb (by show 5≤6; decide),Rq rfl,cU (by simp)]
  rfl
 rw [e]
 exact Ia (dM (bQ (Ia (dM (bQ .nil)))))
end
def wt (st:Std):Nat:=T.aA st.1+T.aA st.2
theorem ug (k:Nat) (s:List T):T.aA (s.drop k)≤T.aA s:=by
 have e:=T.bV (s.take k) (s.drop k)
 rw [List.take_append_drop] at e
 lia
theorem Il (s:List T) (k:Nat):(ats s k).parts≤T.aA s+1:=by
 induction s generalizing k with
 | nil=>unfold ats leaf; rw [List.getElem?_nil,Option.getD_none,T.aG,T.aO]; lia
 | cons a s ih =>
  rw [T.aq]
  cases k with
  | zero=>show a.parts≤_; lia
  | succ k=>have:=ih k; have:=T.iU a; show (ats s k).parts≤_; lia
theorem vq (w:T):(bf w).parts≤w.parts:=by
 have:=ug 1 w.kids
 unfold bf
 rw [T.aG,T.cG w]
 lia
theorem akb {k:Nat} (h1:1≤k) (h6:k≤6) (s:List T):T.aA (jg k s)≤T.aA s+(if k=2 then (ats s 0).parts+1 else 3):=by
 have hl:leaf.parts=1:=by unfold leaf; rw [T.aG,T.aO]
 have hk:leaf.kids=[]:=rfl
 have hn:(T.node []).parts=1:=by rw [T.aG,T.aO]
 have e0:∀ s:List T,ats s 0=match s with | []=>leaf | a::_=>a:=fun s=>by cases s <;> rfl
 rcases (by lia:k=1∨k=2∨k=3∨k=4∨k=5∨k=6) with rfl | rfl | rfl | rfl | rfl | rfl
 ·have:=ug 1 s; rw [if_neg (by decide)]; show T.aA (s.drop 1)≤_; lia
 ·rw [if_pos rfl]
  match s with
  | []=>simp only [jg,e0,List.drop_nil,T.aq,T.aO,hl]; lia
  | a::s=>simp only [jg,e0,List.drop_succ_cons,List.drop_zero,T.aq]; lia
 ·rw [if_neg (by decide)]
  match s with
  | []=>simp only [jg,e0,List.drop_nil,T.aq,T.aO,hl]; lia
  | [a]=>simp only [jg,e0,List.drop_succ_cons,List.drop_zero,List.drop_nil,T.aq,T.aO,hl]; lia
  | a::b::s=>simp only [jg,e0,List.drop_succ_cons,List.drop_zero,T.aq]; lia
 ·rw [if_neg (by decide)]
  match s with
  | []=>simp only [jg,e0,List.drop_nil,T.aq,T.aO,hl,hk,T.aG]; lia
  | [a]=>simp only [jg,e0,List.drop_succ_cons,List.drop_zero,List.drop_nil,T.aq,T.aO,hk,T.aG]; lia
  | a::b::s=>simp only [jg,e0,List.drop_succ_cons,List.drop_zero,T.aq,T.aG]; have:=T.cG b; lia
 ·rw [if_neg (by decide)]
  match s with
  | []=>simp only [jg,e0,List.drop_nil,T.aq,T.aO,hl,hk,T.aG]; lia
  | .node []::s=>simp only [jg,e0,T.kids,List.drop_succ_cons,List.drop_zero,List.drop_nil,T.aq,T.aO,hl,T.aG]; lia
  | .node (a::b)::s=>simp only [jg,e0,T.kids,List.drop_succ_cons,List.drop_zero,T.aq,T.aG]; lia
 ·rw [if_neg (by decide)]
  match s with
  | []=>simp only [jg,e0,List.drop_nil,T.aq,T.aO,hl]; lia
  | [a]=>simp only [jg,e0,List.drop_succ_cons,List.drop_zero,List.drop_nil,T.aq,T.aO,hl]; lia
  | [a,b]=>simp only [jg,e0,List.drop_succ_cons,List.drop_zero,List.drop_nil,T.aq,T.aO,hl]; lia
  | a::b::d::s=>simp only [jg,e0,List.drop_succ_cons,List.drop_zero,T.aq]; lia
theorem aj_ (s:List T) (n:Nat):T.aA (pad s n)≤T.aA s+n:=by
 have:∀ k,T.aA (List.replicate k leaf)=k:=fun k=>by
  induction k with
  | zero=>rw [List.replicate_zero,T.aO]
  | succ k ih=>rw [List.replicate_succ,T.aq,ih,leaf,T.aG,T.aO]; lia
 unfold pad
 rw [T.bV,this]
 lia
theorem yj (w:T) (s:List T):T.aA (behind w s)≤T.aA s+(if aH w=2 then (ats s 0).parts+1 else 3)+(if aH w=0 then (bf w).parts else 0):=by
 by_cases h0:aH w=0
 ·rw [DX h0,T.aq,if_pos h0,if_neg (by lia)]; lia
 by_cases h6:aH w≤6
 ·rw [B_ (k:=aH w) (by lia) h6 rfl]
  have:=akb (k:=aH w) (by lia) h6 s
  lia
 ·have h9:=tY w
  have h3:∀ k,k≤9→many k≤3:=by decide
  have:=h3 _ h9
  rw [jM (by lia),if_neg (by lia)]
  have:=aj_ s (many (aH w))
  lia
theorem vA (w:T) (ws ts s:List T) :
  T.aA (onward (.node (w::ws)::ts) s).1≤T.aA (.node (w::ws)::ts)+(if aH w=8 then (bf w).parts else 0) ∧
  (aH w=0→T.aA (onward (.node (w::ws)::ts) s).1+w.parts≤T.aA (.node (w::ws)::ts))∧(onward (.node (w::ws)::ts) s).2.1=behind w s:=by
 have hw:=T.iU w
 have hl:=vq w
 rw [fJ]
 by_cases h7:aH w=7
 ·rw [if_pos h7,if_neg (show ¬ aH w=8 by lia)]
  refine⟨?_,fun z=>absurd z (by lia),by split <;> rfl⟩
  split
  ·have:=Il (w.kids.drop 1) 0
   have:=ug 1 w.kids
   have:=T.cG w
   show T.aA (_::_::_)≤_
   simp only [T.aq,T.aG]
   lia
  ·have:=ug 2 w.kids
   have:=T.cG w
   show T.aA (_::_::_)≤_
   simp only [T.aq,T.aG]
   lia
 rw [if_neg h7]
 by_cases h8:aH w=8
 ·rw [if_pos h8,if_pos h8]
  refine⟨?_,fun z=>absurd z (by lia),by split <;> rfl⟩
  split
  ·show T.aA (_::_::_)≤_
   simp only [T.aq,T.aG]
   lia
  ·show T.aA (_::_)≤_
   simp only [T.aq,T.aG]
   lia
 rw [if_neg h8,if_neg h8]
 have e:T.aA (.node ws::ts)+w.parts=T.aA (.node (w::ws)::ts):=by simp only [T.aq,T.aG]; lia
 split
 ·exact⟨by show T.aA (.node ws::ts)≤_; lia,fun _=>by show T.aA (.node ws::ts)+_≤_; lia,rfl⟩
 ·exact⟨by show T.aA (.node ws::ts)≤_; lia,fun _=>by show T.aA (.node ws::ts)+_≤_; lia,rfl⟩
theorem agr {tx s:List T} (h:(ats tx 0).kids=[]):onward tx s=(tx.drop 1,s,12):=by unfold onward; rw [h]
theorem afz {st:Std} (h:Gj st):wt (nx st)≤wt st+3 * zT st:=by
 obtain⟨tx,s⟩:=st
 match tx with
 | [] =>
  show T.aA []+T.aA s≤T.aA []+T.aA s+_
  lia
 | .node []::ts =>
  show T.aA ts+T.aA s≤T.aA (.node []::ts)+T.aA s+_
  rw [T.aq]
  lia
 | .node (w::ws)::ts =>
  have h8:aH w≠8:=h
  obtain⟨b1,b2,b3⟩:=vA w ws ts s
  have b4:=yj w s
  have hl:=vq w
  rw [if_neg h8] at b1
  have hc:zT (.node (w::ws)::ts,s)=if aH w=2 then (ats s 0).parts else 1:=rfl
  have hp:=T.iU (ats s 0)
  show T.aA (onward (.node (w::ws)::ts) s).1+T.aA (onward (.node (w::ws)::ts) s).2.1≤T.aA (.node (w::ws)::ts)+T.aA s+3 * zT (.node (w::ws)::ts,s)
  rw [hc,b3]
  by_cases h2:aH w=2
  ·rw [if_pos h2,if_neg (by lia)] at b4
   rw [if_pos h2]
   lia
  ·rw [if_neg h2] at b4
   rw [if_neg h2]
   by_cases h0:aH w=0
   ·have:=b2 h0
    rw [if_pos h0] at b4
    lia
   ·rw [if_neg h0] at b4
    lia
def Wds (M:Nat) (tx:List T):Prop:=∀ t∈tx,∀ w∈t.kids,w.parts≤M
theorem Wds.next {M:Nat}{tx s:List T} (h:Wds M tx):Wds M (onward tx s).1∧T.aA (onward tx s).1≤T.aA tx+M∧T.aA (onward tx s).2.1≤2 * T.aA s+M+4:=by
 match tx with
 | []=>exact⟨h,by show T.aA []≤_; lia,by show T.aA s≤_; lia⟩
 | .node []::ts=>exact⟨fun t ht=>h t (List.mem_cons_of_mem _ ht),by show T.aA ts≤_; rw [T.aq]; lia,by show T.aA s≤_; lia⟩
 | .node (w::ws)::ts =>
  have hw:w.parts≤M:=h _ List.mem_cons_self w List.mem_cons_self
  obtain⟨b1,b2,b3⟩:=vA w ws ts s
  have b4:=yj w s
  have hl:=vq w
  have pa:=Il s 0
  refine⟨?_,by split at b1 <;> lia,by rw [b3]; split at b4 <;> split at b4 <;> lia⟩
  have hin:∀ {us:List T}{k:Nat}{v:T},v∈w.kids.drop k→v.parts≤M:=fun {us k v} hv=>by
   have:=T.iu (List.mem_of_mem_drop hv)
   rw [T.cG w] at hw
   lia
  have hws:∀ v∈ws,v.parts≤M:=fun v hv=>h _ List.mem_cons_self v (List.mem_cons_of_mem _ hv)
  have hts:Wds M ts:=fun t ht=>h t (List.mem_cons_of_mem _ ht)
  have Uo:∀ {a:T}{us:List T},(∀ v∈a.kids,v.parts≤M)→Wds M us→Wds M (a::us):=fun {a us} ha hus t ht=>by
   rcases List.mem_cons.mp ht with rfl | z
   ·exact ha
   ·exact hus t z
  have hr:Wds M (.node ws::ts):=Uo hws hts
  rw [fJ]
  split
  ·split
   ·refine Uo (fun v hv=>?_) hr
    have h1:=Il (w.kids.drop 1) 0
    have h2:=ug 1 w.kids
    have h3:=T.iu hv
    rw [T.cG w] at hw
    rw [T.cG (ats (w.kids.drop 1) 0)] at h1
    lia
   ·exact Uo (fun v hv=>hin (us:=[]) hv) hr
  split
  ·split
   ·exact Uo (fun v hv=>hin (us:=[]) hv) h
   ·exact hr
  split
  ·exact hr
  ·exact hr
def stN:Nat→Std→Std
 | 0,s=>s
 | n+1,s=>nx (stN n s)
theorem je (n:Nat) (s:Std):stN (n+1) s=stN n (nx s):=by
 induction n with
 | zero=>rfl
 | succ n ih=>show nx (stN (n+1) s)=nx (stN n (nx s)); rw [ih]
theorem Pu (m n:Nat) (s:Std):stN (m+n) s=stN n (stN m s):=by
 induction n with
 | zero=>rfl
 | succ n ih=>show nx (stN (m+n) s)=nx (stN n (stN m s)); rw [ih]
def jR (a:Nat) (st:Std):Prop:=(T.node st.1).deep≤a∧(T.node st.2).deep≤a
theorem jR.le {a b:Nat}{st:Std} (h:jR a st) (hab:a≤b):jR b st:=⟨Nat.le_trans h.1 hab,Nat.le_trans h.2 hab⟩
theorem aki {a:Nat}{st:Std} (ha:1≤a) (h:jR a st):jR (a+2) (nx st):=by
 obtain⟨h1,h2⟩:=h
 have hb1:(T.node st.1).parts≤(T.node st.1).parts+(T.node st.2).parts:=by lia
 have hb2:(T.node st.2).parts≤(T.node st.1).parts+(T.node st.2).parts:=by lia
 have:=afw (tx:=st.1) (s:=st.2) ha ⟨h1,hb1⟩ ⟨h2,hb2⟩
 exact⟨this.1.1,this.2.1⟩
theorem afO {a:Nat}{st:Std} (ha:1≤a) (h:jR a st):∀ n,jR (a+2 * n) (stN n st)
 | 0=>h
 | n+1=>aki (a:=a+2 * n) (by lia) (afO ha h n)
def uR (N:Nat) (st:Std):Prop:=∀ i,i≤N→jR 100 (stN i st)∧wt (stN i st)≤1400000
theorem Wy (tx s:List T):lV tx s≤wt (tx,s)+1:=by
 have h1:=Il s 0
 unfold lV
 show _≤T.aA tx+T.aA s+1
 split
 ·lia
 ·rename_i w ws e
  split
  ·lia
  split
  ·have h2:=vq w
   have h3:w.parts≤T.aA tx+1:=by
    have h4:=Il tx 0
    rw [T.cG,e,T.aq] at h4
    lia
   lia
  ·lia
def headOf (st:Std):Std:=([.node bB],[.node st.1,.node st.2])
theorem Dn:(T.node eO).parts+(T.node bB).parts≤4000:=by decide +kernel
theorem wZ:(T.node eO).deep≤90∧(T.node bB).deep≤90:=by decide +kernel
theorem wJ:(T.node dW).parts≤4000∧(T.node dW).deep≤90:=by decide +kernel
def aaZ (st:Std):Prop:=(T.node st.1).deep≤390∧(T.node st.2).deep≤390∧wt st≤7900000
theorem Ik (l:List T):T.aA [.node l]=1+T.aA l:=by rw [T.aq,T.aG,T.aO]; lia
theorem Ob (l:List T):(T.node [.node l]).deep=T.bM l+1:=by rw [T.aK,T.aL,T.aK,T.aZ]; lia
theorem Ui (a b:List T):T.aA [.node a,.node b]=2+T.aA a+T.aA b:=by rw [T.aq,T.aq,T.aG,T.aG,T.aO]; lia
theorem Ur (a b:List T):(T.node [.node a,.node b]).deep=max (T.bM a+1) (T.bM b+1):=by rw [T.aK,T.aL,T.aL,T.aK,T.aK,T.aZ]; lia
theorem Nt {due:Std} (hd:jR 100 due) (hw:wt due≤1400000):aaZ (headOf due)∧(T.node (headOf due).2).deep≤101∧zT (headOf due)=1:=by
 obtain⟨tx,s⟩:=due
 obtain⟨a1,a2⟩:=wZ
 have a3:=Dn
 obtain⟨h1,h2⟩:=hd
 have h1:(T.node tx).deep≤100:=h1
 have h2:(T.node s).deep≤100:=h2
 have hw:T.aA tx+T.aA s≤1400000:=hw
 rw [T.aK] at h1 h2 a1 a2
 rw [T.aG,T.aG] at a3
 have e1:(T.node [.node tx,.node s]).deep≤101:=by rw [Ur]; lia
 refine⟨⟨?_,Nat.le_trans e1 (by lia),?_⟩,e1,rfl⟩
 ·show (T.node [.node bB]).deep≤390
  rw [Ob]; lia
 ·show T.aA [.node bB]+T.aA [.node tx,.node s]≤_
  rw [Ik,Ui]; lia
theorem qH (k:Nat) (ts:List T):T.bM (ts.drop k)≤T.bM ts:=by
 have e:=T.dR (ts.take k) (ts.drop k)
 rw [List.take_append_drop] at e
 lia
theorem pW (ts:List T) (k:Nat) {a:Nat} (h:T.bM ts≤a):(ats ts k).deep≤a - 1:=by
 by_cases hk:k<ts.length
 ·have:=T.uo (Xx hk)
  lia
 ·unfold ats leaf
  rw [List.getElem?_eq_none (by lia),Option.getD_none,T.aK,T.aZ]
  lia
theorem Us (s:List T) (n:Nat) {a:Nat} (ha:1≤a) (h:T.bM s≤a):T.bM (pad s n)≤a:=by
 unfold pad
 rw [T.dR]
 have:∀ k,T.bM (List.replicate k leaf)≤1:=fun k=>by
  induction k with
  | zero=>rw [List.replicate_zero,T.aZ]; lia
  | succ k ih=>have hl:leaf.deep=0:=by { unfold leaf; rw [T.aK,T.aZ] };rw [List.replicate_succ,T.aL]; lia
 have:=this (n - s.length)
 lia
theorem afe {a:Nat}{w:T}{s:List T} (ha:2≤a) (hw:w.deep+1≤a) (hs:T.bM s≤a):T.bM (behind w s)≤a+1:=by
 have hk:∀ t:T,T.bM t.kids=t.deep:=fun t=>(T.GK t).symm
 have hl:(bf w).deep≤w.deep:=by unfold bf; rw [T.aK,T.GK w]; exact qH 1 _
 unfold behind
 have p1:=Us s 1 (by lia) hs
 have p2:=Us s 2 (by lia) hs
 have p3:=Us s 3 (by lia) hs
 split
 ·rw [T.aL]; lia
 split
 ·have:=Us s (many (aH w)) (by lia) hs; lia
 split
 ·have:=qH 1 (pad s 1); lia
 split
 ·have:=qH 1 (pad s 1); have:=pW _ 0 p1; rw [T.aL,T.aL]; lia
 split
 ·have:=qH 2 (pad s 2); have:=pW _ 0 p2; have:=pW _ 1 p2; rw [T.aL,T.aL]; lia
 split
 ·have:=qH 2 (pad s 2)
  have:=pW _ 0 p2
  have:=pW _ 1 p2
  have:=hk (ats (pad s 2) 1)
  rw [T.aL,T.aK,T.aL]
  lia
 split
 ·have:=qH 1 (pad s 1)
  have h0:=pW _ 0 p1
  have:=hk (ats (pad s 1) 0)
  have h1:=pW (ats (pad s 1) 0).kids 0 (a:=a - 1) (by lia)
  have:=qH 1 (ats (pad s 1) 0).kids
  rw [T.aL,T.aL,T.aK]
  lia
 ·have:=qH 3 (pad s 3)
  have:=pW _ 0 p3
  have:=pW _ 1 p3
  have:=pW _ 2 p3
  rw [T.aL,T.aL,T.aL]
  lia
theorem W3 {a:Nat}{st:Std} (ha:4≤a) (h:jR a st):jR (a+1) (nx st):=by
 obtain⟨tx,s⟩:=st
 obtain⟨h1,h2⟩:=h
 have h1:(T.node tx).deep≤a:=h1
 have h2:(T.node s).deep≤a:=h2
 rw [T.aK] at h1 h2
 have goal:T.bM (onward tx s).1≤a+1∧T.bM (onward tx s).2.1≤a+1:=by
  match tx with
  | []=>exact⟨by show T.bM []≤_; rw [T.aZ]; lia,by show T.bM s≤_; lia⟩
  | .node []::ts=>exact⟨by show T.bM ts≤_; rw [T.aL] at h1; lia,by show T.bM s≤_; lia⟩
  | .node (w::ws)::ts =>
   rw [T.aL,T.aK,T.aL] at h1
   have hb:T.bM (behind w s)≤a+1:=afe (by lia) (by lia) h2
   have hk:=T.GK w
   have k1:=qH 1 w.kids
   have k2:=qH 2 w.kids
   have k3:=pW (w.kids.drop 1) 0 (a:=a) (by lia)
   have hr:T.bM (.node ws::ts)≤a:=by rw [T.aL,T.aK]; lia
   rw [fJ]
   split
   ·split
    ·exact⟨by show T.bM (_::.node ws::ts)≤_; rw [T.aL]; lia,hb⟩
    ·exact⟨by show T.bM (_::.node ws::ts)≤_; rw [T.aL,T.aK]; lia,hb⟩
   split
   ·split
    ·refine⟨?_,hb⟩
     show T.bM (bf w::.node (w::ws)::ts)≤_
     unfold bf
     rw [T.aL,T.aK,T.aL,T.aK,T.aL]; lia
    ·exact⟨Nat.le_succ_of_le hr,hb⟩
   split
   ·exact⟨Nat.le_succ_of_le hr,hb⟩
   ·exact⟨Nat.le_succ_of_le hr,hb⟩
 exact⟨by show (T.node (onward tx s).1).deep≤_; rw [T.aK]; exact goal.1,by show (T.node (onward tx s).2.1).deep≤_; rw [T.aK]; exact goal.2⟩
def Way (D W:Nat) (st:Std) (n:Nat) (e:Std):Prop:=∃ c,Wlk st n c e∧n≤110∧jR (D+(110 - n)) st∧wt st+3 * c≤W
theorem Way.ok {D W n:Nat}{st e:Std} (h:Way D W st n e) (hD:D≤280) (hW:W≤7900000):aaZ st:=by
 obtain⟨c,_,_,hd,hw⟩:=h
 exact⟨by have:=hd.1; lia,by have:=hd.2; lia,by lia⟩
theorem Way.step {D W n:Nat}{st e:Std} (h:Way D W st (n+1) e) (hD:4≤D):st.1≠[]∧Gj st∧Way D W (nx st) n e:=by
 obtain⟨c,g,hn,hd,hw⟩:=h
 cases g with
 | @cons _ _ n2 c2 h1 h2 g =>
  have w2:=afz h2
  have d:=W3 (by lia) hd
  exact⟨h1,h2,c2,g,by lia,d.le (by lia),by lia⟩
theorem Way.at {D W:Nat}{st e:Std} (h:Way D W st 0 e):st=e:=by
 obtain⟨c,g,_⟩:=h
 cases g
 rfl
theorem aeZ {a w:Nat}{d:Std} (hd:jR a d) (hw:wt d≤w) (hne:d.1≠[]) (h92:92≤a+1):∃ n,5≤n∧n≤110∧(1≤s1 d.1→s1 d.1≤8→5 * s1 d.1+14≤n)∧Way (a+1) (4 * w+5000) (nx (headOf d)) n (headOf (nx d)):=by
 obtain⟨tx,s⟩:=d
 obtain⟨n,c,hn,hc,h5,hl,g⟩:=agO (cs:=[]) (us:=[]) (st:=s) hne
 have hx:lV tx s≤T.aA tx+T.aA s+1:=Wy tx s
 obtain⟨a1,a2⟩:=wZ
 have a3:=Dn
 obtain⟨h1,h2⟩:=hd
 have h1:(T.node tx).deep≤a:=h1
 have h2:(T.node s).deep≤a:=h2
 have hw:T.aA tx+T.aA s≤w:=hw
 have en:nx (headOf (tx,s))=([.node eO,.node bB],[.node tx,.node s]):=N8 hne
 rw [T.aK] at a1 a2 h1 h2
 rw [T.aG,T.aG] at a3
 have hc:c≤110+lV tx s:=hc
 refine⟨n,h5,hn,hl,c,g,hn,?_,?_⟩
 ·rw [en]
  refine⟨?_,?_⟩
  ·show (T.node [.node eO,.node bB]).deep≤_
   rw [Ur]; lia
  ·show (T.node [.node tx,.node s]).deep≤_
   rw [Ur]; lia
 ·rw [en]
  show T.aA [.node eO,.node bB]+T.aA [.node tx,.node s]+3 * c≤_
  rw [Ui,Ui]; lia
theorem aae {a w:Nat}{d:Std} (hd:jR a d) (hw:wt d≤w) (he:d.1=[]) (h92:92≤a+1):Way (a+1) (4 * w+5000) (nx (headOf d)) 5 ([],[ats d.2 0]):=by
 obtain⟨tx,s⟩:=d
 have he:tx=[]:=he
 subst he
 have hw:T.aA []+T.aA s≤w:=hw
 have h2:(T.node s).deep≤a:=hd.2
 rw [T.aK] at h2
 have en:nx (headOf ([],s))=([.node [W 1,W 5,W 3,W 1]],[.node [],.node s]):=Q8
 refine⟨5,adh,by lia,?_,?_⟩
 ·rw [en]
  refine⟨Nat.le_trans (m:=10) (by show (T.node [.node [W 1,W 5,W 3,W 1]]).deep≤10; decide +kernel) (by lia),?_⟩
  show (T.node [.node [],.node s]).deep≤_
  rw [Ur,T.aZ]; lia
 ·rw [en]
  have e:T.aA [.node [W 1,W 5,W 3,W 1]]≤100:=by decide +kernel
  show T.aA [.node [W 1,W 5,W 3,W 1]]+T.aA [.node [],.node s]+3 * 5≤_
  rw [Ui]; rw [T.aO] at hw ⊢; lia
theorem adx {x:T}{its:List T}{a w:Nat} (hx:x.deep≤a) (hi:T.bM its≤a) (hp:x.parts+T.aA its≤w) (h92:92≤a+2):Way (a+2) (w+5000) ([.node dW],[.node (x::its)]) 7 (headOf ([x],[.node its])):=by
 obtain⟨p1,p2⟩:=wJ
 rw [T.aG] at p1
 rw [T.aK] at p2
 refine⟨7,?_,by lia,⟨?_,?_⟩,?_⟩
 ·have g:=ae0 (cs:=[]) (us:=[]) (x:=x) (its:=its)
  exact Wlk.one (st:=([.node dW],[.node (x::its)])) (by simp) (by show 5≠8; decide) rfl rfl g
 ·show (T.node [.node dW]).deep≤_
  rw [Ob]; lia
 ·show (T.node [.node (x::its)]).deep≤_
  rw [Ob,T.aL]; lia
 ·show T.aA [.node dW]+T.aA [.node (x::its)]+3 * 7≤_
  rw [Ik,Ik,T.aq]; lia
end Sw
namespace PySem
open Builtin Builtin.Str
section
variable {prog:Program}{w:World}{A:Around}{E:Value→Shared→Prop}{s:Shared}{x:Str}{t:Tok}{Q:Value→Shared→Prop}
theorem aef (q:∀ (l:List (Str×Tok)) (k:Nat),l.map (·.1)=Txt.words x→Q (.ref s.heap.objs.size) { s with toks:=k,heap:=s.heap.push { cls:=.type "list",data:=.seq (strValues l).toArray } })
  (z1:x.length≤sizeLine) (z2:(spaceWords x (x.length+1)).length≤sizeLine):wpAny (model prog w) A (call (.builtin "str.split") [.str x t]) Q E s:=by
 refine call_meets F.slot_str_split (typeIs_str _ _ _) F.entry_str_split (F.args_str_split_1 _) (meets_str_split_space x t z1 z2) ?_
 cases hw:spaceWords x (x.length+1) == [(0,x.length)]
 ·simp only [Bool.false_eq_true,if_false]; rw [strsFrom_eq]
  exact q (numbered s.toks (wordsOf x)) _ ((numbered_texts _ _).trans (if_neg (ne_true_of_eq_false hw)).symm)
 ·simp only [if_true]; exact q [(x,t)] s.toks (if_pos hw).symm
end
section
variable {prog:Program}{w:World}{A:Around}{E:Value→Shared→Prop}{s:Shared}
theorem aaD:isSubtype (.type "range_iterator") (.type "reversed")=pure false:=by rw [isSubtype_type]; kernel_rfl
def uz:Obj:={ cls:=.type "range_iterator",data:=.fields #[rawInt 7,rawInt 8,rawInt (-1)] }
theorem abx (r:Addr) (t u v:Tok):Meets (Builtin.«range.__reversed__» ⟨[.ref r],[]⟩) (fun _ R s=>IsRange s.heap r 0 8 1 t u v∧R (.ok (.ret (.ref s.heap.objs.size))) { s with heap:=s.heap.push uz }) :=
 .of_wp fun prog w A R s h=>by obtain⟨hp,g,d,tk,os⟩:=s; obtain⟨hl,h⟩:=h; wp_walk; exact⟨_,rfl,h⟩
theorem Ro {r:Addr}{t u v:Tok}{Q₁:Value→Shared→Prop} (hr:IsRange s.heap r 0 8 1 t u v) (h:Q₁ (.ref s.heap.objs.size) { s with heap:=s.heap.push uz }) :
  codeAny (model prog w) A (.call (.builtin "reversed.__new__") ⟨[.type "reversed",.ref r],[]⟩) (wants Q₁ E) s:=by
 have hT:s.TypeIs (.ref r) "range":=⟨_,hr,rfl⟩
 refine codeAny_of_tree (show wpAny _ A.in1 (do checkBuiltinCall "reversed.__new__" ⟨[.type "reversed",.ref r],[]⟩; again (.builtin "reversed.__new__" ⟨[.type "reversed",.ref r],[]⟩)) _ _ s from ?_)
 refine wpAny_bind (wpAny_of_eq (F.newCall_reversed_1 _) (wpAny_pure ⟨plainId_quiet F.plain_reversed_new _,codeAny_builtin F.entry_reversed_new ?_⟩)); rw [Around.under_plainId F.plain_reversed_new _]; unfold Builtin.«reversed.__new__»
 refine wpAny_bind (wpAny_of_eq (newClass_reversed _) ?_); try dsimp only
 refine wpAny_bind (wpAny_of_eq (a:=()) (by first | rfl | kernel_rfl) ?_); refine wpAny_bind (wpAny_of_eq (a:=()) (by first | rfl | kernel_rfl) ?_); try dsimp only
 refine wpAny_bind (wpAny_specialOf hT F.slot_range_reversed.lookup ?_); try dsimp only
 refine wpAny_bind (wpAny_of_eq (F.slot_range_reversed.bind _) ?_); try dsimp only
 first
 | rw [if_neg (show ¬ ((Value.builtin "range.__reversed__" == Value.none)=true) from Bool.false_ne_true)]
 | (show wpAny _ _ (if (Value.builtin "range.__reversed__" == Value.none)=true then _ else _) _ _ _; rw [if_neg (show ¬ ((Value.builtin "range.__reversed__" == Value.none)=true) from Bool.false_ne_true)])
 refine wpAny_bind (wpAny_rule ?_); refine wpAny_bind (m:=runValue (.call (.builtin "range.__reversed__") ⟨[.ref r],[]⟩)) (show wpAny _ _ (call (.builtin "range.__reversed__") [.ref r]) _ _ _ from call_meets F.slot_range_reversed hT F.entry_range_reversed (F.args_range_reversed_1 _) (abx r t u v) ⟨hr,?_⟩)
 first
 | exact wpAny_pure h
 | exact wpAny_bind (wpAny_pure (wpAny_pure h))
theorem Rp {r:Addr}{t u v:Tok}{Q:Value→Shared→Prop} (hr:IsRange s.heap r 0 8 1 t u v) (h:Q (.ref s.heap.objs.size) { s with heap:=s.heap.push uz }) :
  wpAny (model prog w) A (call (.type "reversed") [.ref r]) Q E s:=by
 refine callType_other (U:="range_iterator") (Q₁:=fun obj s₁=>obj=.ref s.heap.objs.size∧s₁={ s with heap:=s.heap.push uz }) (by decide +kernel) F.create_reversed ⟨_,_,F.mro_reversed⟩ F.made_reversed aaD (F.typeCall_reversed_1 _) (Ro hr ⟨rfl,rfl⟩) ?_
 rintro obj s₁ ⟨rfl,rfl⟩
 exact⟨⟨_,Heap.get?_push_size _ rfl,rfl⟩,h⟩
end
end PySem
namespace Sw
open PySem PySem.Spec PyProof.Rows L2 SwR
section
variable {X:Cx}
theorem Zk:∀ {l:List (Str×Tok)}{zs:List Str},l.map (·.1)=zs→Vals (zs.map V.str) (strValues l)
 | [],_,h=>by cases h; exact .nil
 | (z,t)::l,_,h=>by cases h; exact .cons ⟨t,rfl⟩ (Zk rfl)
def af6:V→List V→Hp→VK→Prop:=fun x vs H Q=>∃ z:Str,x=.str z∧vs=[]∧z.length≤1000∧(Builtin.Str.spaceWords z (z.length+1)).length≤1000∧(Txt.words z).length≤1000 ∧
 ∀ D,H D=none→Q (.ref D) (upd H D (.lst ((Txt.words z).map V.str)))
theorem ac2:MtM X "str.split" af6:=by
 intro pins s σ H x vs v us Q I rx rv h
 obtain⟨z,rfl,rfl,hl,hw,hw2,q⟩:=h
 obtain⟨t,rfl⟩:=rx
 cases rv
 refine aef (fun ll k e=>?_) (Nat.le_trans hl (by decide)) (Nat.le_trans hw (by decide))
 have hn:H s.heap.objs.size=none:=I.hok.fresh (Nat.le_refl _)
 have I2:=I.lnew (ys:=(Txt.words z).map V.str) (its:=strValues ll) (t':=k) (Zk e) (by rw [List.length_map]; exact Nat.le_trans hw2 (by decide))
 exact⟨.ref s.heap.objs.size,_,I2,rfl,q _ hn⟩
def Itd:It:=⟨fun i _=>i<8,fun i H x H'=>H'=H∧x=.int (7 - i),fun i _=>8≤i⟩
theorem ace {P:Program}{w:World}{K:PySem.W.Frag}{tg:Expr} (it:Addr):Turn P w K tg Itd [it] it (fun i h=>IsRangeIter h it (7+(i:Nat) * (-1)) ((8:Nat) - (i:Nat)) (-1)) where
 mem:=by simp
 obj:=fun i h st b hb=>by
  have e:b=it:=by simpa using hb
  subst e
  exact⟨_,st,fun v z=>by have z':Data.fields _=Data.cell v:=z; cases z'⟩
 keep:=fun i h h' st k=>k it (by simp) _ st
 item:=by
  intro X hP hw hK hc i pins s σ H E I hf st hg
  subst hP hw hK
  obtain⟨f0,f1,f2,f3,f4,f5⟩:=hf it (by simp)
  have W:=Walks.range (prog:=X.prog) (w:=X.w) (I.ok.hd hc) it 7 (-1) 8
  refine W.item i s _ _ hg st fun v h' tk hv st' kk=>?_
  obtain⟨t,rfl⟩:=hv
  have I1:Inv X pins σ H { s with heap:=h',toks:=tk }:=I.turned (fun b o hb e=>kk b o (by simpa using hb) e) f0 f1 f3 f4 f5
  refine⟨_,rfl,go_of (s:={ s with heap:=h',toks:=tk }) (n:="range_iterator") st' rfl rfl (by decide) ⟨.int (7 - i),H,I1,⟨t,by rw [show (7:Int)+(i:Int) * -1=7 - i by lia]⟩,⟨rfl,rfl⟩,st',fun b hb=>(hf b hb).1⟩⟩
 done:=by
  intro X hP hw hK hc i pins s σ H E I hf st hg
  subst hP hw hK
  obtain⟨f0,f1,f2,f3,f4,f5⟩:=hf it (by simp)
  exact wpAny_pyNext_range_end (I.ok.hd hc) st (by have:8≤i:=hg; lia) fun h' eb=>⟨rfl,I.turned (t':=s.toks) (fun b o hb e=>eb b o hb e) f0 f1 f3 f4 f5⟩
 self:=fun _ _ _ _ _ st h=>wpAny_pyIter_rangeiter st h
def afM (ta:TA):TI:=fun σ H R=>ta σ H fun vs H1=>vs=[.int 8]∧R Itd H1
theorem agk {tg a:Expr}{ta:TA}{p p2 pos pos2:Pos} (hg:Gl X "range") (hm:X.mg "range"=none) (hg2:Gl X "reversed") (hm2:X.mg "reversed"=none) (ha:PA X [a] ta) (hs:starEach [a] X.env=[(false,eval a X.env)]:=by rfl)
  (hs2:starEach [.Call (.Name "range" p) [a] [] pos] X.env=[(false,eval (.Call (.Name "range" p) [a] [] pos) X.env)]:=by rfl) :
  PI X tg (.Call (.Name "reversed" p2) [.Call (.Name "range" p) [a] [] pos] [] pos2) (afM ta):=by
 intro pins s σ H R I h
 refine wpAny_Call_Name_kw (ld_blt I hg2 hm2 uV ?_)
 refine PyProof.Rows.callWith_type1 ?_ (by rw [hs2]; rfl) (by rfl)
 rw [hs2]
 refine Calls.spliced_cons ?_
 refine Call_ (ld_blt I hg hm boot_range (PyProof.Rows.callWith_type1 (thn (ha pos pins s σ H _ I h) fun us s1 ⟨vs,H1,I1,r1,q1⟩=>?_) hs rfl))
 obtain⟨rfl,q⟩:=q1
 cases r1 with
 | cons r rr =>
  cases rr
  obtain⟨t,rfl⟩:=r
  refine call_range_1 (Calls.spliced_nil ?_)
  generalize Lq:({ s1 with heap:=s1.heap.push { cls:=.type "range",data:=.fields #[.int 0 s1.toks,.int 8 t,.int 1 (s1.toks+1)] },toks:=s1.toks+1+1 }:Shared)=s2
  have I2:Inv X pins σ H1 s2:=by rw [← Lq]; exact I1.kept fun b o e=>Heap.get?_push_of_some _ e
  have hr:IsRange s2.heap s1.heap.objs.size 0 8 1 s1.toks t (s1.toks+1):=by rw [← Lq]; exact Heap.get?_push_size _ rfl
  refine Rp hr ?_
  have hit:IsRangeIter (s2.heap.push uz) s2.heap.objs.size 7 8 (-1):=Heap.get?_push_size _ rfl
  have I3:Inv X pins σ H1 { s2 with heap:=s2.heap.push uz }:=I2.kept (t':=s2.toks) fun b o e=>Heap.get?_push_of_some _ e
  refine wpAny_pyIter_rangeiter (s:={ s2 with heap:=s2.heap.push uz }) hit ?_
  refine⟨s2.heap.objs.size,[s2.heap.objs.size],_,Itd,H1,rfl,I3,ace _,hit,fun b hb=>?_,q⟩
  have e:b=s2.heap.objs.size:=by simpa using hb
  subst e
  exact I2.fpOk (Nat.le_refl _) (I2.hok.fresh (Nat.le_refl _))
theorem af_ {tg a:Expr}{ta:TA}{p p2 pos pos2:Pos} (hg:Gl X "range") (hm:X.mg "range"=none) (hg2:Gl X "reversed") (hm2:X.mg "reversed"=none) (ha:QA X [a] ta) (hs:starEach [a] X.env=[(false,eval a X.env)]:=by rfl)
  (hs2:starEach [.Call (.Name "range" p) [a] [] pos] X.env=[(false,eval (.Call (.Name "range" p) [a] [] pos) X.env)]:=by rfl) :
  QI X tg (.Call (.Name "reversed" p2) [.Call (.Name "range" p) [a] [] pos] [] pos2) (afM ta):=⟨agk hg hm hg2 hm2 ha.run hs hs2⟩
theorem ae8 {g:TG}{tb:TS}{D:Ends}{σ:Sg}{H:Hp} (Pv:Nat→Sg→Hp→Prop) (h0:Pv 0 σ H)
  (hs:∀ i σ H,i<8→Pv i σ H→g (.int (7 - i)) σ H fun σ2 H2=>tb { D with nx:=Pv (i+1),ct:=Pv (i+1),bk:=D.nx } σ2 H2) (hd:∀ σ H,Pv 8 σ H→D.nx σ H) :
  ∃ W:Nat→Nat→Sg→Hp→Prop,(∃ m,W 0 m σ H)∧∀ i m σ H,W i m σ H →
   (Itd.stop i H∧D.nx σ H)∨(Itd.go i H∧∃ N:Sg→Hp→Prop,(∀ σ' H',N σ' H'→∃ m',m'<m∧W (i+1) m' σ' H')∧∀ x H',Itd.yld i H x H'→g x σ H' fun σ2 H2=>tb { D with nx:=N,ct:=N,bk:=D.nx } σ2 H2):=by
 refine⟨fun i m σ H=>m=8 - i∧i≤8∧Pv i σ H,⟨8,rfl,Nat.zero_le _,h0⟩,?_⟩
 rintro i m σ H ⟨rfl,hi,p⟩
 by_cases hlt:i<8
 ·refine .inr ⟨hlt,Pv (i+1),fun σ' H' p'=>⟨8 - (i+1),by lia,rfl,hlt,p'⟩,fun x H' y=>?_⟩
  obtain⟨rfl,rfl⟩:=y
  exact hs i σ _ hlt p
 ·have e:i=8:=by lia
  subst e
  exact .inl ⟨Nat.le_refl _,hd σ H p⟩
def ZX (K:PySem.W.Frag):V→List V→Hp→VK→Prop:=fun x vs H Q=>∃ (a:Addr) (cs:List Str) (p:Str) (j:Nat),x=.ref a∧vs=[.str p]∧SqT K H a (cs.map V.str)∧cs[j]?=some p∧(∀ m,m<j→cs[m]?≠some p)∧Q (.int (j:Nat)) H
theorem ac3:MtM X "tuple.index" (ZX X.K):=by
 intro pins s σ H x vs v us Q I rx rv h
 obtain⟨a,cs,p,j,rfl,rfl,hq,hj,hn,q⟩:=h
 cases rx
 obtain⟨u,rfl,ru⟩:=rv.one
 obtain⟨its,r,ht,hz⟩:=I.tuple hq
 obtain⟨⟨cls,dd,data,sl⟩,ho,hc,n,hd⟩:=id ht
 simp only at hc hd
 subst hc hd
 have flat:∀ l:List Str,(l.map V.str).all Ja=true:=fun l=>by
  rw [List.all_eq_true]; intro y hy
  obtain⟨c,_,rfl⟩:=List.mem_map.mp hy
  rfl
 have hlen:=r.length
 rw [List.length_map] at hlen
 have hjl:j<cs.length:=(List.getElem?_eq_some_iff.mp hj).1
 have at_:∀ m (hm:m<its.toArray.size),eqU (.str p) its.toArray[m]=decide (cs[m]?=some p):=fun m hm=>by
  have hm':m<cs.length:=by rw [List.size_toArray] at hm; lia
  obtain⟨u',e1,ru'⟩:=r.get (i:=m) (x:=.str cs[m]) (by rw [List.getElem?_map,List.getElem?_eq_getElem hm']; rfl)
  have e2:its.toArray[m]=u':=by
   have:=List.getElem?_eq_some_iff.mp e1
   simpa using this.2
  rw [e2,adk ru' rfl,List.getElem?_eq_getElem hm']
  show (cs[m] == p)=_
  by_cases z:cs[m]=p
  ·rw [decide_eq_true (congrArg some z),z]; exact beq_self_eq_true _
  ·rw [decide_eq_false (fun y=>z (Option.some.inj y))]; exact beq_eq_false_iff_ne.mpr z
 have hjs:j<its.toArray.size:=by rw [List.size_toArray]; lia
 refine call_meets F.slot_tuple_index ⟨_,ho,rfl⟩ F.entry_tuple_index (F.args_tuple_index_2 _ _)
  (Yl a its.toArray n dd sl u (eqU (.str p)) j hjs (by rw [at_ j hjs,hj]; exact decide_eq_true rfl) (fun m hm hlt=>by rw [at_ m hm]; exact decide_eq_false (hn m hlt))) ⟨ho,fun y hy=>?_,?_⟩
 ·exact V4 ru rfl r (flat cs) y (by simpa using hy)
 ·exact⟨.int (j:Nat),H,I.tok _,⟨_,rfl⟩,q⟩
theorem ahC {K:PySem.W.Frag}{e:Expr}{T:String}{r:V→List V→Hp→VK→Prop}{to:TE}{t:TA} (hK:X.K=K) (h:QE X e (tBM X.K T r to t)):QE X e (tBM K T r to t):=by subst hK; exact h
theorem aa8 {K:PySem.W.Frag} (hK:X.K=K):MtM X "tuple.index" (ZX K):=by subst hK; exact ac3
end
end Sw
namespace Sw
theorem Io {st:Std}{a:Nat} (hd:jR a st) (ha:a≤390) (hw:wt st≤7900000):BX st.1∧B 390 8000000 (.node st.2):=by
 obtain⟨h1,h2⟩:=hd
 have h3:T.aA st.1+T.aA st.2≤7900000:=hw
 exact⟨BX.of (a:=390) (b:=8000000) ⟨by lia,by rw [T.aG]; lia⟩ (by lia) (by lia),⟨by lia,by rw [T.aG]; lia⟩⟩
theorem Ip {tx s:List T} (h:aaZ (tx,s)):BX tx∧B 390 8000000 (.node s):=by
 obtain⟨h1,h2,h3⟩:=h
 have h3:T.aA tx+T.aA s≤7900000:=h3
 exact⟨BX.of (a:=390) (b:=8000000) ⟨h1,by rw [T.aG]; lia⟩ (by lia) (by lia),⟨h2,by rw [T.aG]; lia⟩⟩
def evW (ω:Nat→Nat) (st:Std):Nat:=ω (stepT st.1 st.2)+(if stepT st.1 st.2=2 then (ats st.2 0).parts * ω 13 else 0)+(if stepT st.1 st.2=9 then (bf (ats (ats st.1 0).kids 0)).parts * ω 14 else 0)
inductive Wo (ω:Nat→Nat):Std→Nat→Std→Prop where
 | nil {st:Std}:Wo ω st 0 st
 | cons {st e:Std}{τ:Nat}:st.1≠[]→Wo ω (nx st) τ e→Wo ω st (τ+evW ω st) e
theorem Wo.to {ω:Nat→Nat}{st e:Std}{τ τ':Nat} (h:Wo ω st τ e) (e1:τ=τ'):Wo ω st τ' e:=by subst e1; exact h
theorem Wo.one {ω:Nat→Nat}{st e u:Std}{τ k:Nat} (h1:st.1≠[]) (h3:nx st=u) (h4:evW ω st=k) (g:Wo ω u τ e):Wo ω st (τ+k) e:=by
 subst h3; subst h4; exact .cons h1 g
theorem cA {w:T}{ws ts s:List T}:stepT (.node (w::ws)::ts) s=if aH w=7 then (if (ats s 0).kids≠[] then 7 else 8) else if aH w=8 then (if (ats s 0).kids≠[] then 9 else 10) else if aH w=9 then 11 else aH w:=by
 unfold stepT
 rw [fJ]
 by_cases h7:aH w=7
 ·rw [if_pos h7,if_pos h7]; split <;> rfl
 rw [if_neg h7,if_neg h7]
 by_cases h8:aH w=8
 ·rw [if_pos h8,if_pos h8]; split <;> rfl
 rw [if_neg h8,if_neg h8]
 split <;> rfl
theorem dj {ω:Nat→Nat}{w:T}{ws ts s:List T}{k:Nat} (h:stepT (.node (w::ws)::ts) s=k):evW ω (.node (w::ws)::ts,s)=ω k+(if k=2 then (ats s 0).parts * ω 13 else 0)+(if k=9 then (bf w).parts * ω 14 else 0):=by
 subst h; rfl
section
variable {ω:Nat→Nat}{t cs s:List T}{e:Std}{τ:Nat}
theorem aa0 {us:List T} (g:Wo ω (.node t::cs,.node us::s) τ e):Wo ω (.node (dU 0 us::t)::cs,s) (τ+ω 0) e :=
 .one (by simp) (by rw [gb (by show 0≤6; decide),DX rfl]; rfl) ((dj (k:=0) (by rw [cA]; rfl)).trans rfl) g
theorem qz {a:T} (g:Wo ω (.node t::cs,s) τ e):Wo ω (.node (W 1::t)::cs,a::s) (τ+ω 1) e :=
 .one (by simp) (by rw [gb (by decide),Xp rfl,cU (by simp)]; rfl) ((dj (k:=1) (by rw [cA]; rfl)).trans rfl) g
theorem acW {a:T} (g:Wo ω (.node t::cs,a::a::s) τ e):Wo ω (.node (W 2::t)::cs,a::s) (τ+(ω 2+a.parts * ω 13)) e :=
 .one (by simp) (by rw [gb (by decide),Xo rfl,cU (by simp)]; rfl) ((dj (k:=2) (by rw [cA]; rfl)).trans rfl) g
theorem dX {a b:T} (g:Wo ω (.node t::cs,b::a::s) τ e):Wo ω (.node (W 3::t)::cs,a::b::s) (τ+ω 3) e :=
 .one (by simp) (by rw [gb (by decide),Xn rfl,cU (by simp)]; rfl) ((dj (k:=3) (by rw [cA]; rfl)).trans rfl) g
theorem cj {a:T}{b:List T} (g:Wo ω (.node t::cs,.node (a::b)::s) τ e):Wo ω (.node (W 4::t)::cs,a::.node b::s) (τ+ω 4) e :=
 .one (by simp) (by rw [gb (by decide),Xm rfl,cU (by simp)]; rfl) ((dj (k:=4) (by rw [cA]; rfl)).trans rfl) g
theorem mZ {a:List T} (g:Wo ω (.node t::cs,ats a 0::.node (a.drop 1)::s) τ e):Wo ω (.node (W 5::t)::cs,.node a::s) (τ+ω 5) e :=
 .one (by simp) (by rw [gb (by decide),Rq rfl,cU (by simp)]; rfl) ((dj (k:=5) (by rw [cA]; rfl)).trans rfl) g
theorem nF {a:T}{b:List T} (g:Wo ω (.node t::cs,a::.node b::s) τ e):Wo ω (.node (W 5::t)::cs,.node (a::b)::s) (τ+ω 5) e:=mZ g
theorem fj {a b d:T} (g:Wo ω (.node t::cs,d::a::b::s) τ e):Wo ω (.node (W 6::t)::cs,a::b::d::s) (τ+ω 6) e :=
 .one (by simp) (by rw [gb (by decide),Xl rfl,cU (by simp)]; rfl) ((dj (k:=6) (by rw [cA]; rfl)).trans rfl) g
theorem dY (g:Wo ω (cs,s) τ e):Wo ω (.node []::cs,s) (τ+ω 12) e :=
 .one (by simp) rfl rfl g
theorem Ir {yes no:List T}{a:T} (ha:a.kids≠[]) (g:Wo ω (.node yes::.node t::cs,a::s) τ e):Wo ω (.node (mW yes no::t)::cs,a::s) (τ+ω 7) e :=
 .one (by simp) (by
  unfold nx onward
  simp only [ats,T.kids,List.getElem?_cons_zero,Option.getD_some,List.drop_succ_cons,List.drop_zero]
  rw [if_pos (by rfl),if_pos (by exact ha),jM (by show 6<7; decide),cU (by show 1≤_; simp)]; rfl) ((dj (k:=7) (by rw [cA,if_pos (by rfl),if_pos (by exact ha)])).trans rfl) g
theorem Dc {yes no:List T}{a:T} (ha:a.kids=[]) (g:Wo ω (.node no::.node t::cs,a::s) τ e):Wo ω (.node (mW yes no::t)::cs,a::s) (τ+ω 8) e :=
 .one (by simp) (by
  unfold nx onward
  simp only [ats,T.kids,List.getElem?_cons_zero,Option.getD_some,List.drop_succ_cons,List.drop_zero]
  rw [if_pos (by rfl),if_neg (by exact fun z=>z ha),jM (by show 6<7; decide),cU (by show 1≤_; simp)]; rfl) ((dj (k:=8) (by rw [cA,if_pos (by rfl),if_neg (by exact fun z=>z ha)])).trans rfl) g
theorem Iu {as:List T} (g:Wo ω (.node t::cs,s) τ e):∀ {k:Nat},as.length=k→Wo ω (.node (Fp k t)::cs,as++s) (τ+k * ω 1) e:=by
 intro k hk
 induction as generalizing k with
 | nil=>cases hk; exact g.to (by simp)
 | cons a as ih=>cases hk; exact (qz (ih rfl)).to (by rw [List.length_cons,Nat.succ_mul]; lia)
theorem ah0 {us:List T}{l:T}{w:T}{ts st:List T} (g:Wo ω (.node t::cs,.node (w::ts)::.node (l::st)::us) τ e):Wo ω (.node (aaz t)::cs,l::w::.node ts::.node st::us) (τ+(4 * ω 6+2 * ω 4+ω 3)) e :=
 (fj (fj (cj (fj (fj (cj (dX g))))))).to (by lia)
theorem aeO {us:List T}{l w:T}{ts st:List T} (g:Wo ω (.node t::cs,ats st 0::.node (st.drop 1)::.node (w::ts)::us) τ e):Wo ω (.node (Pn t)::cs,l::w::.node ts::.node st::us) (τ+(ω 1+ω 4+ω 3+ω 5)) e :=
 (qz (cj (dX (mZ g)))).to (by lia)
theorem Uj {us:List T}{l w:T}{ts st:List T} (g:Wo ω (.node t::cs,ats st 0::.node (st.drop 1)::.node (w::ts)::l::us) τ e):Wo ω (.node (Pk t)::cs,l::w::.node ts::.node st::us) (τ+(3 * ω 6+ω 4+ω 5)) e :=
 (fj (fj (cj (fj (mZ g))))).to (by lia)
def wkW (ω:Nat→Nat) (p:Nat):Nat→Nat
 | 1=>ω 1
 | 2=>ω 2+p * ω 13+ω 6+2 * ω 3+2 * ω 4
 | 3=>3 * ω 3+ω 5+ω 6+2 * ω 4
 | 4=>ω 3+ω 5+ω 6+2 * ω 4
 | 5=>ω 5+2 * ω 6+2 * ω 4+ω 3
 | 6=>4 * ω 3+2 * ω 5+2 * ω 6+3 * ω 4
 | _=>0
theorem aeN {us:List T}{x:T}{st:List T}:∀ {k:Nat},1≤k→k≤6→Wo ω (.node t::cs,.node (jg k st)::x::us) τ e →
  Wo ω (.node (Pj k++t)::cs,ats st 0::.node (st.drop 1)::x::us) (τ+wkW ω (ats st 0).parts k) e:=by
 intro k h1 h6 g
 rcases (by lia:k=1∨k=2∨k=3∨k=4∨k=5∨k=6) with rfl | rfl | rfl | rfl | rfl | rfl
 ·exact qz g
 ·exact (acW (fj (dX (cj (dX (cj g)))))).to (by show _=τ+(ω 2+(ats st 0).parts * ω 13+ω 6+2 * ω 3+2 * ω 4); lia)
 ·exact (dX (mZ (dX (fj (cj (dX (cj (by rw [List.drop_drop]; exact g)))))))).to (by show _=τ+(3 * ω 3+ω 5+ω 6+2 * ω 4); lia)
 ·refine (dX (mZ (fj (τ:=τ+ω 4+ω 4) ?_))).to (by show _=τ+(ω 3+ω 5+ω 6+2 * ω 4); lia)
  rw [show ats (st.drop 1) 0=.node (ats (st.drop 1) 0).kids from (fO _).symm]
  exact cj (cj (by rw [List.drop_drop]; exact g))
 ·rw [show ats st 0=.node (ats st 0).kids from (fO _).symm]
  exact (mZ (fj (fj (cj (dX (cj g)))))).to (by show _=τ+(ω 5+2 * ω 6+2 * ω 4+ω 3); lia)
 ·exact (dX (mZ (dX (mZ (dX (fj (cj (fj (cj (dX (cj (by rw [List.drop_drop,List.drop_drop]; exact g)))))))))))).to (by show _=τ+(4 * ω 3+2 * ω 5+2 * ω 6+3 * ω 4); lia)
theorem wW (k:Nat) (g:Wo ω (cs,s) τ e):Wo ω (List.replicate k (.node [])++cs,s) (τ+k * ω 12) e:=by
 induction k with
 | zero=>exact g.to (by simp)
 | succ k ih=>exact (dY ih).to (by rw [Nat.succ_mul]; lia)
theorem BK {fs:List T}{d:Nat}:∀ {as cs s:List T},Wo ω (.node (cu d)::(List.replicate as.length (.node [])++cs),.node fs::(as.reverse++s)) τ e →
  Wo ω (.node (cu (as.length+d))::cs,.node (as++fs)::s) (τ+as.length * (ω 7+ω 5+ω 3)) e:=by
 intro as
 induction as with
 | nil=>intro cs s g; rw [List.length_nil,Nat.zero_add,Nat.zero_mul]; exact g
 | cons a as ih =>
  intro cs s g
  have g':Wo ω (.node (cu d)::(List.replicate as.length (.node [])++.node []::cs),.node fs::(as.reverse++a::s)) τ e:=by
   rw [ZV]
   rw [List.reverse_cons,List.append_assoc] at g
   exact g
  rw [List.length_cons,show as.length+1+d=as.length+d+1 by lia]
  exact (Ir (yes:=W 5::W 3::cu (as.length+d)) (a:=.node (a::(as++fs))) (by simp [T.kids]) (nF (dX (ih g')))).to (by rw [Nat.succ_mul]; lia)
theorem acY:∀ {as fs s:List T},Wo ω (.node t::cs,.node (as.reverse++fs)::s) τ e→Wo ω (.node (Ie as.length t)::cs,.node fs::(as++s)) (τ+as.length * (ω 3+ω 4)) e:=by
 intro as
 induction as with
 | nil=>intro fs s g; exact g.to (by simp)
 | cons a as ih =>
  intro fs s g
  rw [List.reverse_cons,List.append_assoc] at g
  exact (dX (cj (ih g))).to (by rw [List.length_cons,Nat.succ_mul]; lia)
def Nj (ω:Nat→Nat) (k p b:Nat) (full:Bool):Nat :=
 if k=0 then ω 8+ω 1+(4 * ω 6+2 * ω 4+ω 3)+2 * ω 12
 else if k≤6 then k * (ω 7+ω 5+ω 3)+ω 8+(k+1) * ω 1+(ω 1+ω 4+ω 3+ω 5)+wkW ω p k+ω 3+k * ω 12+2 * ω 12
 else if k=7 then 7 * (ω 7+ω 5+ω 3)+ω 8+8 * ω 1+(3 * ω 6+ω 4+ω 5)+(if full then ω 7+(2 * ω 4+2 * ω 3+ω 6+ω 5+ω 1) else ω 8+(2 * ω 4+ω 3+ω 6+ω 5+ω 1))+10 * ω 12
 else if k=8 then 8 * (ω 7+ω 5+ω 3)+ω 8+8 * (ω 3+ω 4)+ω 4+(3 * ω 6+ω 4+ω 5)+(if full then ω 7+(5 * ω 4+3 * ω 3+4 * ω 6+2 * ω 5+ω 2+b * ω 13) else ω 8+(ω 4+ω 6+ω 1+ω 3))+11 * ω 12
 else 8 * (ω 7+ω 5+ω 3)+ω 7+10 * ω 1+ω 4+10 * ω 12
theorem acX {us as l xs ts st:List T} (g:Wo ω (cs,.node (resT as l xs ts st).1::.node (resT as l xs ts st).2::us) τ e) :
  Wo ω (.node (cu 8)::cs,.node as::.node l::.node xs::.node ts::.node st::us) (τ+Nj ω as.length (ats st 0).parts (T.node l).parts (decide ((ats st 0).kids≠[]))) e:=by
 unfold Nj
 by_cases h0:as.length=0
 ·have:as=[]:=List.length_eq_zero_iff.mp h0
  subst this
  rw [if_pos h0]
  have g:Wo ω (cs,.node (.node xs::ts)::.node (.node l::st)::us) τ e:=g
  exact (Dc rfl (qz (ah0 (dY (dY g))))).to (by lia)
 rw [resT,if_neg h0] at g
 rw [if_neg h0]
 by_cases h6:as.length≤6
 ·rw [if_pos h6] at g ⊢
  have g1:=dY (dY (wW as.length g))
  have g2:=aeN (k:=as.length) (by lia) h6 (dX g1)
  have g3:=Iu (as:=.node []::as.reverse) (aeO (l:=.node l) g2) (k:=as.length+1) (by rw [List.length_cons,List.length_reverse])
  have e8:cu 8=cu (as.length+(8 - as.length)):=by rw [show as.length+(8 - as.length)=8 by lia]
  rw [e8,show T.node as=T.node (as++[]) by rw [List.append_nil]]
  refine (BK (τ:=(τ+as.length * ω 12+ω 12+ω 12+ω 3+wkW ω (ats st 0).parts as.length+(ω 1+ω 4+ω 3+ω 5)+(as.length+1) * ω 1)+ω 8) ?_).to (by lia)
  have e9:cu (8 - as.length)=[mW (W 5::W 3::cu (7 - as.length)) (nQ as.length)]:=by
   rw [show 8 - as.length=(7 - as.length)+1 by lia,cu,show 7 - (7 - as.length)=as.length by lia]
  rw [e9]
  refine Dc rfl ?_
  rw [nQ,if_neg h0,if_neg (by lia)]
  exact g3
 rw [if_neg h6] at g ⊢
 by_cases h7:as.length=7
 ·rw [if_pos h7] at g ⊢
  have e8:cu 8=cu (as.length+1):=by rw [h7]
  have e9:cu 1=[mW (W 5::W 3::cu 0) (nQ 7)]:=rfl
  by_cases ht:(ats st 0).kids≠[]
  ·rw [if_pos ht] at g
   rw [if_pos (decide_eq_true ht)]
   have g1:=dY (dY (dY (wW as.length g)))
   rw [e8,show T.node as=T.node (as++[]) by rw [List.append_nil]]
   refine (BK (τ:=(τ+as.length * ω 12+ω 12+ω 12+ω 12+(2 * ω 4+2 * ω 3+ω 6+ω 5+ω 1)+ω 7+(3 * ω 6+ω 4+ω 5)+(7+1) * ω 1)+ω 8) ?_).to (by rw [h7]; lia)
   rw [e9]
   refine Dc rfl ?_
   rw [nQ,if_neg (by decide),if_pos rfl]
   exact (Iu (as:=.node []::as.reverse) (Uj (Ir ht (cj (dX (fj (mZ (dX (qz (cj g1))))))))) (k:=7+1) (by rw [List.length_cons,List.length_reverse,h7])).to (by lia)
  ·rw [if_neg ht] at g
   rw [if_neg (by rw [decide_eq_true_eq]; exact ht)]
   have g1:=dY (dY (dY (wW as.length g)))
   rw [e8,show T.node as=T.node (as++[]) by rw [List.append_nil]]
   refine (BK (τ:=(τ+as.length * ω 12+ω 12+ω 12+ω 12+(2 * ω 4+ω 3+ω 6+ω 5+ω 1)+ω 8+(3 * ω 6+ω 4+ω 5)+(7+1) * ω 1)+ω 8) ?_).to (by rw [h7]; lia)
   rw [e9]
   refine Dc rfl ?_
   rw [nQ,if_neg (by decide),if_pos rfl]
   exact (Iu (as:=.node []::as.reverse) (Uj (Dc (Classical.not_not.mp ht) (cj (dX (fj (mZ (qz (cj g1)))))))) (k:=7+1) (by rw [List.length_cons,List.length_reverse,h7])).to (by lia)
 rw [if_neg h7] at g ⊢
 by_cases h8:as.length=8
 ·rw [if_pos h8] at g ⊢
  have e8:cu 8=cu (as.length+0):=by rw [h8]
  have eb:vf=Ie as.reverse.length (W 4::Pk [mW aaA aay]):=by rw [List.length_reverse,h8]; rfl
  by_cases ht:(ats st 0).kids≠[]
  ·rw [if_pos ht] at g
   rw [if_pos (decide_eq_true ht)]
   have g1:=dY (dY (dY (wW as.length g)))
   rw [e8,show T.node as=T.node (as++[]) by rw [List.append_nil]]
   refine (BK (τ:=(τ+as.length * ω 12+ω 12+ω 12+ω 12+(5 * ω 4+3 * ω 3+4 * ω 6+2 * ω 5+ω 2+(T.node l).parts * ω 13)+ω 7+(3 * ω 6+ω 4+ω 5)+ω 4+as.length * (ω 3+ω 4))+ω 8) ?_).to (by rw [h8]; lia)
   refine Dc rfl ?_
   rw [eb]
   refine (acY (τ:=τ+as.length * ω 12+ω 12+ω 12+ω 12+(5 * ω 4+3 * ω 3+4 * ω 6+2 * ω 5+ω 2+(T.node l).parts * ω 13)+ω 7+(3 * ω 6+ω 4+ω 5)+ω 4) ?_).to (by rw [List.length_reverse])
   rw [List.reverse_reverse,List.append_nil]
   exact (cj (Uj (Ir ht (cj (dX (fj (nF (dX (acW (fj (cj (fj (nF (fj (cj (cj (dX (cj g1)))))))))))))))))).to (by lia)
  ·rw [if_neg ht] at g
   rw [if_neg (by rw [decide_eq_true_eq]; exact ht)]
   have g1:=dY (dY (dY (wW as.length g)))
   rw [e8,show T.node as=T.node (as++[]) by rw [List.append_nil]]
   refine (BK (τ:=(τ+as.length * ω 12+ω 12+ω 12+ω 12+(ω 4+ω 6+ω 1+ω 3)+ω 8+(3 * ω 6+ω 4+ω 5)+ω 4+as.length * (ω 3+ω 4))+ω 8) ?_).to (by rw [h8]; lia)
   refine Dc rfl ?_
   rw [eb]
   refine (acY (τ:=τ+as.length * ω 12+ω 12+ω 12+ω 12+(ω 4+ω 6+ω 1+ω 3)+ω 8+(3 * ω 6+ω 4+ω 5)+ω 4) ?_).to (by rw [List.length_reverse])
   rw [List.reverse_reverse,List.append_nil]
   exact (cj (Uj (Dc (Classical.not_not.mp ht) (cj (fj (qz (dX g1))))))).to (by lia)
 ·rw [if_neg h8] at g ⊢
  have hl:(as.take 8).length=8:=by rw [List.length_take]; lia
  have g1:=dY (dY (wW 8 g))
  have e8:cu 8=cu ((as.take 8).length+0):=by rw [hl]
  rw [e8,show T.node as=T.node (as.take 8++as.drop 8) by rw [List.take_append_drop]]
  refine (BK (τ:=(τ+8 * ω 12+ω 12+ω 12+ω 4+10 * ω 1)+ω 7) ?_).to (by rw [hl]; lia)
  rw [hl]
  refine Ir ?_ ?_
  ·show as.drop 8≠[]
   intro z
   have:=congrArg List.length z
   rw [List.length_drop,List.length_nil] at this
   lia
  ·have:=Iu (as:=.node (as.drop 8)::((as.take 8).reverse++[.node l])) (cj g1) (k:=10) (by rw [List.length_cons,List.length_append,List.length_reverse,hl]; rfl)
   rw [List.cons_append,List.append_assoc] at this
   exact this
def bF (ω:Nat→Nat):Nat→Nat
 | 0=>ω 1+ω 3+2 * ω 4+3 * ω 5+4 * ω 6+ω 7+ω 8+ω 9+3 * ω 12+1169 * ω 14
 | 1=>4 * ω 1+3 * ω 3+ω 4+5 * ω 5+2 * ω 7+ω 8+ω 9+4 * ω 12+1169 * ω 14
 | 2=>4 * ω 1+ω 2+6 * ω 3+3 * ω 4+6 * ω 5+ω 6+3 * ω 7+ω 8+ω 9+5 * ω 12+1169 * ω 14
 | 3=>5 * ω 1+8 * ω 3+3 * ω 4+8 * ω 5+ω 6+4 * ω 7+ω 8+ω 9+6 * ω 12+1169 * ω 14
 | 4=>6 * ω 1+7 * ω 3+3 * ω 4+9 * ω 5+ω 6+5 * ω 7+ω 8+ω 9+7 * ω 12+1169 * ω 14
 | 5=>7 * ω 1+8 * ω 3+3 * ω 4+10 * ω 5+2 * ω 6+6 * ω 7+ω 8+ω 9+8 * ω 12+1169 * ω 14
 | 6=>8 * ω 1+12 * ω 3+4 * ω 4+12 * ω 5+2 * ω 6+7 * ω 7+ω 8+ω 9+9 * ω 12+1169 * ω 14
 | 7=>9 * ω 1+9 * ω 3+3 * ω 4+12 * ω 5+4 * ω 6+9 * ω 7+ω 8+ω 9+11 * ω 12+1169 * ω 14
 | 8=>9 * ω 1+8 * ω 3+3 * ω 4+12 * ω 5+4 * ω 6+8 * ω 7+2 * ω 8+ω 9+11 * ω 12+1169 * ω 14
 | 9=>ω 2+19 * ω 3+15 * ω 4+14 * ω 5+7 * ω 6+10 * ω 7+ω 8+ω 9+12 * ω 12+1169 * ω 14
 | 10=>ω 1+17 * ω 3+11 * ω 4+12 * ω 5+4 * ω 6+9 * ω 7+2 * ω 8+ω 9+12 * ω 12+1169 * ω 14
 | 11=>10 * ω 1+8 * ω 3+ω 4+11 * ω 5+10 * ω 7+ω 9+11 * ω 12+1169 * ω 14
 | 12=>ω 1+ω 5+ω 8+ω 9+2 * ω 12+1169 * ω 14
 | 13=>ω 13
 | 14=>ω 13
 | _=>0
theorem Nh:(T.node eO).parts=1169:=by decide +kernel
theorem abr {tx s:List T} (h:tx≠[]):evW ω (.node bB::cs,.node tx::s)=ω 9+1169 * ω 14:=by
 rw [show bB=dU 8 eO::[W 1,W 5,W 3,W 1] from rfl,dj (k:=9) (by rw [cA,if_neg (by show 8≠7; decide),if_pos (by rfl),if_pos (by exact h)]),if_neg (by decide),if_pos rfl,show bf (dU 8 eO)=.node eO from rfl,Nh]
 lia
theorem agU {s:List T}:evW ω (.node bB::cs,.node []::s)=ω 10:=by
 rw [show bB=dU 8 eO::[W 1,W 5,W 3,W 1] from rfl,dj (k:=10) (by rw [cA,if_neg (by show 8≠7; decide),if_pos (by rfl),if_neg (by exact fun z=>z rfl)])]
 rfl
theorem agT {as l xs ts st:List T}:evW (bF ω) (.node (.node (.node as::l)::xs)::ts,st)=3 * ω 5+ω 7+Nj ω as.length (ats st 0).parts (T.node l).parts (decide ((ats st 0).kids≠[]))+ω 12+ω 9+1169 * ω 14:=by
 have hs:aH (.node (.node as::l))=min 9 as.length:=rfl
 have hld:bf (.node (.node as::l))=.node l:=rfl
 unfold Nj
 by_cases h0:as.length=0
 ·rw [if_pos h0,dj (k:=0) (by rw [cA,hs,if_neg (by lia),if_neg (by lia),if_neg (by lia)]; lia)]
  show bF ω 0+0+0=_
  simp only [bF]; lia
 rw [if_neg h0]
 by_cases h6:as.length≤6
 ·rw [if_pos h6]
  rcases (by lia:as.length=1∨as.length=2∨as.length=3∨as.length=4∨as.length=5∨as.length=6) with hk | hk | hk | hk | hk | hk
  ·rw [hk,dj (k:=1) (by rw [cA,hs,if_neg (by lia),if_neg (by lia),if_neg (by lia)]; lia)]
   show bF ω 1+0+0=_
   simp only [bF,wkW]; lia
  ·rw [hk,dj (k:=2) (by rw [cA,hs,if_neg (by lia),if_neg (by lia),if_neg (by lia)]; lia)]
   show bF ω 2+(ats st 0).parts * bF ω 13+0=_
   rw [show bF ω 13=ω 13 from rfl]
   simp only [bF,wkW]; lia
  ·rw [hk,dj (k:=3) (by rw [cA,hs,if_neg (by lia),if_neg (by lia),if_neg (by lia)]; lia)]
   show bF ω 3+0+0=_
   simp only [bF,wkW]; lia
  ·rw [hk,dj (k:=4) (by rw [cA,hs,if_neg (by lia),if_neg (by lia),if_neg (by lia)]; lia)]
   show bF ω 4+0+0=_
   simp only [bF,wkW]; lia
  ·rw [hk,dj (k:=5) (by rw [cA,hs,if_neg (by lia),if_neg (by lia),if_neg (by lia)]; lia)]
   show bF ω 5+0+0=_
   simp only [bF,wkW]; lia
  ·rw [hk,dj (k:=6) (by rw [cA,hs,if_neg (by lia),if_neg (by lia),if_neg (by lia)]; lia)]
   show bF ω 6+0+0=_
   simp only [bF,wkW]; lia
 rw [if_neg h6]
 by_cases h7:as.length=7
 ·rw [if_pos h7]
  by_cases ht:(ats st 0).kids≠[]
  ·rw [if_pos (decide_eq_true ht),dj (k:=7) (by rw [cA,hs,if_pos (by lia),if_pos ht])]
   show bF ω 7+0+0=_
   simp only [bF]; lia
  ·rw [if_neg (by rw [decide_eq_true_eq]; exact ht),dj (k:=8) (by rw [cA,hs,if_pos (by lia),if_neg ht])]
   show bF ω 8+0+0=_
   simp only [bF]; lia
 rw [if_neg h7]
 by_cases h8:as.length=8
 ·rw [if_pos h8]
  by_cases ht:(ats st 0).kids≠[]
  ·rw [if_pos (decide_eq_true ht),dj (k:=9) (by rw [cA,hs,if_neg (by lia),if_pos (by lia),if_pos ht]),hld]
   show bF ω 9+0+(T.node l).parts * bF ω 14=_
   rw [show bF ω 14=ω 13 from rfl]
   simp only [bF]; lia
  ·rw [if_neg (by rw [decide_eq_true_eq]; exact ht),dj (k:=10) (by rw [cA,hs,if_neg (by lia),if_pos (by lia),if_neg ht])]
   show bF ω 10+0+0=_
   simp only [bF]; lia
 ·rw [if_neg h8,dj (k:=11) (by rw [cA,hs,if_neg (by lia),if_neg (by lia),if_pos (by lia)])]
  show bF ω 11+0+0=_
  simp only [bF]; lia
theorem o_head {us tx st:List T} (h:tx≠[]) (g:Wo ω (.node bB::cs,.node (onward tx st).1::.node (onward tx st).2.1::us) τ e) :
  Wo ω (.node bB::cs,.node tx::.node st::us) (τ+evW (bF ω) (tx,st)) e:=by
 match tx,h with
 | .node []::ts,h =>
  refine (Wo.one (by simp) (N8 h) (abr h) (nF (Dc rfl (qz (dY (dY g)))))).to ?_
  rw [show evW (bF ω) (.node []::ts,st)=bF ω 12 from rfl]
  simp only [bF]; lia
 | .node (.node []::xs)::ts,h =>
  have hr:=res_none (s:=st) (xs:=xs) (ts:=ts)
  have g2:Wo ω (.node bB::cs,.node (resT [] [] xs ts st).1::.node (resT [] [] xs ts st).2::us) τ e:=by rw [← hr]; exact g
  have g3:=acX (as:=[]) (l:=[]) (xs:=xs) (ts:=ts) (st:=st) (us:=us) (dY g2)
  refine (Wo.one (by simp) (N8 h) (abr h) (nF (Ir (by simp [T.kids]) (nF (mZ g3))))).to ?_
  rw [dj (k:=0) (by rw [cA]; rfl)]
  show _=τ+(bF ω 0+0+0)
  unfold Nj
  rw [if_pos (by rfl)]
  simp only [bF]
  lia
 | .node (.node (.node as::l)::xs)::ts,h =>
  have hr:=Vm (s:=st) (as:=as) (l:=l) (xs:=xs) (ts:=ts)
  have g2:Wo ω (.node bB::cs,.node (resT as l xs ts st).1::.node (resT as l xs ts st).2::us) τ e:=by rw [← hr]; exact g
  have g3:=acX (as:=as) (l:=l) (xs:=xs) (ts:=ts) (st:=st) (us:=us) (dY g2)
  refine (Wo.one (by simp) (N8 h) (abr h) (nF (Ir (by simp [T.kids]) (nF (nF g3))))).to ?_
  rw [agT]
  lia
theorem agy {st e:Std} (h:Wo (bF ω) st τ e):∀ {us cs:List T},e.1=[]→Wo ω (.node bB::cs,.node st.1::.node st.2::us) (τ+(ω 10+2 * ω 1+ω 5+ω 3+ω 12)) (cs,ats e.2 0::us):=by
 induction h with
 | @nil st =>
  intro us cs he
  rw [he]
  exact (Wo.one (by simp) Q8 agU (qz (mZ (dX (qz (dY .nil)))))).to (by lia)
 | @cons st e τ h1 _ ih =>
  intro us cs he
  exact (o_head h1 (ih he)).to (by show _=τ+evW (bF ω) (st.1,st.2)+_; lia)
def Ci (ω:Nat→Nat):Nat:=2 * ω 0+2 * ω 1+ω 3+2 * ω 4+2 * ω 5+2 * ω 6+ω 10+ω 12
theorem ahZ {x:T}{its us cs s:List T} (h:Wo (bF ω) ([x],[.node its]) τ ([],s)):Wo ω (.node dW::cs,.node (x::its)::us) (τ+Ci ω) (cs,ats s 0::us):=by
 have g:=agy (us:=us) (cs:=cs) h rfl
 exact (nF (aa0 (fj (cj (aa0 (fj (cj g))))))).to (by unfold Ci; lia)
end
def bC (ω:Nat→Nat):Nat→List Nat→Nat
 | _,[]=>0
 | i,n::ns=>n * ω i+bC ω (i+1) ns
theorem BZ (ω:Nat→Nat):∀ (ns ms:List Nat) (i:Nat),ns.length=ms.length→bC ω i (fC ns ms)=bC ω i ns+bC ω i ms
 | [],[],_,_=>rfl
 | n::ns,m::ms,i,h=>by
  have ih:=BZ ω ns ms (i+1) (by simpa using h)
  show (n+m) * ω i+bC ω (i+1) (fC ns ms)=n * ω i+bC ω (i+1) ns+(m * ω i+bC ω (i+1) ms)
  rw [ih,Nat.add_mul]
  lia
 | [],_::_,_,h=>by simp at h
 | _::_,[],_,h=>by simp at h
theorem W4 (ω:Nat→Nat):bC ω 0 iw=0:=by
 unfold iw
 simp [bC,List.replicate]
theorem adl {ω:Nat→Nat}{tx s:List T}:bC ω 0 (o_ tx s)=evW ω (tx,s):=by
 have h12:=Ig (tx:=tx) (s:=s)
 unfold o_ evW
 show _=ω (stepT tx s)+(if stepT tx s=2 then (ats s 0).parts * ω 13 else 0)+(if stepT tx s=9 then (bf (ats (ats tx 0).kids 0)).parts * ω 14 else 0)
 generalize stepT tx s=k at *
 generalize (ats s 0).parts=p
 generalize (bf (ats (ats tx 0).kids 0)).parts=b
 by_cases h2:k=2
 ·subst h2
  rw [if_pos rfl,if_pos rfl,if_neg (by decide)]
  simp [ev0,bC,List.replicate,List.set]
 rw [if_neg h2,if_neg h2]
 by_cases h9:k=9
 ·subst h9
  rw [if_pos rfl,if_pos rfl]
  simp [ev0,bC,List.replicate,List.set]
 rw [if_neg h9,if_neg h9]
 rcases (by lia:k=0∨k=1∨k=3∨k=4∨k=5∨k=6∨k=7∨k=8∨k=10∨k=11∨k=12) with rfl | rfl | rfl | rfl | rfl | rfl | rfl | rfl | rfl | rfl | rfl <;> simp [ev0,bC,List.replicate,List.set]
theorem W6 (ω:Nat→Nat):∀ (ns:List Nat) (i:Nat),(∀ j,i≤j→ω j=0)→bC ω i ns=0
 | [],_,_=>rfl
 | n::ns,i,h=>by
  show n * ω i+bC ω (i+1) ns=0
  rw [h i (Nat.le_refl _),W6 ω ns (i+1) (fun j hj=>h j (by lia)),Nat.mul_zero]
theorem L_:∀ (ns:List Nat) (i k:Nat),bC (fun j=>if j=i+k then 1 else 0) i ns=ns.getD k 0
 | [],_,_=>rfl
 | n::ns,i,0=>by
  show n * (if i=i+0 then 1 else 0)+bC _ (i+1) ns=n
  rw [if_pos (by lia),W6 _ ns (i+1) (fun j hj=>if_neg (by lia))]
  lia
 | n::ns,i,k+1=>by
  show n * (if i=i+(k+1) then 1 else 0)+bC _ (i+1) ns=(n::ns).getD (k+1) 0
  rw [if_neg (by lia),show i+(k+1)=i+1+k by lia,L_ ns (i+1) k,List.getD_cons_succ]
  lia
theorem agY {ns ms:List Nat} (hl:ns.length=ms.length) (h:∀ ω,bC ω 0 ns=bC ω 0 ms):ns=ms:=by
 refine List.ext_getElem hl fun i h1 h2=>?_
 have e:=h (fun j=>if j=0+i then 1 else 0)
 rw [L_,L_,List.getD_eq_getElem?_getD,List.getD_eq_getElem?_getD,List.getElem?_eq_getElem h1,List.getElem?_eq_getElem h2] at e
 exact e
theorem JT {ω:Nat→Nat}{st e:Std}{τ:Nat} (g:Wo ω st τ e) (he:e.1=[]):∀ b,(goT b st.1 st.2).1=[]→bC ω 0 (goT b st.1 st.2).2.2=τ∧(goT b st.1 st.2).2.1=e.2:=by
 induction g with
 | nil =>
  intro b _
  rw [ux (.inl he)]
  exact⟨W4 ω,rfl⟩
 | @cons st e τ h1 g ih =>
  intro b hb
  by_cases hc:bL st.1 st.2≤b
  ·rw [xg h1 hc] at hb ⊢
   obtain⟨i1,i2⟩:=ih he (b - bL st.1 st.2) hb
   refine⟨?_,i2⟩
   show bC ω 0 (fC _ _)=_
   rw [BZ _ _ _ _ (by rw [N_,Gy]),adl]
   have i1:bC ω 0 (goT (b - bL st.1 st.2) (onward st.1 st.2).1 (onward st.1 st.2).2.1).2.2=τ:=i1
   rw [i1]
   show evW ω st+τ=τ+evW ω st
   lia
  ·rw [ux (.inr (by lia))] at hb
   exact absurd hb h1
def nU:Nat→Nat:=fun i=>if i=2∨i=14 then 0 else 1
theorem Wz {st:Std}:evW nU st=bL st.1 st.2:=by
 have h12:=Ig (tx:=st.1) (s:=st.2)
 unfold evW bL
 generalize stepT st.1 st.2=k at *
 by_cases h2:k=2
 ·subst h2
  rw [if_pos rfl,if_neg (by decide),if_pos rfl]
  show 0+_ * 1+0=_
  lia
 ·rw [if_neg h2,if_neg h2,show nU k=1 from if_neg (by lia)]
  split
  ·show 1+0+_ * 0=1; lia
  ·rfl
theorem Zj {st e:Std}{c:Nat} (g:Wo nU st c e) (he:e.1=[]):∀ b,c≤b→(goT b st.1 st.2).1=[]∧spT b st.1 st.2=c:=by
 induction g with
 | nil =>
  intro b _
  rw [ux (.inl he),Zr (.inl he)]
  exact⟨he,rfl⟩
 | @cons st e τ h1 g ih =>
  intro b hb
  rw [Wz] at hb ⊢
  rw [xg h1 (by lia),Zt h1 (by lia)]
  obtain⟨i1,i2⟩:=ih he (b - bL st.1 st.2) (by lia)
  exact⟨i1,by rw [show (onward st.1 st.2).1=(nx st).1 from rfl,show (onward st.1 st.2).2.1=(nx st).2 from rfl,i2]; lia⟩
theorem ajG {ω:Nat→Nat}:∀ b tx s,(goT b tx s).1=[]→Wo ω (tx,s) (bC ω 0 (goT b tx s).2.2) ([],(goT b tx s).2.1):=by
 refine Qa (fun b tx s h=>?_) (fun b tx s h1 h2 ih=>?_)
 ·rw [ux h]
  intro he
  have he:tx=[]:=he
  subst he
  exact Wo.nil.to (W4 ω).symm
 ·rw [xg h1 h2]
  intro he
  have g:=Wo.cons (ω:=ω) (st:=(tx,s)) h1 (ih he)
  refine g.to ?_
  show _=bC ω 0 (fC _ _)
  rw [BZ _ _ _ _ (by rw [N_,Gy]),adl]
  lia
theorem zO:leaf.parts=1:=by unfold leaf; rw [T.aG,T.aO]
theorem uK {s:List T}{m:Nat} (h:∀ t∈s,t.parts≤m) (h1:1≤m) (k:Nat):(ats s k).parts≤m:=by
 by_cases hk:k<s.length
 ·exact h _ (Xx hk)
 ·unfold ats
  rw [List.getElem?_eq_none (by lia)]
  show leaf.parts≤m
  rw [zO]; exact h1
theorem abj (t:T):(ats t.kids 0).parts≤t.parts:=by
 have h:=T.cG t
 cases hk:t.kids with
 | nil=>show leaf.parts≤_; rw [zO]; rw [hk] at h; lia
 | cons a b=>rw [hk,T.aq] at h; show a.parts≤_; lia
theorem abh (t:T):(T.node (t.kids.drop 1)).parts≤t.parts:=by
 have h:=T.cG t
 have:=ug 1 t.kids
 rw [T.aG]; lia
theorem R9 {s:List T}{m k:Nat} (h:∀ t∈s,t.parts≤m) (h1:1≤m) (hk:1≤k) (h6:k≤6) (h4:k≠4):∀ t∈jg k s,t.parts≤m:=by
 have hd:∀ j,∀ t∈s.drop j,t.parts≤m:=fun j t ht=>h t (List.mem_of_mem_drop ht)
 have a0:=uK h h1 0
 have a1:=uK (hd 1) h1 0
 have a2:=uK (hd 2) h1 0
 intro t ht
 rcases (by lia:k=1∨k=2∨k=3∨k=5∨k=6) with rfl | rfl | rfl | rfl | rfl
 ·exact hd 1 t ht
 ·simp only [jg,List.mem_cons] at ht
  rcases ht with rfl | rfl | z
  ·exact a0
  ·exact a0
  ·exact hd 1 t z
 ·simp only [jg,List.mem_cons] at ht
  rcases ht with rfl | rfl | z
  ·exact a1
  ·exact a0
  ·exact hd 2 t z
 ·simp only [jg,List.mem_cons] at ht
  rcases ht with rfl | rfl | z
  ·exact Nat.le_trans (abj _) a0
  ·exact Nat.le_trans (abh _) a0
  ·exact hd 1 t z
 ·simp only [jg,List.mem_cons] at ht
  rcases ht with rfl | rfl | rfl | z
  ·exact a2
  ·exact a0
  ·exact a1
  ·exact hd 3 t z
theorem Wr {w:T}{s:List T}{m:Nat} (h:∀ t∈s,t.parts≤m) (h1:1≤m) (hw:w.parts≤m) (h4:aH w≠4):∀ t∈behind w s,t.parts≤m:=by
 by_cases h0:aH w=0
 ·rw [DX h0]
  intro t ht
  rcases List.mem_cons.mp ht with rfl | z
  ·exact Nat.le_trans (vq w) hw
  ·exact h t z
 by_cases h6:aH w≤6
 ·rw [B_ (k:=aH w) (by lia) h6 rfl]
  exact R9 h h1 (by lia) h6 h4
 ·rw [jM (by lia)]
  intro t ht
  unfold pad at ht
  rcases List.mem_append.mp ht with z | z
  ·exact h t z
  ·rw [List.eq_of_mem_replicate z,zO]; exact h1
def Pot (A i:Nat) (s:List T):Prop:=∃ m M,(∀ t∈s,t.parts≤m)∧T.aA s+8≤M∧A≤m∧m+8≤M∧m * M≤2 ^ i * (A * (A+8))
theorem Pot.up {A i:Nat}{s:List T} (h:Pot A i s):Pot A (i+1) s:=by
 obtain⟨m,M,h1,h2,h3,h4,h5⟩:=h
 have e2:2 ^ (i+1) * (A * (A+8))=2 * (2 ^ i * (A * (A+8))):=by rw [Nat.pow_succ,Nat.mul_comm (2 ^ i) 2,Nat.mul_assoc]
 exact⟨m,M,h1,h2,h3,h4,by lia⟩
theorem Pot.word {A i:Nat}{s:List T}{w:T} (hA:8≤A) (h:Pot A i s) (hw:w.parts≤A):Pot A (i+1) (behind w s):=by
 obtain⟨m,M,h1,h2,h3,h4,h5⟩:=h
 have e2:2 ^ (i+1) * (A * (A+8))=2 * (2 ^ i * (A * (A+8))):=by rw [Nat.pow_succ,Nat.mul_comm (2 ^ i) 2,Nat.mul_assoc]
 by_cases h4':aH w=4
 ·rw [B_ (k:=4) (by decide) (by decide) h4']
  match s,h1,h2 with
  | [],h1,h2 =>
   refine⟨m,M,fun t ht=>?_,?_,h3,h4,by lia⟩
   ·have ht:t∈[T.node (leaf::leaf.kids)]:=ht
    rw [List.mem_singleton.mp ht,T.aG,T.aq,zO,show leaf.kids=[] from rfl,T.aO]; lia
   ·show T.aA [T.node (leaf::leaf.kids)]+8≤M
    rw [T.aq,T.aG,T.aq,zO,show leaf.kids=[] from rfl,T.aO]; lia
  | [a],h1,h2 =>
   have ha:=h1 a List.mem_cons_self
   have hp:(T.node (a::leaf.kids)).parts=a.parts+1:=by rw [T.aG,T.aq,show leaf.kids=[] from rfl,T.aO]; lia
   rw [T.aq,T.aO] at h2
   refine⟨m+1,M+1,fun t ht=>?_,?_,by lia,by lia,?_⟩
   ·have ht:t∈[T.node (a::leaf.kids)]:=ht
    rw [List.mem_singleton.mp ht,hp]; lia
   ·show T.aA [T.node (a::leaf.kids)]+8≤M+1
    rw [T.aq,hp,T.aO]; lia
   ·have h8:8 * M≤m * M:=Nat.mul_le_mul_right M (by lia)
    have:(m+1) * (M+1)=m * M+m+M+1:=by rw [Nat.add_mul,Nat.mul_add,Nat.one_mul]; lia
    lia
  | a::b::r,h1,h2 =>
   have ha:=h1 a List.mem_cons_self
   have hb:=h1 b (List.mem_cons_of_mem _ List.mem_cons_self)
   have hp:(T.node (a::b.kids)).parts=a.parts+b.parts:=by rw [T.aG,T.aq]; have:=T.cG b; lia
   rw [T.aq,T.aq] at h2
   refine⟨max m (a.parts+b.parts),M,fun t ht=>?_,?_,by lia,by lia,?_⟩
   ·have ht:t∈T.node (a::b.kids)::r:=ht
    rcases List.mem_cons.mp ht with rfl | z
    ·rw [hp]; lia
    ·have:=h1 t (List.mem_cons_of_mem _ (List.mem_cons_of_mem _ z)); lia
   ·show T.aA (T.node (a::b.kids)::r)+8≤M
    rw [T.aq,hp]; lia
   ·have:max m (a.parts+b.parts) * M≤2 * m * M:=Nat.mul_le_mul_right M (by lia)
    have:2 * m * M=2 * (m * M):=Nat.mul_assoc _ _ _
    lia
 ·have hb:=yj w s
  have hl:=vq w
  have ha:=uK h1 (by lia) 0
  refine⟨m,2 * M,Wr h1 (by lia) (by lia) h4',?_,h3,by lia,?_⟩
  ·split at hb <;> split at hb <;> lia
  ·have:m * (2 * M)=2 * (m * M):=by rw [← Nat.mul_assoc,Nat.mul_comm m 2,Nat.mul_assoc]
   lia
theorem Pot.next {A i:Nat}{tx s:List T} (hA:8≤A) (h:Pot A i s) (hw:Wds A tx):Pot A (i+1) (onward tx s).2.1:=by
 match tx with
 | []=>exact h.up
 | .node []::ts=>exact h.up
 | .node (w::ws)::ts =>
  rw [(vA w ws ts s).2.2]
  exact h.word hA (hw _ List.mem_cons_self w List.mem_cons_self)
theorem Pot.all {i:Nat}{s:List T} (h:Pot 2700 i s):∀ t∈s,t.parts≤2704 * 2 ^ ((i+1) / 2):=by
 obtain⟨m,M,h1,_,_,h4,h5⟩:=h
 intro t ht
 have:=h1 t ht
 refine Nat.le_trans this ?_
 apply Classical.byContradiction
 intro hc
 have hc:2704 * 2 ^ ((i+1) / 2)<m:=by lia
 have h6:m * m≤m * M:=Nat.mul_le_mul_left m (by lia)
 have h7:(2704 * 2 ^ ((i+1) / 2)) * (2704 * 2 ^ ((i+1) / 2))<m * m:=Nat.mul_lt_mul'' hc hc
 have h8:2 ^ i≤2 ^ ((i+1) / 2) * 2 ^ ((i+1) / 2):=by
  rw [← Nat.pow_add]
  exact Nat.pow_le_pow_right (by decide) (by lia)
 have h9:(2704 * 2 ^ ((i+1) / 2)) * (2704 * 2 ^ ((i+1) / 2))=7311616 * (2 ^ ((i+1) / 2) * 2 ^ ((i+1) / 2)):=by
  rw [Nat.mul_mul_mul_comm]
 lia
def aaM:Nat→Nat
 | 0=>2700
 | i+1=>aaM i+2704 * 2 ^ ((i+1) / 2)+3
theorem af4 {tx s:List T} (hd:jR 40 (tx,s)) (hw:Wds 2700 tx) (hc:T.aA tx≤20000) (hs:T.aA s≤2700):uR 14 (tx,s):=by
 have key:∀ i,i≤14→Wds 2700 (stN i (tx,s)).1∧T.aA (stN i (tx,s)).1≤20000+i * 2700∧Pot 2700 i (stN i (tx,s)).2∧T.aA (stN i (tx,s)).2≤aaM i:=by
  intro i
  induction i with
  | zero =>
   intro _
   refine⟨hw,by show T.aA tx≤_; lia,⟨2700,2708,fun t ht=>?_,by show T.aA s+8≤_; lia,by lia,by lia,by decide⟩,hs⟩
   have ht:t∈s:=ht
   have:=T.iu ht
   lia
  | succ i ih =>
   intro hi
   obtain⟨h1,h2,h3,h4⟩:=ih (by lia)
   obtain⟨g1,g2,_⟩:=h1.next (s:=(stN i (tx,s)).2)
   refine⟨g1,by show T.aA (onward _ _).1≤_; lia,h3.next (by decide) h1,?_⟩
   have ha:=uK h3.all (Nat.le_trans (show 1≤2704 * 1 by decide) (Nat.mul_le_mul_left _ (Nat.pow_pos (n:=(i+1) / 2) (show 0<2 by decide)))) 0
   have hR:2700≤2704 * 2 ^ ((i+1) / 2):=Nat.le_trans (show 2700≤2704 * 1 by decide) (Nat.mul_le_mul_left _ (Nat.pow_pos (n:=(i+1) / 2) (show 0<2 by decide)))
   show T.aA (onward (stN i (tx,s)).1 (stN i (tx,s)).2).2.1≤aaM i+2704 * 2 ^ ((i+1) / 2)+3
   generalize 2704 * 2 ^ ((i+1) / 2)=R at *
   generalize stN i (tx,s)=st at *
   match hst:st.1 with
   | []=>show T.aA st.2≤_; lia
   | .node []::ts=>show T.aA st.2≤_; lia
   | .node (w::ws)::ts =>
    rw [(vA w ws ts st.2).2.2]
    have hb:=yj w st.2
    have hl:=vq w
    rw [hst] at h1
    have hwp:=h1 _ List.mem_cons_self w List.mem_cons_self
    split at hb <;> split at hb <;> lia
 intro i hi
 refine⟨(afO (by lia) hd i).le (by lia),?_⟩
 obtain⟨_,h2,_,h3⟩:=key i hi
 have h4:∀ i,i≤14→aaM i≤1100000:=by decide
 have:=h4 i hi
 show T.aA _+T.aA _≤_
 lia
theorem xH {D W n:Nat}{e:Std} (h4:4≤D) (hD:D≤280) (hW:W≤7900000) (k:∀ b,Sane b e.1 e.2):∀ {st:Std},Way D W st n e→∀ b,Sane b st.1 st.2:=by
 induction n with
 | zero=>intro st h b; rw [h.at]; exact k b
 | succ n ih =>
  intro st h b
  obtain⟨_,_,h'⟩:=h.step h4
  obtain⟨b1,b2⟩:=Ip (tx:=st.1) (s:=st.2) (h.ok hD hW)
  exact .mk b1 b2 fun _ _=>ih h' _
theorem WD {d:Std} (hd:jR 100 d) (hw:wt d≤1400000):∀ b,Sane b [] [ats d.2 0]:=by
 intro b
 have h2:=hd.2
 rw [T.aK] at h2
 have h3:T.aA d.1+T.aA d.2≤1400000:=hw
 have ha:=pW d.2 0 h2
 have hp:=Il d.2 0
 obtain⟨b1,b2⟩:=Io (st:=([],[ats d.2 0])) (a:=110) ⟨by show (T.node []).deep≤110; rw [T.aK,T.aZ]; lia,by show (T.node [ats d.2 0]).deep≤110; rw [T.aK,T.aL,T.aZ]; lia⟩ (by lia) (by show T.aA []+T.aA [ats d.2 0]≤_; rw [T.aO,T.aq,T.aO]; lia)
 exact .mk b1 b2 fun z=>absurd rfl z
theorem abp:∀ {N:Nat}{d:Std},uR N d→(stN N d).1=[]→∀ b,Sane b (headOf d).1 (headOf d).2:=by
 intro N
 induction N with
 | zero =>
  intro d h he b
  obtain⟨hd,hw⟩:=h 0 (Nat.le_refl _)
  have hd:jR 100 d:=hd
  have hw:wt d≤1400000:=hw
  obtain⟨b1,b2⟩:=Ip (tx:=(headOf d).1) (s:=(headOf d).2) (Nt hd hw).1
  exact .mk b1 b2 fun _ _=>xH (by decide) (by decide) (by decide) (WD hd hw) (aae hd hw he (by decide)) _
 | succ N ih =>
  intro d h he b
  obtain⟨hd,hw⟩:=h 0 (Nat.zero_le _)
  have hd:jR 100 d:=hd
  have hw:wt d≤1400000:=hw
  obtain⟨b1,b2⟩:=Ip (tx:=(headOf d).1) (s:=(headOf d).2) (Nt hd hw).1
  refine .mk b1 b2 fun _ _=>?_
  by_cases h1:d.1=[]
  ·exact xH (by decide) (by decide) (by decide) (WD hd hw) (aae hd hw h1 (by decide)) _
  ·obtain⟨n,_,_,_,g⟩:=aeZ hd hw h1 (by decide)
   refine xH (by decide) (by decide) (by decide) (ih (d:=nx d) (fun i hi=>?_) ?_) g _
   ·have:=h (i+1) (by lia)
    rw [je] at this
    exact this
   ·rw [je] at he
    exact he
theorem acA {x:T}{its:List T}{N:Nat} (h:uR N ([x],[.node its])) (he:(stN N ([x],[.node its])).1=[]):∀ b,Sane b [.node dW] [.node (x::its)]:=by
 obtain⟨hd,hw⟩:=h 0 (Nat.zero_le _)
 have h1:(T.node [x]).deep≤100:=hd.1
 have h2:(T.node [T.node its]).deep≤100:=hd.2
 have h3:T.aA [x]+T.aA [T.node its]≤1400000:=hw
 rw [T.aK,T.aL,T.aZ] at h1 h2
 rw [T.aq,T.aO,T.aq,T.aO,T.aG] at h3
 rw [T.aK] at h2
 have g:=adx (x:=x) (its:=its) (a:=100) (w:=1400000) (by lia) (by lia) (by lia) (by decide)
 exact xH (by decide) (by decide) (by decide) (abp h he) g
def xr:List Nat:=[2,2,0,1,2,2,2,0,0,0,1,0,1,0,0]
def wM:List (List Nat):=[[0,1,0,1,2,3,4,1,1,1,0,0,3,0,1169],
 [0,4,0,3,1,5,0,2,1,1,0,0,4,0,1169],
 [0,4,1,6,3,6,1,3,1,1,0,0,5,0,1169],
 [0,5,0,8,3,8,1,4,1,1,0,0,6,0,1169],
 [0,6,0,7,3,9,1,5,1,1,0,0,7,0,1169],
 [0,7,0,8,3,10,2,6,1,1,0,0,8,0,1169],
 [0,8,0,12,4,12,2,7,1,1,0,0,9,0,1169],
 [0,9,0,9,3,12,4,9,1,1,0,0,11,0,1169],
 [0,9,0,8,3,12,4,8,2,1,0,0,11,0,1169],
 [0,0,1,19,15,14,7,10,1,1,0,0,12,0,1169],
 [0,1,0,17,11,12,4,9,2,1,0,0,12,0,1169],
 [0,10,0,8,1,11,0,10,0,1,0,0,11,0,1169],
 [0,1,0,0,0,1,0,0,1,1,0,0,2,0,1169],
 [0,0,0,0,0,0,0,0,0,0,0,0,0,1,0],
 [0,0,0,0,0,0,0,0,0,0,0,0,0,1,0]]
def z_:List Nat→List (List Nat)→List Nat→List Nat
 | n::ns,r::rs,acc=>z_ ns rs (acc.zipWith (· + ·) (r.map (n * ·)))
 | _,_,acc=>acc
def turnT (ns:List Nat):List Nat:=z_ ns wM xr
theorem J2:∀ {ns:List Nat}{rs:List (List Nat)}{acc:List Nat},(∀ r∈rs,r.length=15)→acc.length=15→(z_ ns rs acc).length=15
 | [],_,_,_,h=>by cases ‹List (List Nat)› <;> exact h
 | _::_,[],_,_,h=>h
 | n::ns,r::rs,acc,h,ha=>by
  have hr:=h r List.mem_cons_self
  exact J2 (ns:=ns) (rs:=rs) (acc:=acc.zipWith (· + ·) (r.map (n * ·))) (fun r' hr'=>h r' (List.mem_cons_of_mem _ hr')) (by rw [List.length_zipWith,ha,List.length_map,hr]; rfl)
theorem RX:∀ {i:Nat}{ns:List Nat}{rs:List (List Nat)}{acc:List Nat}{n:Nat}{r:List Nat},ns[i]?=some n→rs[i]?=some r→z_ (ns.take (i+1)) rs acc=(z_ (ns.take i) rs acc).zipWith (· + ·) (r.map (n * ·))
 | 0,n::ns,r::rs,acc,_,_,h1,h2=>by cases h1; cases h2; cases rs <;> rfl
 | i+1,n::ns,r::rs,acc,m,q,h1,h2=>by
  show z_ (ns.take (i+1)) rs _=(z_ (ns.take i) rs _).zipWith (· + ·) _
  exact RX (by simpa using h1) (by simpa using h2)
theorem Dv:∀ r∈wM,r.length=15:=by decide
theorem agX:∀ r∈wM,∀ n∈r,n≤100000:=by decide
theorem Cr (ns:List Nat):(turnT ns).length=15:=J2 Dv rfl
theorem Ss (ω:Nat→Nat) (n:Nat):∀ (r:List Nat) (i:Nat),bC ω i (r.map (n * ·))=n * bC ω i r
 | [],_=>rfl
 | m::r,i=>by
  show n * m * ω i+bC ω (i+1) (r.map (n * ·))=n * (m * ω i+bC ω (i+1) r)
  rw [Ss ω n r (i+1),Nat.mul_add,Nat.mul_assoc]
def aby (ω:Nat→Nat):List Nat→List (List Nat)→Nat
 | n::ns,r::rs=>n * bC ω 0 r+aby ω ns rs
 | _,_=>0
theorem W5 (ω:Nat→Nat):∀ (ns:List Nat) (rs:List (List Nat)) (acc:List Nat),(∀ r∈rs,r.length=15)→acc.length=15→bC ω 0 (z_ ns rs acc)=bC ω 0 acc+aby ω ns rs
 | [],[],_,_,_=>rfl
 | [],_::_,_,_,_=>rfl
 | _::_,[],_,_,_=>rfl
 | n::ns,r::rs,acc,h,ha=>by
  have hr:=h r List.mem_cons_self
  show bC ω 0 (z_ ns rs (fC acc (r.map (n * ·))))=bC ω 0 acc+(n * bC ω 0 r+aby ω ns rs)
  rw [W5 ω ns rs _ (fun r' hr'=>h r' (List.mem_cons_of_mem _ hr')) (by unfold fC; rw [List.length_zipWith,ha,List.length_map,hr]; rfl),BZ _ _ _ _ (by rw [ha,List.length_map,hr]),Ss]
  lia
theorem ajV (ω:Nat→Nat):bC ω 0 [0,1,0,1,2,3,4,1,1,1,0,0,3,0,1169]=bF ω 0:=by simp only [bC,bF,Nat.reduceAdd]; lia
theorem ajU (ω:Nat→Nat):bC ω 0 [0,4,0,3,1,5,0,2,1,1,0,0,4,0,1169]=bF ω 1:=by simp only [bC,bF,Nat.reduceAdd]; lia
theorem ajT (ω:Nat→Nat):bC ω 0 [0,4,1,6,3,6,1,3,1,1,0,0,5,0,1169]=bF ω 2:=by simp only [bC,bF,Nat.reduceAdd]; lia
theorem ajS (ω:Nat→Nat):bC ω 0 [0,5,0,8,3,8,1,4,1,1,0,0,6,0,1169]=bF ω 3:=by simp only [bC,bF,Nat.reduceAdd]; lia
theorem ajR (ω:Nat→Nat):bC ω 0 [0,6,0,7,3,9,1,5,1,1,0,0,7,0,1169]=bF ω 4:=by simp only [bC,bF,Nat.reduceAdd]; lia
theorem ajQ (ω:Nat→Nat):bC ω 0 [0,7,0,8,3,10,2,6,1,1,0,0,8,0,1169]=bF ω 5:=by simp only [bC,bF,Nat.reduceAdd]; lia
theorem ajP (ω:Nat→Nat):bC ω 0 [0,8,0,12,4,12,2,7,1,1,0,0,9,0,1169]=bF ω 6:=by simp only [bC,bF,Nat.reduceAdd]; lia
theorem ajO (ω:Nat→Nat):bC ω 0 [0,9,0,9,3,12,4,9,1,1,0,0,11,0,1169]=bF ω 7:=by simp only [bC,bF,Nat.reduceAdd]; lia
theorem ajN (ω:Nat→Nat):bC ω 0 [0,9,0,8,3,12,4,8,2,1,0,0,11,0,1169]=bF ω 8:=by simp only [bC,bF,Nat.reduceAdd]; lia
theorem ajM (ω:Nat→Nat):bC ω 0 [0,0,1,19,15,14,7,10,1,1,0,0,12,0,1169]=bF ω 9:=by simp only [bC,bF,Nat.reduceAdd]; lia
theorem ahw (ω:Nat→Nat):bC ω 0 [0,1,0,17,11,12,4,9,2,1,0,0,12,0,1169]=bF ω 10:=by simp only [bC,bF,Nat.reduceAdd]; lia
theorem ahv (ω:Nat→Nat):bC ω 0 [0,10,0,8,1,11,0,10,0,1,0,0,11,0,1169]=bF ω 11:=by simp only [bC,bF,Nat.reduceAdd]; lia
theorem ahu (ω:Nat→Nat):bC ω 0 [0,1,0,0,0,1,0,0,1,1,0,0,2,0,1169]=bF ω 12:=by simp only [bC,bF,Nat.reduceAdd]; lia
theorem aht (ω:Nat→Nat):bC ω 0 [0,0,0,0,0,0,0,0,0,0,0,0,0,1,0]=bF ω 13:=by simp only [bC,bF,Nat.reduceAdd]; lia
theorem ajL (ω:Nat→Nat):bC ω 0 xr=Ci ω:=by simp only [bC,xr,Ci,Nat.reduceAdd]; lia
theorem afb (ω:Nat→Nat) {ns:List Nat} (h:ns.length=15):bC ω 0 (turnT ns)=bC (bF ω) 0 ns+Ci ω:=by
 unfold turnT
 rw [W5 ω ns wM xr Dv rfl,ajL]
 match ns,h with
 | [a0,a1,a2,a3,a4,a5,a6,a7,a8,a9,a10,a11,a12,a13,a14],_ =>
  unfold wM
  simp only [aby,ajV,ajU,ajT,ajS,ajR,ajQ,ajP,ajO,ajN,ajM,ahw,ahv,ahu,aht]
  simp only [bC,Nat.reduceAdd]
  rw [show bF ω 14=bF ω 13 from rfl]
  lia
theorem ado {ns:List Nat} (h:ns.length=15):abC ns=((bC nU 0 ns:Nat):Int):=by
 match ns,h with
 | [a0,a1,a2,a3,a4,a5,a6,a7,a8,a9,a10,a11,a12,a13,a14],_ =>
  simp only [abC,bC,nU,List.take_succ_cons,List.take_zero,List.map_cons,List.map_nil,List.sum_cons,List.sum_nil,List.getD_cons_succ,List.getD_cons_zero]
  simp
  lia
theorem aej {x:T}{its s cs us:List T}{ns:List Nat} (hn:ns.length=15) (h:∀ ω,Wo ω ([x],[.node its]) (bC ω 0 ns) ([],s)):∀ ω,Wo ω (.node dW::cs,.node (x::its)::us) (bC ω 0 (turnT ns)) (cs,ats s 0::us):=fun ω=>by
 rw [afb ω hn]
 exact ahZ (h (bF ω))
theorem afS {st e:Std}{ns:List Nat} (hn:ns.length=15) (h:∀ ω,Wo ω st (bC ω 0 ns) e) (he:e.1=[]) {b:Nat} (hb:bC nU 0 ns≤b):goT b st.1 st.2=([],e.2,ns)∧spT b st.1 st.2=bC nU 0 ns:=by
 obtain⟨h1,h2⟩:=Zj (h nU) he b hb
 have h3:=fun ω=>(JT (h ω) he b h1).1
 have h4:=(JT (h nU) he b h1).2
 have h5:(goT b st.1 st.2).2.2=ns:=agY (by rw [Gy,hn]) h3
 refine⟨?_,h2⟩
 rw [← h1,← h4,← h5]
inductive GW:T→Prop
 | mk {w:T} (h0:aH w=0→(bf w).parts≤41) (h7:aH w=7→∀ v∈(ats (w.kids.drop 1) 0).kids,GW v) (h7':aH w=7→∀ v∈w.kids.drop 2,GW v) (h8:aH w=8→∀ v∈w.kids.drop 1,GW v):GW w
theorem aaj {us:List T}{n:Nat} (h:∀ v∈us,v.parts≤n):∀ v∈(ats us 0).kids,v.parts≤n:=fun v hv=>by
 cases us with
 | nil=>cases hv
 | cons a b =>
  have hv:v∈a.kids:=hv
  have h1:=h a List.mem_cons_self
  have h2:=T.iu hv
  have h3:=T.cG a
  lia
theorem Ds:∀ (n:Nat) (w:T),w.parts≤n→n≤41→GW w:=by
 intro n
 induction n with
 | zero=>intro w h; have:=T.iU w; lia
 | succ n ih =>
  intro w h hn
  have hl:=vq w
  have hk:=T.cG w
  have hkd:∀ v∈w.kids,v.parts≤n:=fun v hv=>by
   have:=T.iu hv
   lia
  exact .mk (fun _=>by lia) (fun _ v hv=>ih v (aaj (fun v hv=>hkd v (List.mem_of_mem_drop hv)) v hv) (by lia)) (fun _ v hv=>ih v (hkd v (List.mem_of_mem_drop hv)) (by lia)) (fun _ v hv=>ih v (hkd v (List.mem_of_mem_drop hv)) (by lia))
theorem aiy {us:List T} (h:(T.node us).parts≤41):GW (.node (.node []::us)):=.mk (fun _=>h) (fun z=>absurd z (by show min 9 0≠7; decide)) (fun z=>absurd z (by show min 9 0≠7; decide)) (fun z=>absurd z (by show min 9 0≠8; decide))
theorem agQ {as us:List T}{u:T} (hl:as.length=7) (h1:∀ v∈u.kids,GW v) (h2:∀ v∈us,GW v):GW (.node (.node as::u::us)):=by
 have e:aH (.node (.node as::u::us))=7:=by show min 9 as.length=7; lia
 exact .mk (fun z=>by lia) (fun _=>h1) (fun _=>h2) (fun z=>by lia)
theorem ae3 {as us:List T} (hl:as.length=8) (h2:∀ v∈us,GW v):GW (.node (.node as::us)):=by
 have e:aH (.node (.node as::us))=8:=by show min 9 as.length=8; lia
 exact .mk (fun z=>by lia) (fun z=>by lia) (fun z=>by lia) (fun _=>h2)
theorem agP {as us:List T} (hl:1≤as.length) (h:(T.node us).parts≤41):GW (.node (.node as::us)):=by
 have e:aH (.node (.node as::us))=min 9 as.length:=rfl
 have hk:∀ v∈us,v.parts≤40:=fun v hv=>by have:=T.iu hv; rw [T.aG] at h; lia
 exact .mk (fun z=>by lia) (fun _ v hv=>Ds 40 v (aaj hk v hv) (by lia)) (fun _ v hv=>Ds 40 v (hk v (List.mem_of_mem_drop (show v∈us.drop 1 from hv))) (by lia)) (fun _ v hv=>Ds 40 v (hk v hv) (by lia))
def GT (tx:List T):Prop:=∀ t∈tx,∀ w∈t.kids,GW w
theorem GT.next {tx s:List T} (h:GT tx):GT (onward tx s).1:=by
 match tx,h with
 | [],h=>exact h
 | .node []::ts,h=>exact fun t ht=>h t (List.mem_cons_of_mem _ ht)
 | .node (w::ws)::ts,h =>
  have hw:=h _ List.mem_cons_self w List.mem_cons_self
  have hr:GT (.node ws::ts):=fun t ht=>by
   rcases List.mem_cons.mp ht with rfl | ht
   ·exact fun v hv=>h _ List.mem_cons_self v (List.mem_cons_of_mem _ hv)
   ·exact h t (List.mem_cons_of_mem _ ht)
  rw [fJ]
  cases hw with
  | mk h0 h7 h7' h8 =>
  by_cases c7:aH w=7
  ·rw [if_pos c7]
   by_cases ck:(ats s 0).kids≠[]
   ·rw [if_pos ck]
    intro t ht
    rcases List.mem_cons.mp ht with rfl | ht
    ·exact h7 c7
    ·exact hr t ht
   ·rw [if_neg ck]
    intro t ht
    rcases List.mem_cons.mp ht with rfl | ht
    ·exact h7' c7
    ·exact hr t ht
  rw [if_neg c7]
  by_cases c8:aH w=8
  ·rw [if_pos c8]
   by_cases ck:(ats s 0).kids≠[]
   ·rw [if_pos ck]
    intro t ht
    rcases List.mem_cons.mp ht with rfl | ht
    ·exact fun v hv=>h8 c8 v (by cases w; exact hv)
    ·exact h t ht
   ·rw [if_neg ck]; exact hr
  rw [if_neg c8]
  split <;> exact hr
theorem TX {w:T}{s:List T}{m:Nat} (h:∀ t∈s,t.parts≤m) (h1:1≤m) (hw:aH w=0→(bf w).parts≤m) (h4:aH w≠4):∀ t∈behind w s,t.parts≤m:=by
 by_cases h0:aH w=0
 ·rw [DX h0]
  intro t ht
  rcases List.mem_cons.mp ht with rfl | z
  ·exact hw h0
  ·exact h t z
 by_cases h6:aH w≤6
 ·rw [B_ (k:=aH w) (by lia) h6 rfl]
  exact R9 h h1 (by lia) h6 h4
 ·rw [jM (by lia)]
  intro t ht
  unfold pad at ht
  rcases List.mem_append.mp ht with z | z
  ·exact h t z
  ·rw [List.eq_of_mem_replicate z,zO]; exact h1
theorem Pot.ajF {A i:Nat}{s:List T}{w:T} (hA:8≤A) (h:Pot A i s) (hw:aH w=0→(bf w).parts≤A):Pot A (i+1) (behind w s):=by
 obtain⟨m,M,h1,h2,h3,h4,h5⟩:=h
 have e2:2 ^ (i+1) * (A * (A+8))=2 * (2 ^ i * (A * (A+8))):=by rw [Nat.pow_succ,Nat.mul_comm (2 ^ i) 2,Nat.mul_assoc]
 by_cases h4':aH w=4
 ·rw [B_ (k:=4) (by decide) (by decide) h4']
  match s,h1,h2 with
  | [],h1,h2 =>
   refine⟨m,M,fun t ht=>?_,?_,h3,h4,by lia⟩
   ·have ht:t∈[T.node (leaf::leaf.kids)]:=ht
    rw [List.mem_singleton.mp ht,T.aG,T.aq,zO,show leaf.kids=[] from rfl,T.aO]; lia
   ·show T.aA [T.node (leaf::leaf.kids)]+8≤M
    rw [T.aq,T.aG,T.aq,zO,show leaf.kids=[] from rfl,T.aO]; lia
  | [a],h1,h2 =>
   have ha:=h1 a List.mem_cons_self
   have hp:(T.node (a::leaf.kids)).parts=a.parts+1:=by rw [T.aG,T.aq,show leaf.kids=[] from rfl,T.aO]; lia
   rw [T.aq,T.aO] at h2
   refine⟨m+1,M+1,fun t ht=>?_,?_,by lia,by lia,?_⟩
   ·have ht:t∈[T.node (a::leaf.kids)]:=ht
    rw [List.mem_singleton.mp ht,hp]; lia
   ·show T.aA [T.node (a::leaf.kids)]+8≤M+1
    rw [T.aq,hp,T.aO]; lia
   ·have h8:8 * M≤m * M:=Nat.mul_le_mul_right M (by lia)
    have:(m+1) * (M+1)=m * M+m+M+1:=by rw [Nat.add_mul,Nat.mul_add,Nat.one_mul]; lia
    lia
  | a::b::r,h1,h2 =>
   have ha:=h1 a List.mem_cons_self
   have hb:=h1 b (List.mem_cons_of_mem _ List.mem_cons_self)
   have hp:(T.node (a::b.kids)).parts=a.parts+b.parts:=by rw [T.aG,T.aq]; have:=T.cG b; lia
   rw [T.aq,T.aq] at h2
   refine⟨max m (a.parts+b.parts),M,fun t ht=>?_,?_,by lia,by lia,?_⟩
   ·have ht:t∈T.node (a::b.kids)::r:=ht
    rcases List.mem_cons.mp ht with rfl | z
    ·rw [hp]; lia
    ·have:=h1 t (List.mem_cons_of_mem _ (List.mem_cons_of_mem _ z)); lia
   ·show T.aA (T.node (a::b.kids)::r)+8≤M
    rw [T.aq,hp]; lia
   ·have:max m (a.parts+b.parts) * M≤2 * m * M:=Nat.mul_le_mul_right M (by lia)
    have:2 * m * M=2 * (m * M):=Nat.mul_assoc _ _ _
    lia
 ·have hb:=yj w s
  have ha:=uK h1 (by lia) 0
  refine⟨m,2 * M,TX h1 (by lia) (fun z=>Nat.le_trans (hw z) h3) h4',?_,h3,by lia,?_⟩
  ·by_cases c0:aH w=0
   ·have:=hw c0
    rw [if_pos c0,if_neg (by lia)] at hb
    lia
   ·rw [if_neg c0] at hb
    split at hb <;> lia
  ·have:m * (2 * M)=2 * (m * M):=by rw [← Nat.mul_assoc,Nat.mul_comm m 2,Nat.mul_assoc]
   lia
theorem Pot.akd {i:Nat}{tx s:List T} (h:Pot 41 i s) (hw:GT tx):Pot 41 (i+1) (onward tx s).2.1:=by
 match tx with
 | []=>exact h.up
 | .node []::ts=>exact h.up
 | .node (w::ws)::ts =>
  rw [(vA w ws ts s).2.2]
  refine h.ajF (by decide) ?_
  cases hw _ List.mem_cons_self w List.mem_cons_self with
  | mk h0 _ _ _=>exact h0
def xX:Nat→Nat
 | 0=>44 | 1=>63 | 2=>89 | 3=>126 | 4=>179 | 5=>253 | 6=>358 | 7=>507 | 8=>717 | 9=>1014 | 10=>1434 | 11=>2028 | _=>3000
theorem Pot.top {i:Nat}{s:List T} (hi:i≤11) (h:Pot 41 i s):(ats s 0).parts≤xX i:=by
 obtain⟨m,M,h1,_,h3,h4,h5⟩:=h
 refine Nat.le_trans (uK h1 (by lia) 0) ?_
 apply Classical.byContradiction
 intro hc
 have hc:xX i+1≤m:=by lia
 have h7:(xX i+1) * (xX i+1)≤m * M:=Nat.mul_le_mul hc (by lia)
 have h8:∀ i,i≤11→2 ^ i * (41 * (41+8))<(xX i+1) * (xX i+1):=by decide
 have:=h8 i hi
 lia
section
variable {ω:Nat→Nat}{r cs us:List T}{e:Std}{τ:Nat}
theorem aac (r:List T):bB++r=dU 8 eO::([W 1,W 5,W 3,W 1]++r):=rfl
theorem adg {tx s:List T} (h:tx≠[]):nx (.node (bB++r)::cs,.node tx::s)=(.node eO::.node (bB++r)::cs,.node tx::s):=by
 unfold nx
 rw [aac,fJ,if_neg (by show 8≠7; decide),if_pos (by rfl),if_pos (by exact h),jM (by show 6<8; decide),cU (by show 1≤_; simp)]
 rfl
theorem Wx {s:List T}:nx (.node (bB++r)::cs,.node []::s)=(.node ([W 1,W 5,W 3,W 1]++r)::cs,.node []::s):=by
 unfold nx
 rw [aac,fJ,if_neg (by show 8≠7; decide),if_pos (by rfl),if_neg (by exact fun z=>z rfl),jM (by show 6<8; decide),cU (by show 1≤_; simp)]
end
def In (a w:Nat) (st:Std):Prop:=jR a st∧wt st≤w
def nR (r cs us:List T) (d:Std):Std:=(.node (bB++r)::cs,.node d.1::.node d.2::us)
theorem Ux {top:T}{cs us tx st:List T} (h:tx≠[]):∃ n c,n≤110∧c≤110+lV tx st ∧
  Wlk (.node eO::top::cs,.node tx::.node st::us) n c (top::cs,.node (onward tx st).1::.node (onward tx st).2.1::us):=by
 match tx,h with
 | .node []::ts,_=>exact⟨5,5,by decide,by show 5≤110+0; decide,gR (zZ rfl (lG (cT (cT .nil))))⟩
 | .node (.node []::xs)::ts,_ =>
  have hr:=res_none (s:=st) (xs:=xs) (ts:=ts)
  obtain⟨m,d,hm,_,hd,g⟩:=Ng (as:=[]) (l:=[]) (xs:=xs) (ts:=ts) (st:=st) (us:=us) (cT (Wlk.nil (st:=(top::cs,.node (resT [] [] xs ts st).1::.node (resT [] [] xs ts st).2::us))))
  rw [← hr] at g
  refine⟨0+1+m+4,0+1+d+4,by lia,by rw [if_neg (by decide),if_neg (by simp)] at hd; lia,?_⟩
  exact gR (zH (by simp [T.kids]) (gR (jZ g)))
 | .node (.node (.node as::l)::xs)::ts,_ =>
  have hr:=Vm (s:=st) (as:=as) (l:=l) (xs:=xs) (ts:=ts)
  obtain⟨m,d,hm,hlow,hd,g⟩:=Ng (as:=as) (l:=l) (xs:=xs) (ts:=ts) (st:=st) (us:=us) (cT (Wlk.nil (st:=(top::cs,.node (resT as l xs ts st).1::.node (resT as l xs ts st).2::us))))
  rw [← hr] at g
  refine⟨0+1+m+4,0+1+d+4,by lia,?_,gR (zH (by simp [T.kids]) (gR (gR g)))⟩
  have hx:lV (.node (.node (.node as::l)::xs)::ts) st=if as.length=2 then (ats st 0).parts else if as.length=8∧(ats st 0).kids≠[] then (T.node l).parts else 0:=by
   have hs:aH (.node (.node as::l))=min 9 as.length:=rfl
   rw [show lV (.node (.node (.node as::l)::xs)::ts) st=if aH (.node (.node as::l))=2 then (ats st 0).parts else if aH (.node (.node as::l))=8∧(ats st 0).kids≠[] then (bf (.node (.node as::l))).parts else 0 from rfl,hs]
   by_cases h2:as.length=2
   ·rw [if_pos h2,if_pos (by lia)]
   ·rw [if_neg h2,if_neg (by lia)]
    by_cases h8:as.length=8
    ·by_cases ht:(ats st 0).kids≠[]
     ·rw [if_pos ⟨by lia,ht⟩,if_pos ⟨by lia,ht⟩]; rfl
     ·rw [if_neg (fun z=>ht z.2),if_neg (fun z=>ht z.2)]
    ·rw [if_neg (fun z=>h8 (by have:=z.1; lia)),if_neg (fun z=>h8 (by have:=z.1; lia))]
  rw [hx]
  by_cases h2:as.length=2
  ·rw [if_pos h2,if_neg (by lia)] at hd
   rw [if_pos h2]
   lia
  ·rw [if_neg h2] at hd
   rw [if_neg h2]
   lia
theorem xG {st e:Std}{n c a w:Nat} (g:Wlk st n c e) (h:In a w st) (h4:4≤a) (hn:n≤110) (ha:a≤280) (hw:w+3 * c≤7900000) (k:∀ b,Sane b e.1 e.2):∀ b,Sane b st.1 st.2 :=
 xH (D:=a) (W:=w+3 * c) h4 ha hw k ⟨c,g,hn,h.1.le (by lia),by have:=h.2; lia⟩
theorem okIn {st:Std}{a w:Nat} (h:In a w st) (ha:a≤390) (hw:w≤7900000):BX st.1∧B 390 8000000 (.node st.2):=Io h.1 ha (Nat.le_trans h.2 hw)
theorem Z_ {a w w1:Nat}{r cs us:List T}{d:Std} (hd:In a w d) (hc:In a w1 (.node (bB++r)::cs,us)):In (a+1) (w+w1+2) (nR r cs us d):=by
 obtain⟨⟨h1,h2⟩,h3⟩:=hd
 obtain⟨⟨h4,h5⟩,h6⟩:=hc
 have h3:T.aA d.1+T.aA d.2≤w:=h3
 have h4:(T.node (.node (bB++r)::cs)).deep≤a:=h4
 have h5:(T.node us).deep≤a:=h5
 have h6:T.aA (.node (bB++r)::cs)+T.aA us≤w1:=h6
 rw [T.aK] at h5
 refine⟨⟨by show (T.node (.node (bB++r)::cs)).deep≤a+1; lia,?_⟩,?_⟩
 ·show (T.node (.node d.1::.node d.2::us)).deep≤a+1
  rw [T.aK,T.aL,T.aL]; lia
 ·show T.aA (.node (bB++r)::cs)+T.aA (.node d.1::.node d.2::us)≤_
  rw [T.aq (.node d.1),T.aq (.node d.2),T.aG,T.aG]; lia
theorem YK {r cs us:List T}{a w w1 X:Nat} (ha:a≤270) (h92:92≤a) (hX:w+w1+3 * X+3000≤7900000) (hc:In a w1 (.node (bB++r)::cs,us)):∀ {N:Nat}{d:Std},(∀ i,i≤N→In a w (stN i d)∧lV (stN i d).1 (stN i d).2≤X)→(stN N d).1=[] →
  (∀ i,i≤N→(stN i d).1=[]→∀ b,Sane b (.node r::cs) (ats (stN i d).2 0::us))→∀ b,Sane b (nR r cs us d).1 (nR r cs us d).2:=by
 have hsp:(T.node eO).deep≤90:=wZ.1
 have hr:(T.node r).deep≤a:=by
  have:=hc.1.1
  have:(T.node (.node (bB++r)::cs)).deep≤a:=this
  rw [T.aK,T.aL,T.aK,T.dR] at this
  rw [T.aK]; lia
 have aiD:∀ {d:Std},In a w d→d.1=[]→(∀ b,Sane b (.node r::cs) (ats d.2 0::us))→∀ b,Sane b (nR r cs us d).1 (nR r cs us d).2:=by
  intro d hd he k b
  have hi:=Z_ hd hc
  obtain⟨b1,b2⟩:=okIn hi (by lia) (by lia)
  refine .mk b1 b2 fun _ _=>?_
  have en:nx (nR r cs us d)=(.node ([W 1,W 5,W 3,W 1]++r)::cs,.node []::.node d.2::us):=by
   show nx (.node (bB++r)::cs,.node d.1::.node d.2::us)=_
   rw [he]; exact Wx
  have g:Wlk (nx (nR r cs us d)) 4 4 (.node r::cs,ats d.2 0::us):=by
   rw [en]; exact lG (jZ (dN (lG .nil)))
  refine xG (a:=a+2) (w:=w+w1+200) g ?_ (by lia) (by lia) (by lia) (by lia) k _
  obtain⟨⟨q1,q2⟩,q3⟩:=hi
  have q1:(T.node (.node (bB++r)::cs)).deep≤a+1:=q1
  have q2:(T.node (.node d.1::.node d.2::us)).deep≤a+1:=q2
  have q3:T.aA (.node (bB++r)::cs)+T.aA (.node d.1::.node d.2::us)≤w+w1+2:=q3
  rw [he] at q2 q3
  have p4:T.aA [W 1,W 5,W 3,W 1]≤20:=by decide +kernel
  have d4:T.bM [W 1,W 5,W 3,W 1]≤10:=by decide +kernel
  rw [en]
  refine⟨⟨?_,by show (T.node (.node []::.node d.2::us)).deep≤a+2; lia⟩,?_⟩
  ·show (T.node (.node ([W 1,W 5,W 3,W 1]++r)::cs)).deep≤a+2
   rw [T.aK,T.aL,T.aK,T.dR]
   rw [T.aK,T.aL,T.aK,T.dR] at q1
   lia
  ·show T.aA (.node ([W 1,W 5,W 3,W 1]++r)::cs)+T.aA (.node []::.node d.2::us)≤_
   rw [T.aq (.node (bB++r)),T.aG,T.bV] at q3
   rw [T.aq (.node ([W 1,W 5,W 3,W 1]++r)),T.aG,T.bV]
   lia
 intro N
 induction N with
 | zero =>
  intro d h he k
  exact aiD (h 0 (Nat.le_refl _)).1 he (k 0 (Nat.le_refl _) he)
 | succ N ih =>
  intro d h he k b
  by_cases h1:d.1=[]
  ·exact aiD (h 0 (Nat.zero_le _)).1 h1 (k 0 (Nat.zero_le _) h1) b
  ·obtain⟨hd,hx⟩:=h 0 (Nat.zero_le _)
   have hd:In a w d:=hd
   have hx:lV d.1 d.2≤X:=hx
   have hi:=Z_ hd hc
   obtain⟨b1,b2⟩:=okIn hi (by lia) (by lia)
   refine .mk b1 b2 fun _ _=>?_
   have en:nx (nR r cs us d)=(.node eO::.node (bB++r)::cs,.node d.1::.node d.2::us):=adg h1
   obtain⟨n,c,hn,hcc,g⟩:=Ux (top:=.node (bB++r)) (cs:=cs) (us:=us) (st:=d.2) h1
   rw [← en] at g
   refine xG (a:=a+2) (w:=w+w1+1200) g ?_ (by lia) hn (by lia) (by lia) (ih (d:=nx d) (fun i hi=>?_) ?_ (fun i hi=>?_)) _
   ·obtain⟨⟨q1,q2⟩,q3⟩:=hi
    have q1:(T.node (.node (bB++r)::cs)).deep≤a+1:=q1
    have q2:(T.node (.node d.1::.node d.2::us)).deep≤a+1:=q2
    have q3:T.aA (.node (bB++r)::cs)+T.aA (.node d.1::.node d.2::us)≤w+w1+2:=q3
    rw [en]
    refine⟨⟨?_,by show (T.node (.node d.1::.node d.2::us)).deep≤a+2; lia⟩,?_⟩
    ·show (T.node (.node eO::.node (bB++r)::cs)).deep≤a+2
     rw [T.aK,T.aL]
     rw [T.aK] at q1
     lia
    ·show T.aA (.node eO::.node (bB++r)::cs)+T.aA (.node d.1::.node d.2::us)≤_
     rw [T.aq (.node eO),Nh]
     lia
   ·have:=h (i+1) (by lia)
    rw [je] at this
    exact this
   ·rw [je] at he
    exact he
   ·have:=k (i+1) (by lia)
    rw [je] at this
    exact this
section
variable {ω:Nat→Nat}{t cs us:List T}{e:Std}{τ:Nat}
end
theorem Zq:∀ (k:Nat) {st:Std},st.1=[]→stN k st=st
 | 0,_,_=>rfl
 | k+1,st,h=>by
  rw [je,show nx st=st from ?_]
  ·exact Zq k h
  ·obtain⟨tx,s⟩:=st
   have h:tx=[]:=h
   subst h
   rfl
theorem afT {r cs us:List T}{x:T}{its:List T}:Wlk (.node (dW++r)::cs,.node (x::its)::us) 7 7 (nR r cs us ([x],[.node its])) :=
 gR (Ia (dM (bQ (Ia (dM (bQ .nil))))))
theorem In.mk1 {a w:Nat}{c s:List T} (h1:T.bM c≤a) (h2:T.bM s≤a) (h3:T.aA c+T.aA s≤w):In a w (c,s):=⟨⟨by show (T.node c).deep≤a; rw [T.aK]; exact h1,by show (T.node s).deep≤a; rw [T.aK]; exact h2⟩,h3⟩
theorem aiA {b:Nat}{tx s:List T} (he:(goT b tx s).1=[]):∀ ω,Wo ω (tx,s) (bC ω 0 (goT b tx s).2.2) ([],(goT b tx s).2.1):=fun ω=>ajG b tx s he
section
variable {t cs us:List T}{n c:Nat}{e:Std}
end
section
variable {g f h:List T}{x:T}
theorem ab9:In 200 10000 ([.node (bB++[])],[]):=by
 have v1:(T.node bB).deep≤90:=wZ.2
 have v2:=Dn
 rw [List.append_nil]
 exact In.mk1 (by rw [T.aL,T.aZ]; lia) (by rw [T.aZ]; lia) (by rw [T.aq,T.aO]; lia)
end
def cQ:Nat→T→T
 | 0,t=>t
 | n+1,t=>.node (Vs dW (cQ n t))
def upT (ns:List Nat):List Nat:=fC O_ (turnT ns)
def upN:Nat→List Nat→List Nat
 | 0,ns=>ns
 | n+1,ns=>upT (upN n ns)
theorem Zm (ns:List Nat):(upT ns).length=15:=MJ rfl (Cr ns)
theorem OJ {ns:List Nat} (h:ns.length=15):∀ n,(upN n ns).length=15
 | 0=>h
 | n+1=>Zm _
theorem aiF (ω:Nat→Nat) (ns:List Nat):bC ω 0 (upT ns)=ω 0+ω 4+bC ω 0 (turnT ns):=by
 unfold upT
 rw [BZ _ _ _ _ (by rw [Cr]; rfl)]
 have:bC ω 0 O_=ω 0+ω 4:=by simp only [O_,bC,Nat.reduceAdd]; lia
 lia
theorem Pb {t x:T}{s:List T}{ns:List Nat} (hn:ns.length=15) (h:∀ ω,Wo ω ([t],[x]) (bC ω 0 ns) ([],s)):∀ ω,Wo ω ([cQ 1 t],[x]) (bC ω 0 (upT ns)) ([],[ats s 0]):=fun ω=>by
 obtain⟨its⟩:=x
 have g:=aej (cs:=[]) (us:=[]) hn h ω
 rw [aiF]
 refine Wo.to (aa0 (us:=t.kids) (t:=W 4::dW) (cs:=[]) (s:=[.node its]) ?_) (τ:=bC ω 0 (turnT ns)+ω 4+ω 0) (by lia)
 rw [fO]
 exact cj g
theorem afU {t x:T}{s:List T}{ns:List Nat} (hn:ns.length=15) (h:∀ ω,Wo ω ([t],[x]) (bC ω 0 ns) ([],s)):∀ ω,Wo ω ([cQ 2 t],[x]) (bC ω 0 (upN 2 ns)) ([],[ats s 0]):=fun ω=>Pb (t:=cQ 1 t) (s:=[ats s 0]) (Zm ns) (Pb hn h) ω
theorem vd (t:T):∀ n,(cQ n t).parts≤t.parts+n * 4010∧(cQ n t).deep≤max (t.deep+n) (91+n)
 | 0=>⟨by show t.parts≤_; lia,by show t.deep≤_; lia⟩
 | n+1=>by
  obtain⟨h1,h2⟩:=vd t n
  obtain⟨p1,p2⟩:=wJ
  have e4:(W 4).parts=6:=by decide
  have e5:(W 4).deep=2:=by decide
  have e6:=T.cG (cQ n t)
  have e7:=agZ (cQ n t)
  rw [T.aG] at p1
  rw [T.aK] at p2
  have hw:(dU 0 (cQ n t).kids).parts=(cQ n t).parts+1∧(dU 0 (cQ n t).kids).deep≤max 1 (cQ n t).deep:=by
   unfold dU wY
   rw [T.aG,T.aq,List.replicate_zero,T.aG,T.aO,T.aK,T.aL,T.aK,T.aZ]
   lia
  show (T.node (Vs dW (cQ n t))).parts≤_∧(T.node (Vs dW (cQ n t))).deep≤_
  unfold Vs
  rw [T.aG,T.aq,T.aq,T.aK,T.aL,T.aL]
  have e8:(dU 4 []).parts=6:=by decide
  have e9:(dU 4 []).deep=2:=by decide
  lia
def aaC:Nat→Nat→Nat
 | _,0=>0
 | k,j+1=>xX k+aaC (k+1) j
theorem afg {k:Nat}{tx s:List T} (hk:k≤11) (h:Pot 41 k s):bL tx s≤xX k:=by
 have h1:=h.top hk
 have h2:∀ k,1≤xX k:=fun k=>by unfold xX; split <;> decide
 have:=h2 k
 unfold bL
 split <;> lia
theorem Zo:∀ (j k:Nat) {st:Std},k+j≤12→Pot 41 k st.2→GT st.1→(∀ i,i<j→(stN i st).1≠[])→∃ τ,τ≤aaC k j∧Wo nU st τ (stN j st)
 | 0,k,st,_,_,_,_=>⟨0,Nat.le_refl _,.nil⟩
 | j+1,k,st,hk,hp,hg,hne=>by
  obtain⟨τ,h1,h2⟩:=Zo j (k+1) (st:=nx st) (by lia) (hp.akd hg) hg.next (fun i hi=>by rw [← je]; exact hne (i+1) (by lia))
  have hc:=afg (tx:=st.1) (s:=st.2) (by lia) hp
  refine⟨τ+evW nU st,?_,.cons (hne 0 (by lia)) (by rw [je]; exact h2)⟩
  rw [Wz]
  show τ+bL st.1 st.2≤xX k+aaC (k+1) j
  lia
theorem adi:∀ {N:Nat}{st:Std},uR N st→(stN N st).1=[]→∀ b,Sane b st.1 st.2:=by
 intro N
 induction N with
 | zero =>
  intro st h he b
  obtain⟨hd,hw⟩:=h 0 (Nat.le_refl _)
  obtain⟨b1,b2⟩:=Io (st:=st) (a:=100) hd (by decide) (Nat.le_trans hw (by decide))
  exact .mk b1 b2 fun z=>absurd he z
 | succ N ih =>
  intro st h he b
  obtain⟨hd,hw⟩:=h 0 (Nat.zero_le _)
  obtain⟨b1,b2⟩:=Io (st:=st) (a:=100) hd (by decide) (Nat.le_trans hw (by decide))
  exact .mk b1 b2 fun _ _=>ih (st:=nx st) (fun i hi=>by have:=h (i+1) (by lia); rw [je] at this; exact this) (by rw [← je]; exact he) _
theorem aj6 {s:List T} (h:T.aA s≤41):Pot 41 0 s:=⟨41,49,fun t ht=>by have:=T.iu ht; lia,by lia,by lia,by lia,by decide⟩
theorem aci {t:T}{its:List T}{N:Nat} (h:uR N ([t],[.node its])) (he:(stN N ([t],[.node its])).1=[]):∀ b,Sane b [cQ 1 t] [.node its]:=by
 have k:=acA h he
 obtain⟨hd,hw⟩:=h 0 (Nat.zero_le _)
 have h1:(T.node [t]).deep≤100:=hd.1
 have h2:(T.node [T.node its]).deep≤100:=hd.2
 have h3:T.aA [t]+T.aA [T.node its]≤1400000:=hw
 obtain⟨p1,p2⟩:=vd t 1
 rw [T.aK,T.aL,T.aZ] at h1 h2
 rw [T.aq,T.aO,T.aq,T.aO] at h3
 have g:Wlk ([cQ 1 t],[.node its]) 2 2 ([.node dW],[.node (t::its)]):=by
  have:=Ia (us:=t.kids) (t:=W 4::dW) (cs:=[]) (s:=[.node its]) (e:=([.node dW],[.node (t::its)])) (n:=1) (c:=1) (by rw [fO]; exact bQ .nil)
  exact this
 refine xG (a:=150) (w:=1500000) g ?_ (by decide) (by decide) (by decide) (by decide) k
 exact In.mk1 (by rw [T.aL,T.aZ]; lia) (by rw [T.aL,T.aZ]; lia) (by rw [T.aq,T.aO,T.aq,T.aO]; lia)
def Rch (a w N:Nat) (st e:Std):Prop:=stN N st=e∧∀ i,i≤N→In a w (stN i st)
theorem Rch.trans {a w N M:Nat}{st e f:Std} (h:Rch a w N st e) (g:Rch a w M e f):Rch a w (N+M) st f:=by
 refine⟨by rw [Pu,h.1,g.1],fun i hi=>?_⟩
 by_cases c:i≤N
 ·exact h.2 i c
 ·have:=g.2 (i - N) (by lia)
  rw [← h.1,← Pu,show N+(i - N)=i by lia] at this
  exact this
theorem Rch.one {a w:Nat}{st e:Std} (h:In a w st) (g:In a w e) (hn:nx st=e):Rch a w 1 st e:=⟨by show nx st=e; exact hn,fun i hi=>by
 rcases (by lia:i=0∨i=1) with rfl | rfl
 ·exact h
 ·show In a w (nx st); rw [hn]; exact g⟩
theorem Qc {a' w':Nat}{st e:Std}{n c:Nat} (g:Wlk st n c e):∀ a w,In a w st→4≤a→a+n≤a'→w+3 * c≤w'→Rch a' w' n st e:=by
 induction g with
 | nil=>intro a w h _ h1 h2; exact⟨rfl,fun i hi=>by rw [show i=0 by lia]; exact⟨h.1.le (by lia),Nat.le_trans h.2 (by lia)⟩⟩
 | @cons st e n c h1 h2 g ih =>
  intro a w hi h4 ha hw
  have w2:=afz h2
  have d:=W3 h4 hi.1
  have hw2:=hi.2
  obtain⟨q1,q2⟩:=ih (a+1) (w+3 * zT st) ⟨d,by lia⟩ (by lia) (by lia) (by lia)
  refine⟨by rw [je]; exact q1,fun i hi'=>?_⟩
  cases i with
  | zero=>exact⟨hi.1.le (by lia),Nat.le_trans hi.2 (by lia)⟩
  | succ i=>rw [je]; exact q2 i (by lia)
theorem ajH {t:T}{its:List T}:Wlk ([cQ 1 t],[.node its]) 2 2 ([.node dW],[.node (t::its)]):=by
 have:=Ia (us:=t.kids) (t:=W 4::dW) (cs:=[]) (s:=[.node its]) (e:=([.node dW],[.node (t::its)])) (n:=1) (c:=1) (by rw [fO]; exact bQ .nil)
 exact this
theorem ab6 {t:T}{its:List T}:Wlk ([cQ 1 t],[.node its]) 9 9 (nR [] [] [] ([t],[.node its])):=by
 have g:=afT (r:=[]) (cs:=[]) (us:=[]) (x:=t) (its:=its)
 rw [List.append_nil] at g
 exact ajH.trans g
theorem acj {its:List T} (hd:T.bM its≤10) (hp:T.aA its≤100):∃ N s,Rch 250 100000 N ([cQ 1 (.node [])],[.node its]) ([],s)∧s=[.node its]:=by
 obtain⟨p1,p2⟩:=vd (.node []) 1
 have e1:(T.node []).parts=1:=by decide
 have e2:(T.node []).deep=0:=by decide
 have v1:(T.node bB).deep≤90:=wZ.2
 have v0:(T.node eO).deep≤90:=wZ.1
 have v2:=Dn
 have i0:In 100 5000 ([cQ 1 (.node [])],[.node its]):=In.mk1 (by rw [T.aL,T.aZ]; lia) (by rw [T.aL,T.aZ,T.aK]; lia) (by rw [T.aq,T.aO,T.aq,T.aO,T.aG]; lia)
 have r1:Rch 250 100000 9 ([cQ 1 (.node [])],[.node its]) (nR [] [] [] ([.node []],[.node its])):=Qc ab6 100 5000 i0 (by decide) (by decide) (by decide)
 have ih:In 100 5000 (nR [] [] [] ([.node []],[.node its])):=by
  show In 100 5000 ([.node (bB++[])],[.node [.node []],.node [.node its]])
  rw [List.append_nil]
  exact In.mk1 (by rw [T.aL,T.aZ]; lia) (by rw [T.aL,T.aL,T.aZ,T.aK,T.aL,T.aZ,T.aK [.node its],T.aL,T.aZ,T.aK its]; lia) (by rw [T.aq,T.aO,T.aq,T.aq,T.aO,T.aG [.node []],T.aq,T.aO,T.aG [.node its],T.aq,T.aO,T.aG its]; lia)
 have ih2:In 100 9000 (.node eO::.node (bB++[])::[],[.node [.node []],.node [.node its]]):=by
  rw [List.append_nil]
  exact In.mk1 (by rw [T.aL,T.aL,T.aZ]; lia) (by rw [T.aL,T.aL,T.aZ,T.aK,T.aL,T.aZ,T.aK [.node its],T.aL,T.aZ,T.aK its]; lia) (by rw [T.aq,T.aq,T.aO,T.aq,T.aq,T.aO,T.aG [.node []],T.aq,T.aO,T.aG [.node its],T.aq,T.aO,T.aG its]; lia)
 have lift:∀ {st:Std}{w:Nat},In 100 w st→w≤100000→In 250 100000 st:=fun h hw=>⟨h.1.le (by decide),Nat.le_trans h.2 hw⟩
 have r2:Rch 250 100000 1 (nR [] [] [] ([.node []],[.node its])) (.node eO::.node (bB++[])::[],[.node [.node []],.node [.node its]]):=Rch.one (lift ih (by decide)) (lift ih2 (by decide)) (adg (by simp))
 obtain⟨n,c,hn,hc,g⟩:=Ux (top:=.node (bB++[])) (cs:=[]) (us:=[]) (tx:=[.node []]) (st:=[.node its]) (by simp)
 have hc:c≤110+0:=hc
 have g:Wlk (.node eO::.node (bB++[])::[],[.node [.node []],.node [.node its]]) n c ([.node (bB++[])],[.node [],.node [.node its]]):=g
 have r3:=Qc (a':=250) (w':=100000) g 100 9000 ih2 (by decide) (by lia) (by lia)
 have ih4:In 100 5000 ([.node (bB++[])],[.node [],.node [.node its]]):=by
  rw [List.append_nil]
  exact In.mk1 (by rw [T.aL,T.aZ]; lia) (by rw [T.aL,T.aL,T.aZ,T.aK [.node its],T.aL,T.aZ,T.aK its]; lia) (by rw [T.aq,T.aO,T.aq,T.aq,T.aO,T.aG [.node its],T.aq,T.aO,T.aG its]; lia)
 have ih5:In 101 9000 (nx ([.node (bB++[])],[.node [],.node [.node its]])):=⟨W3 (by decide) ih4.1,by
  rw [Wx]
  have e3:T.aA [.node ([W 1,W 5,W 3,W 1]++[])]≤40:=by decide
  have h4:=ih4.2
  have h4:T.aA [.node (bB++[])]+T.aA [.node [],.node [.node its]]≤5000:=h4
  show T.aA [.node ([W 1,W 5,W 3,W 1]++[])]+T.aA [.node [],.node [.node its]]≤9000
  lia⟩
 have r4:Rch 250 100000 1 ([.node (bB++[])],[.node [],.node [.node its]]) (nx ([.node (bB++[])],[.node [],.node [.node its]])):=Rch.one (lift ih4 (by decide)) ⟨ih5.1.le (by decide),Nat.le_trans ih5.2 (by decide)⟩ rfl
 have g5:=adh (cs:=[]) (st:=[.node its]) (us:=[])
 rw [List.append_nil] at r4 ih5
 have r5:=Qc (a':=250) (w':=100000) g5 101 9000 ih5 (by decide) (by decide) (by decide)
 rw [List.append_nil] at r3 r2
 exact⟨_,_,(((r1.trans r2).trans r3).trans r4).trans r5,rfl⟩
theorem ach {its:List T} (hd:T.bM its≤10) (hp:T.aA its≤100):∀ b,Sane b [cQ 2 (.node [])] [.node its]:=by
 obtain⟨N,s,⟨e1,i1⟩,es⟩:=acj hd hp
 subst es
 obtain⟨p1,p2⟩:=vd (.node []) 2
 have e2:(T.node []).parts=1:=by decide
 have e3:(T.node []).deep=0:=by decide
 have two:In 260 10000 ([.node (bB++[])],[]):=⟨ab9.1.le (by decide),ab9.2⟩
 have k4:∀ b,Sane b [.node []] [.node its]:=by
  intro b
  refine xG (a:=200) (w:=1000) (cT .nil:Wlk ([.node []],[.node its]) 1 1 ([],[.node its])) ?_ (by decide) (by decide) (by decide) (by decide) ?_ b
  ·exact In.mk1 (by rw [T.aL,T.aZ,T.aK,T.aZ]; lia) (by rw [T.aL,T.aZ,T.aK]; lia) (by rw [T.aq,T.aO,T.aG,T.aO,T.aq,T.aO,T.aG]; lia)
  ·intro b
   obtain⟨b1,b2⟩:=okIn (st:=([],[.node its])) (a:=200) (w:=1000) (In.mk1 (by rw [T.aZ]; lia) (by rw [T.aL,T.aZ,T.aK]; lia) (by rw [T.aO,T.aq,T.aO,T.aG]; lia)) (by decide) (by decide)
   exact .mk b1 b2 fun z=>absurd rfl z
 have k3:∀ b,Sane b [.node (bB++[])] [.node [cQ 1 (.node [])],.node [.node its]]:=by
  refine YK (r:=[]) (cs:=[]) (us:=[]) (a:=260) (w:=100000) (w1:=10000) (X:=100010) (by decide) (by decide) (by decide) two (N:=N) (d:=([cQ 1 (.node [])],[.node its])) (fun i hi=>⟨⟨(i1 i hi).1.le (by decide),(i1 i hi).2⟩,?_⟩) (by rw [e1]) (fun i hi h0 b=>?_)
  ·have hx:=Wy (stN i ([cQ 1 (.node [])],[.node its])).1 (stN i ([cQ 1 (.node [])],[.node its])).2
   have hw:=(i1 i hi).2
   have hx:lV (stN i ([cQ 1 (.node [])],[.node its])).1 (stN i ([cQ 1 (.node [])],[.node its])).2≤wt (stN i ([cQ 1 (.node [])],[.node its]))+1:=hx
   lia
  ·have e:=Pu i (N - i) ([cQ 1 (.node [])],[.node its])
   rw [show i+(N - i)=N by lia,e1,Zq _ h0] at e
   rw [← e]
   exact k4 b
 have g:Wlk ([cQ 2 (.node [])],[.node its]) 9 9 (nR [] [] [] ([cQ 1 (.node [])],[.node its])):=ab6 (t:=cQ 1 (.node []))
 refine xG (a:=260) (w:=20000) g ?_ (by decide) (by decide) (by decide) (by decide) k3
 exact In.mk1 (by rw [T.aL,T.aZ]; lia) (by rw [T.aL,T.aZ,T.aK]; lia) (by rw [T.aq,T.aO,T.aq,T.aO,T.aG]; lia)
open PySem PySem.Spec PyProof.Rows L2
section
variable {X:Cx}{o e value:Expr}{f:Str}{pos pos':Pos}{ta tv:TE}
theorem bH (he:QE X e ta) (hb:attributeBase e f X.env (eval e X.env)=eval e X.env):QE X (.Attribute e f pos) (tFld X.K ta f):=⟨pe_fld he.run hb⟩
theorem fM (ha:QE X o ta) (hv:QE X value tv) (hs:swapsWith value (some (.Attribute o f pos')) pos.line X.env=pure false):QS X (.Assign [.Attribute o f pos'] value pos) (sFld X.K ta tv f):=⟨ps_fld ha.run hv.run hs⟩
end
section
variable {X:Cx}{CX:CXT}{k:Nat}{f C:Addr}{fd:FuncData}{ps:List Str}{sp:Sp}{dvs:List V}{ds:List Value}{E:XK}{m x:Str}{p apos pos:Pos}{o e:Expr}{es:List Expr}{ta:TE}{t:TA}
theorem Z4 {pl:Sem Bool} (he:QE X o ta) (c:Cls X.K C) (hm:Meth X.K C m f) (F:FnOk X.prog X.w X.K X.mg X.base CX k f fd ps sp) (hr:Room k X.A) (hb:Binds X.K fd ps ds) (hd:Vals dvs ds) (hx:Passes CX X E) (ha:QA X (e::es) t)
  (hst:starEach (e::es) X.env=(false,eval e X.env)::starEach es X.env:=by rfl) (hpl:(backTo pos (starEach es X.env)).any (·.1)=false:=by rfl)
  (ht:eval (.Call (.Attribute o m apos) (e::es) [] pos) X.env=(do
   let ov ← eval o X.env
   standAt apos.atName
   let (f,first) ← holding [ov] (getMethod ov m pl)
   callWith pos f first (backTo pos (starEach (e::es) X.env)) (backToKw pos (keywordEach [] X.env))):=by rfl):QE X (.Call (.Attribute o m apos) (e::es) [] pos) (tMeth C m sp dvs E ta t):=⟨pe_meth (pl:=pl) he.run c hm F hr hb hd hx ha.run hst hpl ht⟩
theorem oR {pl:Sem Bool} (he:QE X o ta) (c:Cls X.K C) (hm:Meth X.K C m f) (F:FnOk X.prog X.w X.K X.mg X.base CX k f fd ps sp) (hr:Room k X.A) (hb:Binds X.K fd ps ds) (hd:Vals dvs ds) (hx:Passes CX X E)
  (ht:eval (.Call (.Attribute o m apos) [] [] pos) X.env=(do
   let ov ← eval o X.env
   standAt apos.atName
   let (f,first) ← holding [ov] (getMethod ov m pl)
   callWith pos f first (backTo pos (starEach [] X.env)) (backToKw pos (keywordEach [] X.env))):=by rfl):QE X (.Call (.Attribute o m apos) [] [] pos) (tMeth C m sp dvs E ta tNil):=⟨aeB (pl:=pl) he.run c hm F hr hb hd hx ht⟩
end
section
variable {R P:Addr}{nm:List Nat}
end
section
variable {K:PySem.W.Frag}{C:Addr}{H₀ H:Hp}{o dx R P:Addr}{ys:List V}{st:List (List T)}{pl:List (List Nat)}{nm:List Nat}
theorem acC {H':Hp}{p:Addr} (h:Ef K H₀ H p st ys) (S:Same H H'):Ef K H₀ H' p st ys :=
 ⟨h.new,h.same.trans S,S _ _ h.at_,h.rows.imp fun _ _ ⟨a,xs,e,h1,h2,h3⟩=>⟨a,xs,e,h1,S _ _ h2,h3.mono (.of S)⟩,h.nd⟩
theorem acE {p q:Addr}{x:HO} (h:Ef K H₀ H p st ys) (k:Kt H (upd H q x)) (h0:H₀ q=none) (hn:(.ref q:V) ∉ (.ref p:V)::ys):Ef K H₀ (upd H q x) p st ys :=
 ⟨h.new,eX h.same h0,by rw [upd_ne (fun z=>hn (by rw [z]; exact List.mem_cons_self))]; exact h.at_,xY k h.rows fun z=>hn (List.mem_cons_of_mem _ z),h.nd⟩
theorem Kt.ins {C' dx':Addr}{fs:List (Str×V)}{x:HO} (h:H o=some (.ins C' dx' fs)):Kt H (upd H o x) :=
 ⟨fun b xs e=>by rw [upd_ne (fun z=>by rw [z,h] at e; cases e)]; exact e,fun b _ _ e=>by rw [upd_ne (fun z=>by rw [z,h] at e; cases e)]; exact e⟩
end
end Sw
namespace SwR
open PySem PySem.Spec PyProof.Rows L2 Sw
def abS (K:PySem.W.Frag) (a:Addr) (n:Nat):It :=
 ⟨fun i H=>∃ xs x,SqT K H a xs∧xs.length=n∧xs.reverse[i]?=some x,fun i H v H'=>H'=H∧∀ xs,SqT K H a xs→xs.reverse[i]?=some v,fun i H=>∃ xs,SqT K H a xs∧xs.length=n∧n=i⟩
theorem Vl {α:Type}{xs:List α}{i:Nat}{x:α} (h:xs.reverse[i]?=some x):i<xs.length∧xs[xs.length - 1 - i]?=some x:=by
 have hi:i<xs.length:=by have:=(List.getElem?_eq_some_iff.mp h).1; simpa using this
 exact⟨hi,by rw [List.getElem?_reverse hi] at h; exact h⟩
theorem ab_ {P:Program}{w:World}{K:PySem.W.Frag}{tg:Expr} (a it:Addr) (n:Nat) (hne:a≠it):Turn P w K tg (abS K a n) [it] it (fun i h=>RvO h it a ((n:Int) - 1 - (i:Int))) where
 mem:=by simp
 obj:=fun i h st b hb=>by
  have e:b=it:=by simpa using hb
  subst e
  obtain⟨o,ho,hc,hd⟩:=st
  exact⟨o,ho,fun v z=>by rw [hd] at z; cases z⟩
 keep:=fun i h h' st k=>st.keep fun o e=>k it (by simp) o e
 item:=by
  intro X hP hw hK hc i pins s σ H E I hf st hg
  subst hP hw hK
  obtain⟨xs,x,hq,hn,hx⟩:=hg
  obtain⟨hi,hx'⟩:=Vl hx
  obtain⟨its,rv,p,hz⟩:=I.tuple hq
  obtain⟨u,hu,ru⟩:=rv.get hx'
  obtain⟨f0,f1,f2,f3,f4,f5⟩:=hf it (by simp)
  have hl:=rv.length
  have e1:(n:Int) - 1 - (i:Int)=((xs.length - 1 - i:Nat):Int):=by lia
  rw [e1] at st
  refine next_item (items:=its.toArray) st p (x:=u) (by simpa using hu) (by rw [List.size_toArray]; lia) hne fun h' tk st' sb=>?_
  have e2:((xs.length - 1 - i:Nat):Int) - 1=(n:Int) - 1 - ((i+1:Nat):Int):=by lia
  rw [e2] at st'
  have I1:Inv X pins σ H { s with heap:=h',toks:=tk }:=I.turned (fun b o hb e=>(sb.2 b hb).trans e) f0 f1 f3 f4 f5
  obtain⟨o,e,c,d⟩:=id st'
  exact⟨u,rfl,go_of (s:={ s with heap:=h',toks:=tk }) e c d (by decide) ⟨x,H,I1,ru,⟨rfl,fun ys hy=>by rw [I.u_ hy hq]; exact hx⟩,st',fun b hb=>(hf b hb).1⟩⟩
 done:=by
  intro X hP hw hK hc i pins s σ H E I hf st hg
  subst hP hw hK
  obtain⟨xs,hq,hn,hx⟩:=hg
  obtain⟨f0,f1,f2,f3,f4,f5⟩:=hf it (by simp)
  have e1:(n:Int) - 1 - (i:Int)=-1:=by lia
  rw [e1] at st
  exact next_end (I.ok.hd hc) st fun h' eb=>⟨rfl,I.turned (t':=s.toks) (fun b o hb e=>eb b o hb e) f0 f1 f3 f4 f5⟩
 self:=fun _ _ _ _ _ st h=>zP st h
def afK (K:PySem.W.Frag) (tl:TE):TI:=fun σ H R=>tl σ H fun x H1=>∃ a xs,x=.ref a∧SqT K H1 a xs∧R (abS K a xs.length) H1
theorem agi {X:Cx}{tg l:Expr}{tl:TE}{p pos:Pos} (hg:Gl X "reversed") (hm:X.mg "reversed"=none) (hl:PE X l tl) (hs:starEach [l] X.env=[(false,eval l X.env)]:=by rfl):PI X tg (.Call (.Name "reversed" p) [l] [] pos) (afK X.K tl):=by
 intro pins s σ H R I h
 refine wpAny_Call_Name_kw (ld_blt I hg hm uV ?_)
 refine PyProof.Rows.callWith_type1 ?_ (by rw [hs]; rfl) (by rfl)
 rw [hs]
 refine Calls.spliced_cons (thn (hl pins s σ H _ I h) fun v s1 ⟨x,H1,I1,r1,q1⟩=>Calls.spliced_nil ?_)
 obtain⟨a,xs,rfl,hq,q⟩:=q1
 cases r1
 obtain⟨its,rv,ht,hz⟩:=I1.tuple hq
 have hlen:=rv.length
 have la:a<s1.heap.objs.size:=let ⟨_,ho,_⟩:=ht; Heap.lt_size ho
 refine Xj ht (by rw [List.size_toArray]; lia) fun tk=>?_
 have hit:RvO (s1.heap.push { cls:=.type "reversed",data:=.fields #[.ref a,rawInt ((its.toArray.size:Int) - 1)] }) s1.heap.objs.size a ((its.toArray.size:Int) - 1):=⟨_,Heap.get?_push_size _ rfl,rfl,rfl⟩
 refine zP (s:={ s1 with heap:=s1.heap.push { cls:=.type "reversed",data:=.fields #[.ref a,rawInt ((its.toArray.size:Int) - 1)] },toks:=tk }) hit ?_
 refine⟨s1.heap.objs.size,[s1.heap.objs.size],_,abS X.K a xs.length,H1,rfl,I1.kept fun b o e=>Heap.get?_push_of_some _ e,ab_ a _ xs.length (Nat.ne_of_lt la),?_,fun b hb=>?_,q⟩
 ·have e1:(xs.length:Int) - 1 - ((0:Nat):Int)=(its.toArray.size:Int) - 1:=by rw [List.size_toArray]; lia
  show RvO _ _ _ ((xs.length:Int) - 1 - ((0:Nat):Int))
  rw [e1]
  exact hit
 ·have e:b=s1.heap.objs.size:=by simpa using hb
  subst e
  exact I1.fpOk (Nat.le_refl _) (I1.hok.fresh (Nat.le_refl _))
theorem xQ:Slot "list_reverseiterator" "__next__" "list_reverseiterator.__next__":=.of (owner:="list_reverseiterator") (n:="__next__") (by rw [typeLookup_type,builtinLookup_eq_fast]; kernel_rfl) (by decide +kernel) (by decide +kernel) (by decide +kernel) (by first | exact .inl (by decide +kernel) | exact .inr (by decide +kernel)) (by rw [isSubtype_type]; kernel_rfl)
theorem WK:entryFor table "list_reverseiterator.__next__"=some Builtin.«list_reverseiterator.__next__»:=entryFor_of_tree (by kernel_rfl)
theorem Xy (a:Value):argsOk "list_reverseiterator.__next__" ⟨[a],[]⟩:=by unfold argsOk; kernel_rfl
theorem Va:Slot "list_reverseiterator" "__iter__" "list_reverseiterator.__iter__":=.of (owner:="list_reverseiterator") (n:="__iter__") (by rw [typeLookup_type,builtinLookup_eq_fast]; kernel_rfl) (by decide +kernel) (by decide +kernel) (by decide +kernel) (by first | exact .inl (by decide +kernel) | exact .inr (by decide +kernel)) (by rw [isSubtype_type]; kernel_rfl)
theorem afp (a:Value):argsOk "list_reverseiterator.__iter__" ⟨[a],[]⟩:=by unfold argsOk; kernel_rfl
theorem afa:entryFor table "list_reverseiterator.__iter__"=some Builtin.«dict_keyiterator.__iter__»:=entryFor_alias (id':="dict_keyiterator.__iter__") (by kernel_rfl) (by first | rfl | decide +kernel) (by decide +kernel) (by kernel_rfl)
def RlO (h:Heap) (p a:Addr) (i:Int):Prop:=∃ o,h.get? p=some o∧o.cls=.type "list_reverseiterator"∧o.data=.fields #[.ref a,rawInt i]
theorem RlO.typeIs {s:Shared}{p a:Addr}{i:Int} (x:RlO s.heap p a i):s.TypeIs (.ref p) "list_reverseiterator":=let ⟨o,ho,hc,_⟩:=x; ⟨o,ho,hc⟩
theorem RlO.keep {h h':Heap}{p a:Addr}{i:Int} (x:RlO h p a i) (e:∀ o,h.get? p=some o→h'.get? p=some o):RlO h' p a i:=let ⟨o,ho,r⟩:=x; ⟨o,e _ ho,r⟩
section
variable {prog:Program}{w:World}{A:Around}{E:Value→Shared→Prop}{s:Shared}
theorem ac1 {it a:Addr}{Q:Option Value→Shared→Prop} (hh:A.handled=none) (hit:RlO s.heap it a (-1))
  (hQ:∀ h',Heap.ExtBut it s.heap h'→Q none { s with heap:=h' }):wpAny (model prog w) A (pyNext (.ref it)) Q E s:=by
 obtain⟨o,ho,hc,hd⟩:=id hit
 unfold pyNext
 refine wpAny_bind (wpAny_attempt (wpAny_callSpecial?_slot (name:=Str.ofString "__next__") hit.typeIs xQ (wpAny_call_entry xQ hit.typeIs WK ?_ (Xy _))))
 unfold Builtin.«list_reverseiterator.__next__»
 refine wpAny_bind (wpAny_of_eq (a:=(Value.ref it,[])) rfl ?_)
 dsimp only
 refine wpAny_bind (wpAny_field ho hd (x:=rawInt (-1)) rfl ?_)
 show wpAny _ _ (if (-1:Int)<0 then _ else _) _ _ s
 rw [if_pos (by decide)]
 refine wpAny_bind (wpAny_rule ?_)
 refine wpAny_bind ?_
 unfold Builtin.SmallTypes.stopIteration
 refine wpAny_bind ?_
 simp only [newExc,newTuple]
 refine wpAny_bind (wpAny_newObj_type ?_ (by size_fits)); refine wpAny_bind (m:=firstArgMember _ _) (wpAny_of_eq (a:=Value.none) (by first | rfl | (simp only [firstArgMember]; rfl)) ?_); refine wpAny_newObj_type ?_ (by size_fits)
 simp only [raiseNew]; refine wpAny_bind (wpAny_handled ?_)
 first | rw [show A.in1.handled=none from hh] | rw [hh]
 refine wpAny_bind (wpAny_pure (wpAny_throw ?_)); refine wpAny_bind (wpAny_isInstance (T:="StopIteration") (b:=true) ⟨_,Heap.get?_push_size _ rfl,rfl⟩ isSubtype_stop (wpAny_pure (hQ _ ?_)))
 intro b ob hb e
 exact Heap.get?_push_of_some _ (Heap.get?_push_of_some _ e)
theorem N6 {it a:Addr}{i:Int}{Q:Value→Shared→Prop} (hit:RlO s.heap it a i) (h:Q (.ref it) s):wpAny (model prog w) A (pyIter (.ref it)) Q E s:=by
 refine wpAny_pyIter_slot hit.typeIs Va (wpAny_call_entry Va hit.typeIs afa ?_ (afp _))
 show wpAny _ _ (ret (.ref it)) _ _ s
 exact wpAny_pure ⟨_,rfl,"list_reverseiterator",_,hit.typeIs,xQ.lookup,h⟩
end
end SwR
namespace Sw
open PySem PySem.Spec PyProof.Rows L2
section
variable {prog:Program}{w:World}{A:Around}{E:Value→Shared→Prop}{s:Shared}{K:PySem.W.Frag}{x y C:Addr}{ox:Obj}{od:Option Obj}{items:Array Value}
theorem abG {Q:Value→Shared→Prop} (kin:K.In s.heap) (J:PySem.W.InstAt s.heap x ox C od) (hm:PySem.W.mroIn K C (.type "object")=some true) (hxy:x≠y) {oy:Obj} (hy:s.heap.get? y=some oy) (h:Q .notImplemented s) :
  wpAny (model prog w) A (call (.builtin "object.__eq__") [.ref x,.ref y]) Q E s:=by
 refine wpAny_call (codeAny_call_builtin (by decide +kernel) F.cmpEntry_eq ?_)
 unfold checkBuiltinCall
 rw [F.cmpKind_eq,F.cmpSplit_eq]
 dsimp only
 refine wpAny_bind ?_
 unfold isInstance
 refine wpAny_bind (J.type _ _ _ s (fun _ _ e=>e) ?_)
 refine PySem.W.looks_mroIn kin hm _ _ _ s (fun _ _ e=>e) ?_
 rw [if_neg (by decide)]
 refine wpAny_of_eq (F.cmpArgs_eq (.ref x) (.ref y)) ?_
 unfold Builtin.«object.__eq__»
 refine wpAny_bind (wpAny_of_eq (a:=(Value.ref x,[Value.ref y])) rfl ?_)
 dsimp only
 refine wpAny_bind (wpAny_isSame_ref_other hxy J.at_ hy (by rw [J.cls]; exact fun z=>nomatch z) ?_)
 rw [if_neg (by decide)]
 exact wpAny_pure h
theorem abF {Q:Value→Shared→Prop} (kin:K.In s.heap) (J:PySem.W.InstAt s.heap x ox C od) (hm:PySem.W.mroIn K C (.type "tuple")=some false) (ht:s.TypeIs (.ref y) "tuple") (h:Q .notImplemented s) :
  wpAny (model prog w) A (call (.builtin "tuple.__eq__") [.ref y,.ref x]) Q E s:=by
 refine wpAny_call_entry F.slot_tuple_eq ht F.entry_tuple_eq ?_ (F.args_tuple_eq_2 _ _)
 unfold Builtin.«tuple.__eq__»
 wp_delta
 refine wpAny_bind (wpAny_of_eq (a:=(Value.ref y,[Value.ref x])) rfl ?_)
 dsimp only
 refine wpAny_bind ?_
 unfold isInstance
 refine wpAny_bind (J.type _ _ _ s (fun _ _ e=>e) ?_)
 refine PySem.W.looks_mroIn kin hm _ _ _ s (fun _ _ e=>e) ?_
 rw [if_pos (by decide)]
 exact wpAny_pure ⟨_,rfl,h⟩
theorem abu {Q:Value→Shared→Prop} (hu:A.units<cLine) (kin:K.In s.heap) (J:PySem.W.InstAt s.heap x ox C od) (he:PySem.W.findIn K (.ref C) "__eq__"=some (some (.builtin "object.__eq__"))) (hm:PySem.W.mroIn K C (.type "object")=some true)
  (hmt:PySem.W.mroIn K C (.type "tuple")=some false) (hsub:PySem.W.subIn K (.type "tuple") (.ref C)=some false) (hxy:x≠y) {oy:Obj} (hy:s.heap.get? y=some oy) (hc:oy.cls=.type "tuple") (h:Q (.bool false) s) :
  wpAny (model prog w) A (compareOp .Eq (.ref x) (.ref y)) Q E s:=by
 have ht:s.TypeIs (.ref y) "tuple":=⟨oy,hy,hc⟩
 show wpAny _ _ (richCompare .Eq (.ref x) (.ref y)) _ _ _
 unfold richCompare
 refine wpAny_holding (wpAny_bind (wpAny_cRoomFor hu ?_))
 rw [show oneThing? CmpOp.Eq (Value.ref x) (Value.ref y)=none from rfl]
 show wpAny _ _ (typeOf (.ref x) >>= _) _ _ _
 refine wpAny_bind (J.type _ _ _ s (fun _ _ e=>e) ?_)
 refine wpAny_bind (wpAny_typeOf ht ?_)
 rw [if_pos (by rfl)]
 refine wpAny_bind (PySem.W.looks_subIn kin hsub _ _ _ s (fun _ _ e=>e) ?_)
 show wpAny _ _ (tryCompare (.ref x) (Str.ofString "__eq__") (.ref y) >>= _) _ _ _
 have akr:∀ {Q':Option Value→Shared→Prop},Q' none s→wpAny (model prog w) A (tryCompare (.ref x) (Str.ofString "__eq__") (.ref y)) Q' E s:=fun {Q'} q=>by
  unfold tryCompare
  refine wpAny_bind ?_
  unfold callSpecialIfBound?
  refine wpAny_holding (wpAny_bind ?_)
  unfold bindSpecialIfBound?
  refine wpAny_bind ?_
  unfold specialOf
  refine wpAny_bind (J.type _ _ _ s (fun _ _ e=>e) ?_)
  refine PySem.W.looks_findIn kin he _ _ _ s (fun _ _ e=>e) ?_
  dsimp only
  have hb:bindSpecial (.builtin "object.__eq__") (.ref x)=pure (.builtin "object.__eq__",[.ref x]):=F.slot_object_eq.bind _
  rw [hb]
  have fin:wpAny (model prog w) A (call (.builtin "object.__eq__") ([.ref x]++[.ref y])) (fun v s1=>wpAny (model prog w) A (pure (some v)) (fun a s'=>wpAny (model prog w) A (match a with | some .notImplemented=>pure none | none=>pure none | some v=>pure (some v)) Q' E s') E s1) E s :=
   abG kin J hm hxy hy (wpAny_pure (wpAny_pure q))
  refine wpAny_bind (wpAny_askSetting ?_)
  split
  ·exact wpAny_bind (wpAny_pure (wpAny_pure (wpAny_bind fin)))
  ·exact wpAny_tryCatch (wpAny_bind (wpAny_pure (wpAny_pure (wpAny_bind fin))))
 refine wpAny_bind (akr ?_)
 show wpAny _ _ (tryCompare (.ref y) (Str.ofString "__eq__") (.ref x) >>= _) _ _ _
 refine wpAny_bind (wpAny_tryCompare_declines ht F.slot_tuple_eq (abF kin J hmt ht ⟨rfl,?_⟩))
 refine wpAny_bind (wpAny_rule ?_)
 exact wpAny_bind (wpAny_isSame_ref_other hxy J.at_ hy (by rw [J.cls]; exact fun z=>nomatch z) (wpAny_pure h))
end
end Sw
namespace SwR
open PySem PySem.Spec PyProof.Rows L2 Sw
def X6 (K:PySem.W.Frag) (a:Addr) (n:Nat):It :=
 ⟨fun i H=>∃ xs x,SqL K H a xs∧xs.length=n∧xs.reverse[i]?=some x,fun i H v H'=>H'=H∧∀ xs,SqL K H a xs→xs.reverse[i]?=some v,fun i H=>∃ xs,SqL K H a xs∧xs.length=n∧n=i⟩
theorem aa2 {prog:Program}{w:World}{A:Around}{E:Value→Shared→Prop}{s:Shared}{it a:Addr}{i:Nat}{items:Array Value}{x:Value}{Q:Option Value→Shared→Prop} (hit:RlO s.heap it a (i:Int)) (ht:PlainL s.heap a items) (hx:items[i]?=some x)
  (hQ:∀ h' tk,RlO h' it a ((i:Int) - 1)→Heap.SameBut it s.heap h'→Q (some x) { s with heap:=h',toks:=tk }):wpAny (model prog w) A (pyNext (.ref it)) Q E s:=by
 obtain⟨o,ho,hc,hd⟩:=id hit
 obtain⟨ol,nn,hol,hcl,hdl,hsl⟩:=ht
 unfold pyNext
 refine wpAny_bind (wpAny_attempt (wpAny_callSpecial?_slot (name:=Str.ofString "__next__") hit.typeIs xQ (wpAny_call_entry xQ hit.typeIs WK ?_ (Xy _))))
 unfold Builtin.«list_reverseiterator.__next__»
 refine wpAny_bind (wpAny_of_eq (a:=(Value.ref it,[])) rfl ?_)
 dsimp only
 refine wpAny_bind (wpAny_field ho hd (x:=rawInt (i:Int)) rfl ?_)
 show wpAny _ _ (if (i:Int)<0 then _ else _) _ _ s
 rw [if_neg (by lia)]
 refine wpAny_bind (wpAny_field ho hd (x:=.ref a) rfl ?_)
 refine wpAny_bind (wpAny_seqItems hol hsl ?_)
 dsimp only
 rw [show items[Int.toNat (i:Int)]?=some x by rw [Int.toNat_natCast]; exact hx]
 dsimp only
 refine wpAny_bind (wpAny_setField ho hd (by simp) ?_)
 refine wpAny_pure ⟨x,rfl,wpAny_pure (hQ _ _ ?_ (Heap.SameBut.update ..))⟩
 exact⟨_,Heap.get?_update_self _ ho (Obj.isFreed_of_fields (Obj.data_mapFields hd _)),(Obj.cls_mapFields ..).trans hc,by rw [Obj.data_mapFields hd]; simp⟩
theorem acd {P:Program}{w:World}{K:PySem.W.Frag}{tg:Expr} (a it:Addr) (n:Nat):Turn P w K tg (X6 K a n) [it] it (fun i h=>RlO h it a ((n:Int) - 1 - (i:Int))) where
 mem:=by simp
 obj:=fun i h st b hb=>by
  have e:b=it:=by simpa using hb
  subst e
  obtain⟨o,ho,hc,hd⟩:=st
  exact⟨o,ho,fun v z=>by rw [hd] at z; cases z⟩
 keep:=fun i h h' st k=>st.keep fun o e=>k it (by simp) o e
 item:=by
  intro X hP hw hK hc i pins s σ H E I hf st hg
  subst hP hw hK
  obtain⟨xs,x,hq,hn,hx⟩:=hg
  obtain⟨hi,hx'⟩:=Vl hx
  obtain⟨its,rv,p,hz⟩:=I.list hq
  obtain⟨u,hu,ru⟩:=rv.get hx'
  obtain⟨f0,f1,f2,f3,f4,f5⟩:=hf it (by simp)
  have hl:=rv.length
  have e1:(n:Int) - 1 - (i:Int)=((xs.length - 1 - i:Nat):Int):=by lia
  rw [e1] at st
  refine aa2 (items:=its.toArray) st p (x:=u) (by simpa using hu) fun h' tk st' sb=>?_
  have e2:((xs.length - 1 - i:Nat):Int) - 1=(n:Int) - 1 - ((i+1:Nat):Int):=by lia
  rw [e2] at st'
  have I1:Inv X pins σ H { s with heap:=h',toks:=tk }:=I.turned (fun b o hb e=>(sb.2 b hb).trans e) f0 f1 f3 f4 f5
  obtain⟨o,e,c,d⟩:=id st'
  exact⟨u,rfl,go_of (s:={ s with heap:=h',toks:=tk }) e c d (by decide) ⟨x,H,I1,ru,⟨rfl,fun ys hy=>by rw [I.list_inj hy hq]; exact hx⟩,st',fun b hb=>(hf b hb).1⟩⟩
 done:=by
  intro X hP hw hK hc i pins s σ H E I hf st hg
  subst hP hw hK
  obtain⟨xs,hq,hn,hx⟩:=hg
  obtain⟨f0,f1,f2,f3,f4,f5⟩:=hf it (by simp)
  have e1:(n:Int) - 1 - (i:Int)=-1:=by lia
  rw [e1] at st
  exact ac1 (I.ok.hd hc) st fun h' eb=>⟨rfl,I.turned (t':=s.toks) (fun b o hb e=>eb b o hb e) f0 f1 f3 f4 f5⟩
 self:=fun _ _ _ _ _ st h=>N6 st h
def afL (K:PySem.W.Frag) (tl:TE):TI:=fun σ H R=>tl σ H fun x H1=>∃ a xs,x=.ref a∧SqL K H1 a xs∧R (X6 K a xs.length) H1
theorem agj {X:Cx}{tg l:Expr}{tl:TE}{p pos:Pos} (hg:Gl X "reversed") (hm:X.mg "reversed"=none) (hl:PE X l tl) (hs:starEach [l] X.env=[(false,eval l X.env)]:=by rfl):PI X tg (.Call (.Name "reversed" p) [l] [] pos) (afL X.K tl):=by
 intro pins s σ H R I h
 refine wpAny_Call_Name_kw (ld_blt I hg hm uV ?_)
 refine PyProof.Rows.callWith_type1 ?_ (by rw [hs]; rfl) (by rfl)
 rw [hs]
 refine Calls.spliced_cons (thn (hl pins s σ H _ I h) fun v s1 ⟨x,H1,I1,r1,q1⟩=>Calls.spliced_nil ?_)
 obtain⟨a,xs,rfl,hq,q⟩:=q1
 cases r1
 obtain⟨its,rv,ht,hz⟩:=I1.list hq
 have hlen:=rv.length
 refine call_reversed_list ht.isList ?_
 have hit:RlO (s1.heap.push (revObj a ((its.toArray.size:Int) - 1))) s1.heap.objs.size a ((its.toArray.size:Int) - 1):=⟨_,Heap.get?_push_size _ rfl,rfl,rfl⟩
 refine N6 (s:={ s1 with heap:=s1.heap.push (revObj a ((its.toArray.size:Int) - 1)) }) hit ?_
 refine⟨s1.heap.objs.size,[s1.heap.objs.size],_,X6 X.K a xs.length,H1,rfl,I1.kept fun b o e=>Heap.get?_push_of_some _ e,acd a _ xs.length,?_,fun b hb=>?_,q⟩
 ·have e1:(xs.length:Int) - 1 - ((0:Nat):Int)=(its.toArray.size:Int) - 1:=by rw [List.size_toArray]; lia
  show RlO _ _ _ ((xs.length:Int) - 1 - ((0:Nat):Int))
  rw [e1]
  exact hit
 ·have e:b=s1.heap.objs.size:=by simpa using hb
  subst e
  exact I1.fpOk (Nat.le_refl _) (I1.hok.fresh (Nat.le_refl _))
end SwR
namespace Sw
open PySem PySem.Spec PyProof.Rows L2
structure X3 (K:PySem.W.Frag) (C:Addr):Prop where
 cl:Cls K C
 eq:PySem.W.findIn K (.ref C) "__eq__"=some (some (.builtin "object.__eq__"))
 ob:PySem.W.mroIn K C (.type "object")=some true
 tu:PySem.W.mroIn K C (.type "tuple")=some false
 sb:PySem.W.subIn K (.type "tuple") (.ref C)=some false
 ca:PySem.W.findIn K (.ref C) "__class__"=some (some (.builtin "object.__class__"))
 cn:PySem.W.specialIn K (.builtin "object.__class__") "__get__"=some (some (.builtin "getset_descriptor.__get__"))
 ct:PySem.W.takesIn K (.builtin "object.__class__")=some true
theorem X3.ty {K:PySem.W.Frag}{C a dx:Addr}{fs:List (Str×V)}{H:Hp} (r:X3 K C) (h:H a=some (.ins C dx fs)):TyOf K H (.ref a) (.ref C):=.ins h r.cl r.ca r.cn r.ct r.ob
section
variable {X:Cx}
def acF (K:PySem.W.Frag) (n:Nat):R2:=fun x y H Q=>(∃ t u,TR K H t x∧TR K H u y∧t.deep≤n∧Q (.bl (T.beq t u)) H)∨∃ a C dx fs b ys,x=.ref a∧H a=some (.ins C dx fs)∧X3 K C∧y=.ref b∧H b=some (.tup ys)∧Q (.bl false) H
theorem Vw {n:Nat} (hu:X.A.units+n<cLine):OpR X (compareOp .Eq) (acF X.K n):=by
 intro pins s σ H x y v u Q I rx ry h
 rcases h with h | ⟨a,C,dx,fs,b,ys,rfl,ha,r,rfl,hb,q⟩
 ·exact BJ hu pins s σ H x y v u Q I rx ry h
 ·cases (show v=Value.ref a from rx)
  cases (show u=Value.ref b from ry)
  obtain⟨mA,O,_⟩:=ins_get I.hok ha
  obtain⟨od,J,_⟩:=O.look
  obtain⟨_,_,_,p⟩:=(show ObjOk X.prog X.w H s.heap b (.tup ys) from I.hok b _ hb)
  obtain⟨o,h1,h2,_⟩:=p
  exact abu (by lia) I.kIn J r.eq r.ob r.tu r.sb (fun z=>by rw [z,hb] at ha; cases ha) h1 h2 ⟨.bl false,H,I,rfl,q⟩
theorem jL:CallR X (.builtin "isinstance") (fun xs H Q=>∃ x D b,xs=[x,.ref D]∧((∃ t,TyOf X.K H x t∧PySem.W.kitOne X.K t (.ref D)=some b)∨(∃ a ys,x=.ref a∧SqT X.K H a ys∧PySem.W.kitOne X.K (.type "tuple") (.ref D)=some b))∧Q (.bl b) H):=by
 intro pins s σ H xs us Q I r h
 obtain⟨x,D,b,rfl,h,q⟩:=h
 obtain⟨u,w',rfl,r1,r2⟩:=vals2 r
 cases (show w'=Value.ref D from r2)
 rcases h with⟨t,ty,e⟩ | ⟨a,ys,rfl,hq,e⟩
 ·exact adf I r1 ty e fun tk=>⟨.bl b,H,I.tok tk,rfl,q⟩
 ·cases r1
  obtain⟨its,_,⟨o,h1,h2,_⟩,_⟩:=I.tuple hq
  exact PySem.W.kia_one PySem.W.kitx_tuple I.kIn ⟨o,h1,h2⟩ e (fun z=>nomatch z) fun tk=>⟨.bl b,H,I.tok tk,rfl,q⟩
def aes:V→List V→Hp→VK→Prop:=fun x vs H Q=>∃ l xs y,x=.ref l∧vs=[.int 0,y]∧H l=some (.lst xs)∧xs.length<sizeLine∧Q .non (upd H l (.lst (y::xs)))
theorem aa7:MtM X "list.insert" aes:=by
 intro pins s σ H x vs v us Q I rx rv h
 obtain⟨l,xs,y,rfl,rfl,hH,hz,q⟩:=h
 cases rx
 obtain⟨u0,u,rfl,r0,ru⟩:=vals2 rv
 obtain⟨t,rfl⟩:=r0
 obtain⟨z,its,n,r,hl,e⟩:=I.lstM hH
 refine call_meets F.slot_list_insert ⟨_,e,rfl⟩ F.entry_list_insert (F.args_list_insert_3 _ _ _) (AutoSeq1.list_insert_list_int_val_1 l its.toArray n 0 t u (by decide) (by rw [List.size_toArray]; lia)) ⟨e,?_⟩
 refine⟨.non,_,I.Wi (its':=u::its) hH e (by simp) (.cons ru r) ?_,rfl,q⟩
 rw [List.length_cons]
 lia
theorem Lw:afv X (rIxL X.K):=by
 intro pins s σ H x y v u Q I rx ry h
 obtain⟨p,xs,i,z,rfl,rfl,hq,he,q⟩:=h
 cases rx
 obtain⟨t,rfl⟩:=ry
 obtain⟨its,r,pl,hz⟩:=I.list hq
 obtain⟨j,h1,h2,h3,h4,h5⟩:=atI_get he
 obtain⟨w,ew,rw'⟩:=r.get h2
 have hl:=r.length
 have hn:=line63
 have fin:EP X pins σ Q w s:=⟨z,H,I,rw',q⟩
 by_cases h0:0≤i
 ·have hj:i.toNat=j:=by
   rw [seqIndex_of h0 h5] at h1
   exact Option.some.inj h1
  exact getItem_listL pl.isList h0 (by lia) (by rw [hj]; exact ew) fin
 ·have hj:(i+(its.toArray.size:Int)).toNat=j:=by
   rw [seqIndex_neg (by lia) h4] at h1
   rw [List.size_toArray,← hl]
   exact Option.some.inj h1
  exact wpAny_getItem_list_neg pl.isList (by lia) (by rw [List.size_toArray] <;> lia) (by lia) (by rw [hj]; simpa using ew) fin
theorem Qd {pos:Pos}{o i e:Expr}{to ti te:TE}{JX:V→V→Hp→VK→Prop}{tip:TIp}{JW:MP}{op:Operator}{tpos:Pos} (ho:QE X o to) (hi:QE X i ti) (hg:afv X JX) (he:QE X e te) (hp:PIp X op tip) (hs:X4 X JW)
  (ha:∀ ov iv new,augStore i ov iv new=(do holding [new,ov,iv] (setItem ov iv new); release [new,ov,iv] []; pure .next):=by intros; rfl):QS X (.AugAssign (.Subscript o i tpos) op e pos) (afE to ti te JX tip JW):=⟨agf ho.run hi.run hg he.run hp hs ha⟩
theorem R6 {o value:Expr}{f:Str}{pos tpos:Pos}{ta tv:TE}{op:Operator}{rd:V→V→Hp→VK→Prop} (ha:QE X o ta) (hv:QE X value tv) (hop:abT X op rd):QS X (.AugAssign (.Attribute o f tpos) op value pos) (ZS X.K ta tv rd f):=⟨acL ha.run hv.run hop⟩
theorem jV {CX:CXT}{k:Nat}{f C:Addr}{fd:FuncData}{ps:List Str}{sp:Sp}{dvs:List V}{ds:List Value}{E:XK}{x:Str}{p pos:Pos}{e:Expr}{es:List Expr}{t:TA} (M:Mk X.K C f) (F:FnOk X.prog X.w X.K X.mg X.base CX k f fd ps sp) (hr:Room (k+1) X.A) (hg:Gl X x) (hm:X.mg x=some (.ref C)) (hb:Binds X.K fd ps ds) (hd:Vals dvs ds) (hx:Passes CX X E)
  (ha:QA X (e::es) t) (hdb:(x == ("__debug__":Str))=false:=by decide) (he:starEach (e::es) X.env=(false,eval e X.env)::starEach es X.env:=by rfl) (hpl:(backTo pos (starEach es X.env)).any (·.1)=false:=by rfl) :
  QE X (.Call (.Name x p) (e::es) [] pos) (tMake C sp dvs E t):=⟨agm M F hr hg hm hb hd hx ha.run hdb he hpl⟩
theorem af9 {tg l:Expr}{tl:TE}{p pos:Pos} (hg:Gl X "reversed") (hm:X.mg "reversed"=none) (hl:QE X l tl) (hs:starEach [l] X.env=[(false,eval l X.env)]:=by rfl):QI X tg (.Call (.Name "reversed" p) [l] [] pos) (SwR.afK X.K tl):=⟨SwR.agi hg hm hl.run hs⟩
theorem Z1 {tg l:Expr}{tl:TE}{p pos:Pos} (hg:Gl X "reversed") (hm:X.mg "reversed"=none) (hl:QE X l tl) (hs:starEach [l] X.env=[(false,eval l X.env)]:=by rfl):QI X tg (.Call (.Name "reversed" p) [l] [] pos) (SwR.afL X.K tl):=⟨SwR.agj hg hm hl.run hs⟩
theorem Qf {K:PySem.W.Frag}{e:Expr}{f:Str}{pos:Pos}{ta:TE} (hK:X.K=K) (he:QE X e ta) (hb:attributeBase e f X.env (eval e X.env)=eval e X.env):QE X (.Attribute e f pos) (tFld K ta f):=by subst hK; exact bH he hb
theorem agl {a:Expr}{ta:TE}{pos:Pos} (ha:PE X a ta):PE X (.UnaryOp .Not a pos) (fun σ H Q=>ta σ H fun x H'=>∃ k,XM X.K x H' k∧Q (.bl (!k)) H'):=by
 intro pins s σ H Q I h
 refine UnaryOp_ (thn (ha pins s σ H _ I h) fun v s1 ⟨x,H1,I1,r1,q1⟩=>?_)
 refine not_of (thn (acg pins s1 σ H1 x v (fun k H2=>Q (.bl (!k)) H2) I1 r1 q1) fun k s2 ⟨H2,I2,q2⟩=>?_)
 exact⟨.bl (!k),H2,I2,rfl,q2⟩
theorem aga {a:Expr}{ta:TE}{pos:Pos} (ha:QE X a ta):QE X (.UnaryOp .Not a pos) (fun σ H Q=>ta σ H fun x H'=>∃ k,XM X.K x H' k∧Q (.bl (!k)) H'):=⟨agl ha.run⟩
end
structure Own (K:PySem.W.Frag) (ao aF aJ aP aQ aM:Addr):Prop where
 rF:X3 K ao
 rL:X3 K aF
 gB:Cls K aJ
 cText:Cls K aP
 yW:Cls K aQ
 dD:Cls K aM
 fi:NoAttr K ao "item"
 fb:NoAttr K ao "behind"
 lt:NoAttr K aF "tree"
 lp:NoAttr K aF "place"
 wk:NoAttr K aJ "kind"
 wl:NoAttr K aJ "load"
 wy:NoAttr K aJ "yes"
 wn:NoAttr K aJ "no"
 wb:NoAttr K aJ "body"
 ws:NoAttr K aJ "size"
 tt:NoAttr K aP "tree"
 tw:NoAttr K aP "words"
 gt:NoAttr K aQ "text"
 gp:NoAttr K aQ "place"
 kg:NoAttr K aM "goings"
 ks:NoAttr K aM "stack"
 kn:NoAttr K aM "numbers"
 kl:NoAttr K aM "left"
 iTF:PySem.W.kitOne K (.type "tuple") (.ref ao)=some false
 iTL:PySem.W.kitOne K (.type "tuple") (.ref aF)=some false
 iFF:PySem.W.kitOne K (.ref ao) (.ref ao)=some true
 iLF:PySem.W.kitOne K (.ref aF) (.ref ao)=some false
 iLL:PySem.W.kitOne K (.ref aF) (.ref aF)=some true
theorem Vt (f:Str) (v:V):putF f v []=[(f,v)]:=rfl
theorem wU (f:Str) (u v:V) (r:List (Str×V)):putF f v ((f,u)::r)=(f,v)::r:=by rw [putF,if_pos rfl]
theorem bO {f g:Str} (h:¬ g=f) (u v:V) (r:List (Str×V)):putF f v ((g,u)::r)=(g,u)::putF f v r:=by rw [putF,if_neg h]
theorem eU (f:Str) (u:V) (r:List (Str×V)):List.lookup f ((f,u)::r)=some u:=by rw [List.lookup_cons,beq_self_eq_true]
theorem cM {f g:Str} (h:(f == g)=false) (u:V) (r:List (Str×V)):List.lookup f ((g,u)::r)=List.lookup f r:=by rw [List.lookup_cons,h]
def fF (y z:V):List (Str×V):=[("item",y),("behind",z)]
def fL (v:V) (p:Nat):List (Str×V):=[("tree",v),("place",.int (p:Int))]
def fT (v:V) (W:Addr):List (Str×V):=[("tree",v),("words",.ref W)]
def fG (a:Addr) (p:Nat):List (Str×V):=[("text",.ref a),("place",.int (p:Int))]
def fD (k:Nat) (v y n b z:V):List (Str×V):=[("kind",.int (k:Int)),("load",v),("yes",y),("no",n),("body",b),("size",z)]
def fW (G S N:Addr) (b:Nat):List (Str×V):=[("goings",.ref G),("stack",.ref S),("numbers",.ref N),("left",.int (b:Int))]
theorem Nv {f g:Str} (h:¬ f=g) (u v:V):putF g v (putF f u [])=[(f,u),(g,v)]:=by rw [Vt,bO h,Vt]
inductive Role where
 | mine
 | text (t:T) (W:Addr)
 | words (t:T)
 | word (w:T)
 | row (t:T)
abbrev Mp:=Addr→Option Role
def setM (M:Mp) (p:Addr) (r:Role):Mp:=fun a=>if a=p then some r else M a
theorem eV {M:Mp}{p:Addr}{r:Role}:setM M p r p=some r:=by unfold setM; rw [if_pos rfl]
theorem iy {M:Mp}{a p:Addr}{r:Role} (h:a≠p):setM M p r a=M a:=by unfold setM; rw [if_neg h]
section
variable (K:PySem.W.Frag) (CF CL CD CT CG CW:Addr)
def RV (M:Mp) (H:Hp) (t:T) (x:V):Prop:=TR K H t x∨∃ a,x=.ref a∧M a=some (.row t)
def wB (M:Mp) (a:Addr) (t:T):Prop:=∃ W,M a=some (.text t W)
def Ok1 (M:Mp) (H:Hp) (a:Addr):Role→Prop
 | .mine=>True
 | .text t W=>∃ dx v,H a=some (.ins CT dx (fT v W))∧TR K H t v∧M W=some (.words t)
 | .words t=>∃ xs,H a=some (.lst xs)∧xs.length≤t.kids.length∧∀ (j:Nat) x,xs[j]?=some x→∃ b w,x=.ref b∧t.kids[j]?=some w∧M b=some (.word w)
 | .word w=>∃ dx v y n bd sz,H a=some (.ins CD dx (fD (aH w) v y n bd sz))∧TR K H (bf w) v∧(aH w=7→∃ ay an,y=.ref ay∧n=.ref an∧wB M ay (ats (bf w).kids 0)∧wB M an (bf (bf w))) ∧
   (aH w=8→∃ ab,bd=.ref ab∧wB M ab (bf w))∧(sz=.non∨sz=.int ((bf w).parts:Nat))
 | .row t=>(∃ dx y z u ts,H a=some (.ins CF dx (fF y z))∧t=.node (u::ts)∧RV K M H u y∧RV K M H (.node ts) z)∨∃ dx v ts p,H a=some (.ins CL dx (fL v p))∧TR K H (.node ts) v∧p<ts.length∧ts.length≤8000000∧t=.node (ts.drop p)
structure Gh (M:Mp) (H₀ H:Hp):Prop where
 same:Same H₀ H
 new:∀ a r,M a=some r→H₀ a=none
 has:∀ a r,M a=some r→∃ o,H a=some o
 ok:∀ a r,M a=some r→Ok1 K CF CL CD CT M H a r
structure Go (X:Addr→Prop) (M M':Mp) (H₀ H H':Hp):Prop where
 ext:∀ a r,M a=some r→M' a=some r
 mine:∀ a,M a=some .mine→¬ X a→H' a=H a
 kt:Kt H H'
 gh:Gh K CF CL CD CT M' H₀ H'
 wds:∀ W t ws,M W=some (.words t)→H W=some (.lst ws)→∃ ws',H' W=some (.lst ws')∧ws.length≤ws'.length
end
section
variable {K:PySem.W.Frag}{CF CL CD CT CG CW:Addr}{M M' M'':Mp}{H₀ H H' H'':Hp}{X Y:Addr→Prop}
theorem RV.mono {t:T}{x:V} (k:Kt H H') (e:∀ a t,M a=some (.row t)→M' a=some (.row t)) (h:RV K M H t x):RV K M' H' t x:=by
 rcases h with h | ⟨a,rfl,h⟩
 ·exact .inl (h.mono k)
 ·exact .inr ⟨a,rfl,e _ _ h⟩
theorem Ok1.mono {a:Addr}{r:Role} (h:Ok1 K CF CL CD CT M H a r) (ha:H' a=H a) (k:Kt H H') (e:∀ a r,r≠.mine→M a=some r→M' a=some r):Ok1 K CF CL CD CT M' H' a r:=by
 cases r with
 | mine=>trivial
 | text t W =>
  obtain⟨dx,v,h1,h2,h3⟩:=h
  exact⟨dx,v,ha.trans h1,h2.mono k,e _ _ (by simp) h3⟩
 | words t =>
  obtain⟨xs,h1,h2,h3⟩:=h
  refine⟨xs,ha.trans h1,h2,fun j x hx=>?_⟩
  obtain⟨b,w,e1,e2,e3⟩:=h3 j x hx
  exact⟨b,w,e1,e2,e _ _ (by simp) e3⟩
 | word w =>
  obtain⟨dx,v,y,n,bd,sz,h1,h2,h3,h4,h5⟩:=h
  refine⟨dx,v,y,n,bd,sz,ha.trans h1,h2.mono k,fun s7=>?_,fun s8=>?_,h5⟩
  ·obtain⟨ay,an,e1,e2,⟨W1,e3⟩,W2,e4⟩:=h3 s7
   exact⟨ay,an,e1,e2,⟨W1,e _ _ (by simp) e3⟩,W2,e _ _ (by simp) e4⟩
  ·obtain⟨ab,e1,W,e2⟩:=h4 s8
   exact⟨ab,e1,W,e _ _ (by simp) e2⟩
 | row t =>
  have er:∀ a t,M a=some (.row t)→M' a=some (.row t):=fun a t=>e a _ (by simp)
  rcases h with⟨dx,y,z,u,ts,h1,h2,h3,h4⟩ | ⟨dx,v,ts,p,h1,h2,h3,h4,h5⟩
  ·exact .inl ⟨dx,y,z,u,ts,ha.trans h1,h2,h3.mono k er,h4.mono k er⟩
  ·exact .inr ⟨dx,v,ts,p,ha.trans h1,h2.mono k,h3,h4,h5⟩
theorem Gh.nil (H:Hp):Gh K CF CL CD CT (fun _=>none) H H:=⟨Same.refl _,fun _ _ z=>(by cases z),fun _ _ z=>(by cases z),fun _ _ z=>(by cases z)⟩
theorem Gh.grow (g:Gh K CF CL CD CT M H₀ H) (S:Same H H'):Gh K CF CL CD CT M H₀ H' :=
 ⟨g.same.trans S,g.new,fun a r h=>by obtain⟨o,e⟩:=g.has a r h; exact⟨o,S _ _ e⟩,fun a r h=>by
  obtain⟨o,e⟩:=g.has a r h
  exact (g.ok a r h).mono ((S _ _ e).trans e.symm) (.of S) fun _ _ _ z=>z⟩
theorem Gh.mut {p:Addr}{o:HO} (g:Gh K CF CL CD CT M H₀ H) (hp:M p=some .mine) (k:Kt H (upd H p o)):Gh K CF CL CD CT M H₀ (upd H p o):=by
 refine⟨eX g.same (g.new _ _ hp),g.new,fun a r h=>?_,fun a r h=>?_⟩
 ·by_cases z:a=p
  ·exact⟨o,by rw [z,upd_same]⟩
  ·obtain⟨u,e⟩:=g.has a r h
   exact⟨u,by rw [upd_ne z]; exact e⟩
 ·by_cases z:a=p
  ·rw [z,hp] at h
   cases h
   trivial
  ·exact (g.ok a r h).mono (upd_ne z) k fun _ _ _ z=>z
theorem Gh.put {p:Addr}{o:HO}{r:Role} (g:Gh K CF CL CD CT M H₀ H) (hp:M p=some r) (k:Kt H (upd H p o)) (h:Ok1 K CF CL CD CT M (upd H p o) p r):Gh K CF CL CD CT M H₀ (upd H p o):=by
 refine⟨eX g.same (g.new _ _ hp),g.new,fun a r h=>?_,fun a r' h'=>?_⟩
 ·by_cases z:a=p
  ·exact⟨o,by rw [z,upd_same]⟩
  ·obtain⟨u,e⟩:=g.has a r h
   exact⟨u,by rw [upd_ne z]; exact e⟩
 ·by_cases z:a=p
  ·rw [z,hp] at h'
   cases h'
   rw [z]
   exact h
  ·exact (g.ok a r' h').mono (upd_ne z) k fun _ _ _ z=>z
theorem Gh.role {p:Addr}{r:Role} (g:Gh K CF CL CD CT M H₀ H) (hp:M p=none∨M p=some .mine) (hn:H₀ p=none) (hh:∃ o,H p=some o) (h:Ok1 K CF CL CD CT (setM M p r) H p r):Gh K CF CL CD CT (setM M p r) H₀ H:=by
 refine⟨g.same,fun a r' h'=>?_,fun a r' h'=>?_,fun a r' h'=>?_⟩
 ·by_cases z:a=p
  ·rw [z]; exact hn
  ·rw [iy z] at h'; exact g.new a r' h'
 ·by_cases z:a=p
  ·rw [z]; exact hh
  ·rw [iy z] at h'; exact g.has a r' h'
 ·by_cases z:a=p
  ·rw [z,eV] at h'
   cases h'
   rw [z]
   exact h
  ·rw [iy z] at h'
   refine (g.ok a r' h').mono rfl (Kt.refl _) fun b r2 hr hb=>?_
   by_cases y:b=p
   ·rw [y] at hb
    rcases hp with hp | hp
    ·rw [hp] at hb; cases hb
    ·rw [hp] at hb; cases hb; exact absurd rfl hr
   ·rw [iy y]; exact hb
theorem Go.refl (g:Gh K CF CL CD CT M H₀ H):Go K CF CL CD CT X M M H₀ H H:=⟨fun _ _ z=>z,fun _ _ _=>rfl,Kt.refl _,g,fun _ _ ws _ h=>⟨ws,h,Nat.le_refl _⟩⟩
theorem Go.trans (a:Go K CF CL CD CT X M M' H₀ H H') (b:Go K CF CL CD CT X M' M'' H₀ H' H''):Go K CF CL CD CT X M M'' H₀ H H'' :=
 ⟨fun p r h=>b.ext _ _ (a.ext _ _ h),fun p h x=>(b.mine p (a.ext _ _ h) x).trans (a.mine p h x),a.kt.trans b.kt,b.gh,fun W t ws h1 h2=>by
  obtain⟨w1,e1,l1⟩:=a.wds W t ws h1 h2
  obtain⟨w2,e2,l2⟩:=b.wds W t w1 (a.ext _ _ h1) e1
  exact⟨w2,e2,by lia⟩⟩
theorem Go.weak (a:Go K CF CL CD CT X M M' H₀ H H') (h:∀ p,X p→Y p):Go K CF CL CD CT Y M M' H₀ H H':=⟨a.ext,fun p m y=>a.mine p m fun z=>y (h p z),a.kt,a.gh,a.wds⟩
theorem Go.grow (g:Gh K CF CL CD CT M H₀ H) (S:Same H H'):Go K CF CL CD CT X M M H₀ H H' :=
 ⟨fun _ _ z=>z,fun a h _=>by obtain⟨o,e⟩:=g.has a _ h; exact (S _ _ e).trans e.symm,.of S,g.grow S,fun _ _ ws _ h=>⟨ws,S _ _ h,Nat.le_refl _⟩⟩
theorem Go.rv {t:T}{x:V} (a:Go K CF CL CD CT X M M' H₀ H H') (h:RV K M H t x):RV K M' H' t x:=h.mono a.kt fun p t e=>a.ext p _ e
abbrev mkO (H:Hp) (x dx C:Addr) (fs:List (Str×V)):Hp:=upd (upd H dx (.own x)) x (.ins C dx fs)
theorem kZ {H:Hp}{p:Addr}{a b:HO}:upd (upd H p a) p b=upd H p b:=by
 funext q
 by_cases h:q=p
 ·rw [h,upd_same,upd_same]
 ·rw [upd_ne h,upd_ne h,upd_ne h]
theorem akn {H:Hp}{p q:Addr}{a b:HO} (h:p≠q):upd (upd H p a) q b=upd (upd H q b) p a:=by
 funext r
 by_cases h1:r=p
 ·rw [h1,upd_ne h,upd_same,upd_same]
 ·by_cases h2:r=q
  ·rw [h2,upd_same,upd_ne (Ne.symm h),upd_same]
  ·rw [upd_ne h2,upd_ne h1,upd_ne h1,upd_ne h2]
variable {x dx C p:Addr}{fs fs':List (Str×V)}{o:HO}
theorem i_:mkO H x dx C fs x=some (.ins C dx fs):=upd_same
theorem ac4:upd (mkO H x dx C fs) x (.ins C dx fs')=mkO H x dx C fs':=kZ
theorem jw (hx:H x=none) (hd:H dx=none) (ne:dx≠x):Same H (mkO H x dx C fs):=by
 refine (same_new hd _).trans (same_new ?_ _)
 rw [upd_ne (Ne.symm ne)]
 exact hx
theorem Go.made (g:Gh K CF CL CD CT M H₀ H) (hx:H x=none) (hd:H dx=none) (ne:dx≠x):Go K CF CL CD CT X M (setM M x .mine) H₀ H (mkO H x dx C fs):=by
 have S:=jw (C:=C) (fs:=fs) hx hd ne
 have nM:M x=none:=by
  cases h:M x with
  | none=>rfl
  | some r=>obtain⟨o,e⟩:=g.has x r h; rw [hx] at e; cases e
 have g1:=(g.grow S).role (p:=x) (r:=.mine) (.inl nM) (g.same.free hx) ⟨_,i_⟩ trivial
 refine⟨fun a r h=>?_,fun a h _=>?_,.of S,g1,fun _ _ ws _ h=>⟨ws,S _ _ h,Nat.le_refl _⟩⟩
 ·rw [iy (fun z=>by rw [z,nM] at h; cases h)]; exact h
 ·obtain⟨o,e⟩:=g.has a _ h; exact (S _ _ e).trans e.symm
theorem Go.QF (g:Gh K CF CL CD CT M H₀ H) (hx:H p=none):Go K CF CL CD CT X M (setM M p .mine) H₀ H (upd H p o):=by
 have S:=same_new hx o
 have nM:M p=none:=by
  cases h:M p with
  | none=>rfl
  | some r=>obtain⟨o,e⟩:=g.has p r h; rw [hx] at e; cases e
 have g1:=(g.grow S).role (p:=p) (r:=.mine) (.inl nM) (g.same.free hx) ⟨_,upd_same⟩ trivial
 refine⟨fun a r h=>?_,fun a h _=>?_,.of S,g1,fun _ _ ws _ h=>⟨ws,S _ _ h,Nat.le_refl _⟩⟩
 ·rw [iy (fun z=>by rw [z,nM] at h; cases h)]; exact h
 ·obtain⟨o,e⟩:=g.has a _ h; exact (S _ _ e).trans e.symm
theorem Go.role {r:Role} (g:Gh K CF CL CD CT M H₀ H) (S:Same H H') (hx:H p=none) (hh:∃ o,H' p=some o) (h:Ok1 K CF CL CD CT (setM M p r) H' p r):Go K CF CL CD CT X M (setM M p r) H₀ H H':=by
 have nM:M p=none:=by
  cases h:M p with
  | none=>rfl
  | some r=>obtain⟨o,e⟩:=g.has p r h; rw [hx] at e; cases e
 have g1:=(g.grow S).role (p:=p) (r:=r) (.inl nM) (g.same.free hx) hh h
 refine⟨fun a r h=>?_,fun a h _=>?_,.of S,g1,fun _ _ ws _ h=>⟨ws,S _ _ h,Nat.le_refl _⟩⟩
 ·rw [iy (fun z=>by rw [z,nM] at h; cases h)]; exact h
 ·obtain⟨o,e⟩:=g.has a _ h; exact (S _ _ e).trans e.symm
theorem Gh.fresh (g:Gh K CF CL CD CT M H₀ H) (hx:H p=none):M p=none:=by
 cases h:M p with
 | none=>rfl
 | some r=>obtain⟨o,e⟩:=g.has p r h; rw [hx] at e; cases e
end
section
variable (K:PySem.W.Frag) (CF CL CD CT CG CW:Addr)
def UV (H:Hp) (t:T) (x:V):Prop:=TR K H t x∨∃ a dx v ts p,x=.ref a∧H a=some (.ins CL dx (fL v p))∧TR K H (.node ts) v∧p<ts.length∧ts.length≤8000000∧t=.node (ts.drop p)
def FV (M:Mp) (H:Hp) (t:T) (x:V):Prop:=∃ a dx y z u ts,x=.ref a∧H a=some (.ins CF dx (fF y z))∧t=.node (u::ts)∧RV K M H u y∧RV K M H (.node ts) z
def U7:Sp:=fun vs H Q _=>∃ o dx y z,vs=[.ref o,y,z]∧H o=some (.ins CF dx [])∧Q .non (upd H o (.ins CF dx (fF y z)))
def U5:Sp:=fun vs H Q _=>∃ (o dx:Addr) (v:V) (p:Nat),vs=[.ref o,v,.int (p:Int)]∧H o=some (.ins CL dx [])∧Q .non (upd H o (.ins CL dx (fL v p)))
def J6:Sp:=fun vs H Q _=>∃ o dx a,vs=[.ref o,.ref a]∧H o=some (.ins CG dx [])∧Q .non (upd H o (.ins CG dx (fG a 0)))
def J4:Sp:=fun vs H Q _=>∃ o dx v,vs=[.ref o,v]∧H o=some (.ins CT dx [])∧∀ W,H W=none→Q .non (upd (upd H W (.lst [])) o (.ins CT dx (fT v W)))
def R4:Sp:=fun vs H Q _=>∃ x t M H₀,vs=[x]∧Gh K CF CL CD CT M H₀ H∧RV K M H t x∧t.deep≤400∧∀ y H',Same H H'→RV K M H' (ats t.kids 0) y→Q y H'
def ZG:Sp:=fun vs H Q _=>∃ (x:V) (ts:List T) (p:Nat) (M:Mp) (H₀:Hp),vs=[x,.int (p:Int)]∧Gh K CF CL CD CT M H₀ H∧TR K H (.node ts) x∧ts.length≤8000000∧∀ y M' H',Same H H'→Go K CF CL CD CT (fun _=>False) M M' H₀ H H'→RV K M' H' (.node (ts.drop p)) y→Q y H'
def U0:Sp:=fun vs H Q _=>∃ x t M H₀,vs=[x]∧Gh K CF CL CD CT M H₀ H∧RV K M H t x∧t.deep≤400∧t.kids.length≤8000000∧∀ y M' H',Same H H'→Go K CF CL CD CT (fun _=>False) M M' H₀ H H'→RV K M' H' (bf t) y→Q y H'
def UL:Sp:=fun vs H Q _=>∃ x t,vs=[x]∧UV K CL H t x∧∀ y H',Same H H'→TR K H' t y→Q y H'
def U3:Sp:=fun vs H Q _=>∃ (x:V) (t:T) (M:Mp) (H₀:Hp) (m:Nat),vs=[x,.int (m:Int)]∧Gh K CF CL CD CT M H₀ H∧RV K M H t x∧t.parts≤8000000∧∀ (c:Nat) H',Same H H'→(t.parts≤m→c=t.parts)→(m<t.parts→m<c)→Q (.int (c:Int)) H'
def U8:Sp:=fun vs H Q _=>∃ x t M H₀,vs=[x]∧Gh K CF CL CD CT M H₀ H∧RV K M H t x∧t.parts≤8000000∧∀ y H',Same H H'→TR K H' t y→Q y H'
end
section
variable {K:PySem.W.Frag}{CF CL CD CT CG CW:Addr}{M M':Mp}{H₀ H H':Hp}
theorem rN {t:T}{x:V} (h:TR K H t x):∃ b ys,x=.ref b∧SqT K H b ys∧TRs K H t.kids ys:=by
 cases t with
 | node ts=>exact cF.mp h
theorem RV.cases {t:T}{x:V} (g:Gh K CF CL CD CT M H₀ H) (h:RV K M H t x):UV K CL H t x∨FV K CF M H t x:=by
 rcases h with h | ⟨a,rfl,h⟩
 ·exact .inl (.inl h)
 ·rcases g.ok a _ h with⟨dx,y,z,u,ts,h1,h2,h3,h4⟩ | ⟨dx,v,ts,p,h1,h2,h3,h4,h5⟩
  ·exact .inr ⟨a,dx,y,z,u,ts,rfl,h1,h2,h3,h4⟩
  ·exact .inl (.inr ⟨a,dx,v,ts,p,rfl,h1,h2,h3,h4,h5⟩)
def WPW (K:PySem.W.Frag) (M:Mp) (H:Hp) (x:V) (m n:Nat) (p:Addr):Nat→Sg→Hp→Prop:=fun μ σ H'=>∃ (ys:List V) (ts:List T) (c:Nat) (o:Option V),
 σ=[some x,some (.int (m:Int)),some (.ref p),some (.int (c:Int)),o]∧Same H H'∧H' p=some (.lst ys)∧aX (RV K M H') ts.reverse ys∧c+T.aA ts=n∧μ=2 * T.aA ts - ts.length
theorem gW {ts:List T}{ys:List V} (k:Kt H H') (h:aX (RV K M H) ts ys):aX (RV K M H') ts ys:=h.imp fun _ _ z=>z.mono k fun _ _ y=>y
theorem Pa:∀ {ts:List T}{ys:List V},TRs K H ts ys→aX (RV K M H) ts ys
 | [],_,h=>by rw [bJ.mp h]; exact .nil
 | t::ts,_,h=>by
  obtain⟨x,r,rfl,h1,h2⟩:=cN.mp h
  exact .cons (.inl h1) (Pa h2)
theorem all_nil {α β:Type}{R:α→β→Prop}{ts:List α} (h:aX R ts.reverse []):ts=[]:=by
 have:=h.length
 rw [List.length_reverse] at this
 exact List.length_eq_zero_iff.mp (by simpa using this.symm)
theorem mX {α β:Type}{R:α→β→Prop}{ts:List α}{ys:List β} (h:aX R ts.reverse ys) (hne:ys≠[]):∃ u ts0 ys0 y,ts=u::ts0∧ys=ys0++[y]∧aX R ts0.reverse ys0∧R u y:=by
 cases ts with
 | nil=>exact absurd (by cases h; rfl) hne
 | cons u ts0 =>
  rw [List.reverse_cons] at h
  obtain⟨ys0,y,rfl,h1,h2⟩:=aX.snoc h
  exact⟨u,ts0,ys0,y,rfl,rfl,h1,h2⟩
theorem mJ {α:Type} (xs:List α) (y:α):(xs++[y])[(xs++[y]).length - 1]?=some y:=by simp
theorem mK {α:Type} (xs:List α) (y:α):(xs++[y]).dropLast=xs:=by simp
theorem adH {α β:Type}{R:α→β→Prop}{ts:List α}{ys:List β} (h:aX R ts.reverse ys) (hne:ys≠[]):∃ u ts0 y,ts=u::ts0∧ys[ys.length - 1]?=some y∧aX R ts0.reverse ys.dropLast∧R u y:=by
 obtain⟨u,ts0,ys0,y,rfl,rfl,h1,h2⟩:=mX h hne
 exact⟨u,ts0,y,rfl,mJ _ _,by rw [mK]; exact h1,h2⟩
theorem CZ:∀ ts:List T,T.aA ts.reverse=T.aA ts
 | []=>rfl
 | t::ts=>by rw [List.reverse_cons,T.bV,CZ ts,T.aq,T.aq,T.aO]; lia
structure Ki (H H':Hp):Prop where
 kt:Kt H H'
 ins:∀ a C dx fs,H a=some (.ins C dx fs)→H' a=some (.ins C dx fs)
theorem Ki.of (S:Same H H'):Ki H H':=⟨.of S,fun a _ _ _ h=>S _ _ h⟩
theorem Ki.lst {p:Addr}{ys:List V}{o:HO} (h:H p=some (.lst ys)):Ki H (upd H p o):=⟨Kt.lst h,fun a _ _ _ e=>by rw [upd_ne (fun z=>by rw [z,h] at e; cases e)]; exact e⟩
theorem UV.mono {t:T}{x:V} (k:Ki H H') (h:UV K CL H t x):UV K CL H' t x:=by
 rcases h with h | ⟨a,dx,v,ts,p,h1,h2,h3,h4,h5,h6⟩
 ·exact .inl (h.mono k.kt)
 ·exact .inr ⟨a,dx,v,ts,p,h1,k.ins _ _ _ _ h2,h3.mono k.kt,h4,h5,h6⟩
theorem UV.ah7 {t:T}{x:V} (O:Own K CF CL CD CT CG CW) (h:UV K CL H t x):(∃ ty,TyOf K H x ty∧PySem.W.kitOne K ty (.ref CF)=some false)∨(∃ a ys,x=.ref a∧SqT K H a ys∧PySem.W.kitOne K (.type "tuple") (.ref CF)=some false):=by
 rcases h with h | ⟨a,dx,v,ts,p,rfl,h2,_⟩
 ·obtain⟨b,ys,rfl,hb,_⟩:=rN h
  exact .inr ⟨b,ys,rfl,hb,O.iTF⟩
 ·exact .inl ⟨_,O.rL.ty h2,O.iLF⟩
theorem gj {n:Nat} (h:n<16000000):n<sizeLine:=Nat.lt_of_lt_of_le h (by decide)
end
def Cq:List (List T)→List T→T
 | [l],r::_=>.node (l++r.kids)
 | l::l'::ls,r::rs=>Cq ((l'++[.node (l++r.kids)])::ls) rs
 | _,_=>leaf
theorem ad7 (l:List T) (ls:List (List T)) (u:T) (ts:List T) (rs:List T):Cq ([]::l::ls) (u::.node ts::rs)=Cq (l::ls) (.node (u::ts)::rs):=by
 rw [Cq]
 have e:T.node ([]++u.kids)=u:=by cases u; rfl
 rw [e]
 cases ls with
 | nil =>
  show T.node ((l++[u])++ts)=T.node (l++(u::ts))
  rw [List.append_assoc]; rfl
 | cons l' ls =>
  rw [Cq,Cq]
  have:(l++[u])++(T.node ts).kids=l++(T.node (u::ts)).kids:=by
   show (l++[u])++ts=l++(u::ts)
   rw [List.append_assoc]; rfl
  rw [this]
structure AsT (K:PySem.W.Frag) (H₀ H:Hp) (R P:Addr) (ys:List V) (st:List (List T)) (zs:List V):Prop where
 rows:Ef K H₀ H R st ys
 pn:H₀ P=none
 at_:H P=some (.lst zs)
 np:(.ref P:V) ∉ (.ref R:V)::ys
section
variable {K:PySem.W.Frag}{H₀ H H':Hp}{R P:Addr}{ys zs zs':List V}{st:List (List T)}
theorem AsT.grow (h:AsT K H₀ H R P ys st zs) (S:Same H H'):AsT K H₀ H' R P ys st zs:=⟨acC h.rows S,h.pn,S _ _ h.at_,h.np⟩
theorem AsT.PR (h:AsT K H₀ H R P ys st zs):P≠R:=fun z=>h.np (by rw [z]; exact List.mem_cons_self)
theorem AsT.place (h:AsT K H₀ H R P ys st zs):AsT K H₀ (upd H P (.lst zs')) R P ys st zs':=⟨acE h.rows (Kt.lst h.at_) h.pn h.np,h.pn,upd_same,h.np⟩
theorem AsT.enter (h:AsT K H₀ H R P ys st zs) {q:Addr} (hq:H q=none):AsT K H₀ (upd (upd H q (.lst [])) R (.lst (ys++[.ref q]))) R P (ys++[.ref q]) ([]::st) zs:=by
 have nPq:P≠q:=ne_of_none h.at_ hq
 refine⟨acD h.rows hq,h.pn,?_,fun z=>?_⟩
 ·rw [upd_ne h.PR,upd_ne nPq]; exact h.at_
 ·rcases List.mem_cons.mp z with z | z
  ·exact h.PR (V.ref.inj z)
  ·rcases List.mem_append.mp z with z | z
   ·exact h.np (List.mem_cons_of_mem _ z)
   ·exact nPq (V.ref.inj (List.mem_singleton.mp z))
theorem AsT.add {r:List T}{rs:List (List T)}{t:T}{x:V} (h:AsT K H₀ H R P ys (r::rs) zs) (ht:TR K H t x) :
  ∃ (ys0:List V) (a:Addr) (xs:List V),ys=ys0++[.ref a]∧H a=some (.lst xs)∧xs.length=r.length∧AsT K H₀ (upd H a (.lst (xs++[x]))) R P ys ((r++[t])::rs) zs:=by
 have hr:=h.rows.rows
 rw [List.reverse_cons] at hr
 obtain⟨ys0,y,rfl,h1,a,xs,rfl,ha0,ha,hta⟩:=aX.snoc hr
 have nd:=h.rows.nd
 have ndp:=(List.nodup_cons.mp nd).1
 have ndy:=(List.nodup_cons.mp nd).2
 have na:(.ref a:V) ∉ ys0:=fun z=>(List.nodup_append.mp ndy).2.2 _ z _ (by simp) rfl
 have nRa:R≠a:=fun z=>ndp (by rw [z]; simp)
 have nPa:P≠a:=fun z=>h.np (by rw [z]; simp)
 have k:=Kt.lst (o:=.lst (xs++[x])) ha
 refine⟨ys0,a,xs,rfl,ha,hta.length,⟨h.rows.new,eX h.rows.same ha0,by rw [upd_ne nRa]; exact h.rows.at_,?_,nd⟩,h.pn,by rw [upd_ne nPa]; exact h.at_,h.np⟩
 rw [List.reverse_cons]
 exact aX.append (xY k h1 na) (aX.one ⟨a,_,rfl,ha0,upd_same,TRs.append (hta.mono k) (dO (ht.mono k))⟩)
theorem AsT.shut {r:List T}{rs:List (List T)} (h:AsT K H₀ H R P ys (r::rs) zs) :
  ∃ (ys0:List V) (a:Addr) (xs:List V),ys=ys0++[.ref a]∧R≠a∧H a=some (.lst xs)∧TRs K H r xs∧AsT K H₀ (upd H R (.lst ys0)) R P ys0 rs zs:=by
 have hr:=h.rows.rows
 rw [List.reverse_cons] at hr
 obtain⟨ys0,y,rfl,h1,a,xs,rfl,ha0,ha,hta⟩:=aX.snoc hr
 have nd:=h.rows.nd
 have ndp:=(List.nodup_cons.mp nd).1
 have ndy:=(List.nodup_cons.mp nd).2
 have nRa:R≠a:=fun z=>ndp (by rw [z]; simp)
 have k:=Kt.lst (o:=.lst ys0) h.rows.at_
 refine⟨ys0,a,xs,rfl,nRa,ha,hta,⟨h.rows.new,eX h.rows.same h.rows.new,upd_same,xY k h1 fun z=>ndp (by simp [z]),List.nodup_cons.mpr ⟨fun z=>ndp (by simp [z]),(List.nodup_append.mp ndy).1⟩⟩,h.pn,by rw [upd_ne h.PR]; exact h.at_,fun z=>h.np ?_⟩
 rcases List.mem_cons.mp z with z | z
 ·rw [z]; exact List.mem_cons_self
 ·exact List.mem_cons_of_mem _ (List.mem_append_left _ z)
theorem agN {α:Type} (xs:List α) (y:α):ixN (xs++[y]).length (-1)=some xs.length:=by
 unfold ixN
 have hl:(xs++[y]).length=xs.length+1:=by simp
 rw [if_neg (by decide),if_pos (by rw [hl]; lia),hl,show ((-1:Int)+((xs.length+1:Nat):Int)).toNat=xs.length by lia]
theorem aeh {α:Type} (xs:List α) (y z:α):(xs++[y]).set xs.length z=xs++[z]:=by simp
end
def sH (k:Nat) (t:T):Nat:=if k=7 then (if t.kids=[] then 8 else 7) else if k=8 then (if t.kids=[] then 10 else 9) else if k=9 then 11 else k
section
variable (K:PySem.W.Frag) (CF CL CD CT CG CW:Addr)
def ZD:Sp:=fun vs H Q _=>∃ (k:Nat) (x:V) (t:T) (M:Mp) (H₀:Hp),vs=[.int (k:Int),x]∧Gh K CF CL CD CT M H₀ H∧RV K M H t x∧t.deep≤400∧∀ H',Same H H'→Q (.int (sH k t:Nat)) H'
def W7 (M:Mp) (w:T) (y n:V):Prop:=aH w=7→∃ ay an,y=.ref ay∧n=.ref an∧wB M ay (ats (bf w).kids 0)∧wB M an (bf (bf w))
def W8 (M:Mp) (w:T) (b:V):Prop:=aH w=8→∃ ab,b=.ref ab∧wB M ab (bf w)
def UJ:Sp:=fun vs H Q _=>∃ (o dx:Addr) (x:V) (w:T) (M:Mp) (H₀:Hp),vs=[.ref o,x]∧Gh K CF CL CD CT M H₀ H∧M o=some .mine∧H o=some (.ins CD dx [])∧TR K H w x∧w.deep≤400 ∧
 ∀ M' H' v y n b,Go K CF CL CD CT (fun a=>a=o) M M' H₀ H H'→(∀ c u,H c=some u→c≠o→H' c=some u)→H' o=some (.ins CD dx (fD (aH w) v y n b .non))→TR K H' (bf w) v→W7 M' w y n→W8 M' w b→Q .non H'
def ZJ:Sp:=fun vs H Q _=>∃ (b:Addr) (w:T) (M:Mp) (H₀:Hp),vs=[.ref b]∧Gh K CF CL CD CT M H₀ H∧M b=some (.word w)∧(bf w).parts≤8000000∧∀ H',Go K CF CL CD CT (fun _=>False) M M H₀ H H'→Q (.int ((bf w).parts:Nat)) H'
def Uz:Sp:=fun vs H Q _=>∃ (a:Addr) (t:T) (W:Addr) (p:Nat) (M:Mp) (H₀:Hp) (ws:List V),vs=[.ref a,.int (p:Int)]∧Gh K CF CL CD CT M H₀ H∧M a=some (.text t W)∧H W=some (.lst ws)∧p≤ws.length∧p≤t.kids.length∧t.deep≤400∧t.kids.length≤8000000 ∧
 (p=t.kids.length→Q .non H)∧∀ w,t.kids[p]?=some w→∀ b M' H',Go K CF CL CD CT (fun _=>False) M M' H₀ H H'→M' b=some (.word w)→(∀ ws',H' W=some (.lst ws')→p+1≤ws'.length)→Q (.ref b) H'
end
section
variable {K:PySem.W.Frag}{CF CL CD CT CG CW:Addr}{M M' M'':Mp}{H₀ H H' H1:Hp}{X:Addr→Prop}
theorem Go.oX {p:Addr}{u:HO} (a:Go K CF CL CD CT X M M' H₀ H H1) (hm:M' p=some .mine) (hX:X p) (k:Kt H1 (upd H1 p u)):Go K CF CL CD CT X M M' H₀ H (upd H1 p u) :=
 ⟨a.ext,fun q h x=>by rw [upd_ne (fun z:q=p=>x (by rw [z]; exact hX))]; exact a.mine q h x,a.kt.trans k,a.gh.mut hm k,fun W t ws h1 h2=>by
  obtain⟨ws',e,l⟩:=a.wds W t ws h1 h2
  have nW:W≠p:=fun z=>by have:=a.ext _ _ h1; rw [z,hm] at this; cases this
  exact⟨ws',by rw [upd_ne nW]; exact e,l⟩⟩
theorem Go.newText {a da W:Addr}{t:T}{v:V} (g:Gh K CF CL CD CT M H₀ H) (tv:TR K H t v) (ha:H a=none) (hd:H da=none) (ne:da≠a) (hW:mkO H a da CT [] W=none) :
  Go K CF CL CD CT X M (setM (setM M W (.words t)) a (.text t W)) H₀ H (upd (upd (mkO H a da CT []) W (.lst [])) a (.ins CT da (fT v W)))∧Same H (upd (upd (mkO H a da CT []) W (.lst [])) a (.ins CT da (fT v W)))∧wB (setM (setM M W (.words t)) a (.text t W)) a t:=by
 have S1:=jw (C:=CT) (fs:=[]) ha hd ne
 have hW0:H W=none:=S1.free hW
 have naW:a≠W:=fun z=>by rw [← z,i_] at hW; cases hW
 have S2:=S1.trans (same_new hW (.lst []))
 have S3:Same H (upd (upd (mkO H a da CT []) W (.lst [])) a (.ins CT da (fT v W))):=eX S2 ha
 have hWl:upd (upd (mkO H a da CT []) W (.lst [])) a (.ins CT da (fT v W)) W=some (.lst []):=by rw [upd_ne (Ne.symm naW),upd_same]
 have nMa:=g.fresh ha
 have nMW:=g.fresh hW0
 have g1:Gh K CF CL CD CT (setM M W (.words t)) H₀ (upd (upd (mkO H a da CT []) W (.lst [])) a (.ins CT da (fT v W))) :=
  (g.grow S3).role (p:=W) (.inl nMW) (g.same.free hW0) ⟨_,hWl⟩ ⟨[],hWl,Nat.zero_le _,fun j x h=>by simp at h⟩
 have g2:Gh K CF CL CD CT (setM (setM M W (.words t)) a (.text t W)) H₀ (upd (upd (mkO H a da CT []) W (.lst [])) a (.ins CT da (fT v W))) :=
  g1.role (p:=a) (.inl (by rw [iy naW]; exact nMa)) (g.same.free ha) ⟨_,upd_same⟩ ⟨da,v,upd_same,tv.mono (.of S3),by rw [iy (Ne.symm naW),eV]⟩
 refine⟨⟨fun p r h=>?_,fun p h _=>?_,.of S3,g2,fun _ _ ws _ h=>⟨ws,S3 _ _ h,Nat.le_refl _⟩⟩,S3,W,eV⟩
 ·rw [iy (fun z=>by rw [z,nMa] at h; cases h),iy (fun z=>by rw [z,nMW] at h; cases h)]; exact h
 ·obtain⟨o,e⟩:=g.has p _ h; exact (S3 _ _ e).trans e.symm
theorem wB.ext {a:Addr}{t:T} (h:wB M a t) (G:Go K CF CL CD CT X M M' H₀ H H'):wB M' a t:=by obtain⟨W,e⟩:=h; exact⟨W,G.ext _ _ e⟩
def d1 (k:V):List (Str×V):=[("kind",k)]
def d2 (k v:V):List (Str×V):=[("kind",k),("load",v)]
def d3 (k v y:V):List (Str×V):=[("kind",k),("load",v),("yes",y)]
def d4 (k v y n:V):List (Str×V):=[("kind",k),("load",v),("yes",y),("no",n)]
def d5 (k v y n b:V):List (Str×V):=[("kind",k),("load",v),("yes",y),("no",n),("body",b)]
theorem pd1 (k:V):putF "kind" k []=d1 k:=rfl
theorem pd2 (k v:V):putF "load" v (d1 k)=d2 k v:=by unfold d1 d2; rw [bO (by decide +kernel)]; rfl
theorem pd3 (k v y:V):putF "yes" y (d2 k v)=d3 k v y:=by unfold d2 d3; rw [bO (by decide +kernel),bO (by decide +kernel)]; rfl
theorem pd4 (k v y n:V):putF "no" n (d3 k v y)=d4 k v y n:=by unfold d3 d4; rw [bO (by decide +kernel),bO (by decide +kernel),bO (by decide +kernel)]; rfl
theorem pd5 (k v y n b:V):putF "body" b (d4 k v y n)=d5 k v y n b:=by unfold d4 d5; rw [bO (by decide +kernel),bO (by decide +kernel),bO (by decide +kernel),bO (by decide +kernel)]; rfl
theorem pd6 (k:Nat) (v y n b z:V):putF "size" z (d5 (.int (k:Int)) v y n b)=fD k v y n b z:=by unfold d5 fD; rw [bO (by decide +kernel),bO (by decide +kernel),bO (by decide +kernel),bO (by decide +kernel),bO (by decide +kernel)]; rfl
variable {k:Nat}{v y n b z u:V}
theorem pdY:putF "yes" u (fD k v y n b z)=fD k v u n b z:=by unfold fD; rw [bO (by decide +kernel),bO (by decide +kernel),wU]
theorem pdN:putF "no" u (fD k v y n b z)=fD k v y u b z:=by unfold fD; rw [bO (by decide +kernel),bO (by decide +kernel),bO (by decide +kernel),wU]
theorem pdB:putF "body" u (fD k v y n b z)=fD k v y n u z:=by unfold fD; rw [bO (by decide +kernel),bO (by decide +kernel),bO (by decide +kernel),bO (by decide +kernel),wU]
theorem pdS:putF "size" u (fD k v y n b z)=fD k v y n b u:=by unfold fD; rw [bO (by decide +kernel),bO (by decide +kernel),bO (by decide +kernel),bO (by decide +kernel),bO (by decide +kernel),wU]
theorem ldK:(fD k v y n b z).lookup ("kind":Str)=some (.int (k:Int)):=eU _ _ _
theorem ldL:(fD k v y n b z).lookup ("load":Str)=some v:=(cM (by decide +kernel) _ _).trans (eU _ _ _)
theorem ldY:(fD k v y n b z).lookup ("yes":Str)=some y:=(cM (by decide +kernel) _ _).trans ((cM (by decide +kernel) _ _).trans (eU _ _ _))
theorem ldN:(fD k v y n b z).lookup ("no":Str)=some n:=(cM (by decide +kernel) _ _).trans ((cM (by decide +kernel) _ _).trans ((cM (by decide +kernel) _ _).trans (eU _ _ _)))
theorem ldB:(fD k v y n b z).lookup ("body":Str)=some b:=(cM (by decide +kernel) _ _).trans ((cM (by decide +kernel) _ _).trans ((cM (by decide +kernel) _ _).trans ((cM (by decide +kernel) _ _).trans (eU _ _ _))))
theorem ldS:(fD k v y n b z).lookup ("size":Str)=some z:=(cM (by decide +kernel) _ _).trans ((cM (by decide +kernel) _ _).trans ((cM (by decide +kernel) _ _).trans ((cM (by decide +kernel) _ _).trans ((cM (by decide +kernel) _ _).trans (eU _ _ _)))))
theorem anp {m:Str} (h1:(m == "kind")=false) (h2:(m == "load")=false) (h3:(m == "yes")=false) (h4:(m == "no")=false) (h5:(m == "body")=false) (h6:(m == "size")=false):(fD k v y n b z).lookup m=none :=
 (cM h1 _ _).trans ((cM h2 _ _).trans ((cM h3 _ _).trans ((cM h4 _ _).trans ((cM h5 _ _).trans ((cM h6 _ _).trans rfl)))))
theorem aad {CG CW:Addr}{m:Nat} (O:Own K CF CL CD CT CG CW) (g:Gh K CF CL CD CT M H₀ H) {t:T}{x:V}{p:Addr} (hx:RV K M H t x) (hd:t.deep≤m) (hp:H p=none) {Q:VK} (q:Q (.bl (decide (t.kids=[]))) (upd H p (.tup []))):acF K m x (.ref p) (upd H p (.tup [])) Q:=by
 have S:=same_new hp (.tup [])
 rcases hx.cases g with h | ⟨a,dx,y,z,u,ts,rfl,ha,rfl,_,_⟩
 ·rcases h with h | ⟨a,dx,v,ts,j,rfl,ha,_,hj,_,rfl⟩
  ·refine .inl ⟨t,.node [],h.mono (.of S),(bN (K:=K) (ts:=[]) hp (bJ.mpr rfl)).2,hd,?_⟩
   have e:T.beq t (.node [])=decide (t.kids=[]):=by
    by_cases z:t.kids=[]
    ·rw [decide_eq_true z]
     exact (T.beq_iff _ _).mpr (by cases t; exact congrArg T.node z)
    ·rw [decide_eq_false z]
     exact Bool.eq_false_iff.mpr fun y=>z (by rw [(T.beq_iff _ _).mp y]; rfl)
   rw [e]
   exact q
  ·refine .inr ⟨a,CL,dx,_,p,[],rfl,S _ _ ha,O.rL,rfl,upd_same,?_⟩
   have z:¬ (T.node (ts.drop j)).kids=[]:=fun z=>by
    have:(ts.drop j).length=0:=by rw [show ts.drop j=[] from z]; rfl
    rw [List.length_drop] at this
    lia
   rw [← decide_eq_false z]
   exact q
 ·refine .inr ⟨a,CF,dx,_,p,[],rfl,S _ _ ha,O.rF,rfl,upd_same,?_⟩
  have z:¬ (T.node (u::ts)).kids=[]:=fun z=>by cases z
  rw [← decide_eq_false z]
  exact q
theorem abm {tc:TT}{tb u:TS}{D:Ends}{σ:L2.St}{H:Hp} (P:L2.St→Hp→Prop) (k:∀ σ' H',P σ' H'→u D σ' H')
  (h:∀ A B:Hp→Prop,(∀ H1,(∀ N:L2.St→Hp→Prop,(∀ σ' H',P σ' H'→N σ' H')→tb { D with nx:=N } σ H1)→A H1)→(∀ H1,P σ H1→B H1)→tc σ H (fun b H1=>if b=true then A H1 else B H1)) :
  tSeq (tIfS tc tb tNext) u D σ H :=
 h (fun H1=>tb { D with nx:=u D } σ H1) (fun H1=>tNext { D with nx:=u D } σ H1) (fun H1 r=>r _ k) (fun H1 p=>k _ _ p)
theorem Sv {t:T}:∀ {ts:List T},t∈ts→t.deep+1≤T.bM ts
 | u::us,h=>by
  rw [T.aL]
  rcases List.mem_cons.mp h with rfl | h
  ·lia
  ·have:=Sv h; lia
theorem afc {t w:T}{p:Nat} (h:t.kids[p]?=some w):w.deep+1≤t.deep:=by
 cases t with
 | node ts =>
  rw [T.aK]
  exact Sv (List.mem_of_getElem? h)
theorem abz (ts:List T) (k:Nat):T.bM (ts.drop k)≤T.bM ts:=by
 have:T.bM ts=max (T.bM (ts.take k)) (T.bM (ts.drop k)):=by rw [← T.dR,List.take_append_drop]
 lia
theorem adn (w:T):(bf w).deep≤w.deep:=by
 cases w with
 | node ts =>
  show (T.node (ts.drop 1)).deep≤_
  rw [T.aK,T.aK]
  exact abz ts 1
end
section
variable (K:PySem.W.Frag) (CF CL CD CT CG CW:Addr)
def acs:Sp:=fun vs H Q _=>∃ (k:Nat) (y:V) (S:Addr) (l:T) (s:List T) (rows:List V) (M:Mp) (H₀:Hp),vs=[.int (k:Int),y,.ref S]∧Gh K CF CL CD CT M H₀ H∧M S=some .mine∧H S=some (.lst rows)∧aX (RV K M H) s.reverse rows∧TR K H l y∧looks k≤s.length∧B 395 8000010 (.node s)∧(∀ t∈s,t.kids.length≤8000000) ∧
 ∀ M' H' rows',Go K CF CL CD CT (fun a=>a=S) M M' H₀ H H'→H' S=some (.lst rows')→aX (RV K M' H') (wI k l s).reverse rows'→Q .non H'
def pI (M:Mp) (H:Hp) (t:T) (x:V):Prop:=∃ g dx a W p tt,x=.ref g∧M g=some .mine∧H g=some (.ins CG dx (fG a p))∧M a=some (.text tt W)∧p≤tt.kids.length∧(∃ ws,H W=some (.lst ws)∧p≤ws.length)∧t=.node (tt.kids.drop p)∧B 389 8000000 tt
structure WkX (M:Mp) (H₀ H:Hp) (o dx G S N:Addr) (gs rows:List V) (tx s:List T) (num:List Nat) (b:Nat):Prop where
 gh:Gh K CF CL CD CT M H₀ H
 ob:H o=some (.ins CW dx (fW G S N b))
 mo:M o=some .mine
 mG:M G=some .mine
 mS:M S=some .mine
 mN:M N=some .mine
 hG:H G=some (.lst gs)
 hS:H S=some (.lst rows)
 hN:H N=some (.lst (num.map nv))
 gos:aX (pI CG M H) tx.reverse gs
 sts:aX (RV K M H) s.reverse rows
 n15:num.length=15
 dGS:G≠S
 dGN:G≠N
 dSN:S≠N
 nd:gs.Nodup
def Wk (M:Mp) (H₀ H:Hp) (o:Addr) (tx s:List T) (num:List Nat) (b:Nat):Prop:=∃ dx G S N gs rows,WkX K CF CL CD CT CG CW M H₀ H o dx G S N gs rows tx s num b
def ZL:Sp:=fun vs H Q _=>∃ o M H₀ tx s num b,vs=[.ref o]∧Wk K CF CL CD CT CG CW M H₀ H o tx s num b∧Q (.bl (decide (tx=[]))) H
def afG:Sp:=fun vs H Q _=>∃ o M H₀ tx s num b,vs=[.ref o]∧Wk K CF CL CD CT CG CW M H₀ H o tx s num b∧∀ x H',Same H H'→RV K M H' (ats s 0) x→Q x H'
def Px:Sp:=fun vs H Q _=>∃ o M H₀ tx s num b,vs=[.ref o]∧Wk K CF CL CD CT CG CW M H₀ H o tx s num b∧∀ c H',Same H H'→SqT K H' c (num.map nv)→Q (.ref c) H'
def Zy:Sp:=fun vs H Q _=>∃ o M H₀ tx s num b,vs=[.ref o]∧Wk K CF CL CD CT CG CW M H₀ H o tx s num b∧BX tx∧B 390 8000000 (.node s)∧∀ y H',Same H H'→TR K H' (Ij tx s) y→Q y H'
def UG:Sp:=fun vs H Q _=>∃ (o dx:Addr) (x:V) (tx s:List T) (b:Nat) (M:Mp) (H₀:Hp),vs=[.ref o,x,.int (b:Int)]∧Gh K CF CL CD CT M H₀ H∧M o=some .mine∧H o=some (.ins CW dx [])∧TR K H (Ij tx s) x∧BX tx∧B 390 8000000 (.node s)∧∀ M' H',Wk K CF CL CD CT CG CW M' H₀ H' o tx s iw b→Q .non H'
def MvT (k:Nat) (w:T) (ws:List T) (rest sp:List T) (num:List Nat) (tx' s':List T) (lO:List Nat):Prop :=
 (k=9∧aH w=8∧tx'=bf w::.node (w::ws)::rest∧s'=sp∧lO=num.set 14 (num.getD 14 0+(bf w).parts)) ∨
 (k=7∧aH w=7∧tx'=ats (bf w).kids 0::.node ws::rest∧s'=sp∧lO=num) ∨
 (k=8∧aH w=7∧tx'=bf (bf w)::.node ws::rest∧s'=sp∧lO=num) ∨
 ((k≤6∨k=10∨k=11)∧tx'=.node ws::rest∧s'=wI k (bf w) sp∧lO=num)
def Rdy (M:Mp) (H:Hp) (g:Addr) (w:T) (ws:List T):Prop:=∃ dg a W j tt wl,M g=some .mine∧H g=some (.ins CG dg (fG a j))∧M a=some (.text tt W)∧H W=some (.lst wl)∧j+1≤wl.length∧tt.kids.drop j=w::ws∧B 389 8000000 tt
def acu:Sp:=fun vs H Q _=>∃ (o dx G S N:Addr) (gs0:List V) (g:Addr) (rows:List V) (p:T) (rest sp:List T) (num:List Nat) (b k:Nat) (wv:V) (M:Mp) (H₀:Hp),vs=[.ref o,.int (k:Int),.ref g,wv]∧WkX K CF CL CD CT CG CW M H₀ H o dx G S N (gs0++[.ref g]) rows (p::rest) sp num b∧looks k≤sp.length∧B 395 8000010 (.node sp)∧(∀ t∈sp,t.kids.length≤8000000)∧rest.length≤8000000 ∧
 ((k=12∧∀ M' H',Wk K CF CL CD CT CG CW M' H₀ H' o rest sp num b→Q .non H') ∨ ∃ w ws bw tx' s' lO,p=.node (w::ws)∧wv=.ref bw∧M bw=some (.word w)∧Rdy CG M H g w ws∧MvT k w ws rest sp num tx' s' lO∧BX tx'∧(bf w).parts≤8000000∧∀ M' H',Wk K CF CL CD CT CG CW M' H₀ H' o tx' s' lO b→Q .non H')
def Zx:Sp:=fun vs H Q _=>∃ o M H₀ tx s num b,vs=[.ref o]∧Wk K CF CL CD CT CG CW M H₀ H o tx s num b∧tx≠[]∧BX tx∧B 390 8000000 (.node s)∧(bL tx s≤b→BX (onward tx s).1∧B 390 8000000 (.node (onward tx s).2.1)) ∧
 (b<bL tx s→∀ M' H',Wk K CF CL CD CT CG CW M' H₀ H' o tx s num b→Q (.bl false) H') ∧
 (bL tx s≤b→∀ M' H',Wk K CF CL CD CT CG CW M' H₀ H' o (onward tx s).1 (onward tx s).2.1 (fC num (o_ tx s)) (b - bL tx s)→Q (.bl true) H')
end
section
variable {K:PySem.W.Frag}{CF CL CD CT CG CW:Addr}{M M':Mp}{H₀ H H':Hp}{X:Addr→Prop}
theorem pI.go {t:T}{x:V} (G:Go K CF CL CD CT X M M' H₀ H H') (hX:∀ g,x=.ref g→¬ X g) (g0:Gh K CF CL CD CT M H₀ H) (h:pI CG M H t x):pI CG M' H' t x:=by
 obtain⟨g,dx,a,W,p,tt,rfl,h1,h2,h3,h4,⟨ws,h5,h6⟩,h7,h8⟩:=h
 obtain⟨_,_,_,_,h9⟩:=g0.ok a _ h3
 obtain⟨ws',e1,e2⟩:=G.wds W _ ws h9 h5
 exact⟨g,dx,a,W,p,tt,rfl,G.ext _ _ h1,(G.mine g h1 (hX g rfl)).trans h2,G.ext _ _ h3,h4,⟨ws',e1,by lia⟩,h7,h8⟩
variable {o dx G S N:Addr}{gs rows:List V}{tx s:List T}{num:List Nat}{b:Nat}
theorem WkX.go (w:WkX K CF CL CD CT CG CW M H₀ H o dx G S N gs rows tx s num b) (g:Go K CF CL CD CT (fun _=>False) M M' H₀ H H'):WkX K CF CL CD CT CG CW M' H₀ H' o dx G S N gs rows tx s num b :=
 ⟨g.gh,(g.mine o w.mo id).trans w.ob,g.ext _ _ w.mo,g.ext _ _ w.mG,g.ext _ _ w.mS,g.ext _ _ w.mN,(g.mine G w.mG id).trans w.hG,(g.mine S w.mS id).trans w.hS,(g.mine N w.mN id).trans w.hN,w.gos.imp fun _ _ h=>h.go g (fun _ _=>id) w.gh,w.sts.imp fun _ _ h=>g.rv h,w.n15,w.dGS,w.dGN,w.dSN,w.nd⟩
theorem WkX.grow (w:WkX K CF CL CD CT CG CW M H₀ H o dx G S N gs rows tx s num b) (S1:Same H H'):WkX K CF CL CD CT CG CW M H₀ H' o dx G S N gs rows tx s num b:=w.go (.grow w.gh S1)
variable {A B C:Addr}{c:Nat}
theorem lwG:(fW A B C c).lookup ("goings":Str)=some (.ref A):=eU _ _ _
theorem lwS:(fW A B C c).lookup ("stack":Str)=some (.ref B):=(cM (by decide +kernel) _ _).trans (eU _ _ _)
theorem lwN:(fW A B C c).lookup ("numbers":Str)=some (.ref C):=(cM (by decide +kernel) _ _).trans ((cM (by decide +kernel) _ _).trans (eU _ _ _))
theorem lwL:(fW A B C c).lookup ("left":Str)=some (.int (c:Int)):=(cM (by decide +kernel) _ _).trans ((cM (by decide +kernel) _ _).trans ((cM (by decide +kernel) _ _).trans (eU _ _ _)))
theorem Gp {m:Str} (h1:(m == "goings")=false) (h2:(m == "stack")=false) (h3:(m == "numbers")=false) (h4:(m == "left")=false):(fW A B C c).lookup m=none:=(cM h1 _ _).trans ((cM h2 _ _).trans ((cM h3 _ _).trans ((cM h4 _ _).trans rfl)))
theorem pwL (d:Nat):putF "left" (.int (d:Int)) (fW A B C c)=fW A B C d:=by unfold fW; rw [bO (by decide +kernel),bO (by decide +kernel),bO (by decide +kernel),wU]
theorem lgT {a:Addr}{p:Nat}:(fG a p).lookup ("text":Str)=some (.ref a):=eU _ _ _
theorem lgP {a:Addr}{p:Nat}:(fG a p).lookup ("place":Str)=some (.int (p:Int)):=(cM (by decide +kernel) _ _).trans (eU _ _ _)
theorem pgP {a:Addr}{p q:Nat}:putF "place" (.int (q:Int)) (fG a p)=fG a q:=by unfold fG; rw [bO (by decide +kernel),wU]
theorem ltT {v:V}{W:Addr}:(fT v W).lookup ("tree":Str)=some v:=eU _ _ _
theorem ano {v:V}{W:Addr}{m:Str} (h1:(m == "tree")=false) (h2:(m == "words")=false):(fT v W).lookup m=none:=(cM h1 _ _).trans ((cM h2 _ _).trans rfl)
theorem Hu {α β:Type}{R:α→β→Prop}{ts:List α}{ys:List β} (h:aX R ts.reverse ys) (hl:2≤ts.length):∃ a b ts0 ys0 y z,ts=a::b::ts0∧ys=ys0++[z]++[y]∧aX R ts0.reverse ys0∧R a y∧R b z:=by
 have hyl:=h.length
 rw [List.length_reverse] at hyl
 obtain⟨a,ts1,ys1,y,rfl,rfl,h1,h2⟩:=mX h (by rintro rfl; simp at hyl; lia)
 have Wv:=h1.length
 rw [List.length_reverse] at Wv
 simp only [List.length_cons] at hl
 obtain⟨b,ts0,ys0,z,rfl,rfl,h3,h4⟩:=mX h1 (by rintro rfl; simp at Wv; lia)
 exact⟨a,b,ts0,ys0,y,z,rfl,rfl,h3,h2,h4⟩
theorem adI {α β:Type}{R:α→β→Prop}{ts:List α}{ys:List β} (h:aX R ts.reverse ys) (hl:3≤ts.length):∃ a b c ts0 ys0 y z w,ts=a::b::c::ts0∧ys=ys0++[w]++[z]++[y]∧aX R ts0.reverse ys0∧R a y∧R b z∧R c w:=by
 obtain⟨a,b,ts1,ys1,y,z,rfl,rfl,h1,h2,h3⟩:=Hu h (by lia)
 have Wv:=h1.length
 rw [List.length_reverse] at Wv
 simp only [List.length_cons] at hl
 obtain⟨c,ts0,ys0,w,rfl,rfl,h4,h5⟩:=mX h1 (by rintro rfl; simp at Wv; lia)
 exact⟨a,b,c,ts0,ys0,y,z,w,rfl,rfl,h4,h2,h3,h5⟩
theorem si2 {α:Type} (xs:List α) (z y:α):seqIndex? (-2) (xs++[z]++[y]).length=some xs.length:=by
 have hl:(xs++[z]++[y]).length=xs.length+2:=by simp
 rw [hl]
 have:=(ixN_seq (n:=xs.length+2) (i:=-2) (j:=xs.length) (by unfold ixN; rw [if_neg (by decide),if_pos (by lia)]; congr 1; lia)).1
 exact this
theorem si3 {α:Type} (xs:List α) (w z y:α):seqIndex? (-3) (xs++[w]++[z]++[y]).length=some xs.length:=by
 have hl:(xs++[w]++[z]++[y]).length=xs.length+3:=by simp
 rw [hl]
 have:=(ixN_seq (n:=xs.length+3) (i:=-3) (j:=xs.length) (by unfold ixN; rw [if_neg (by decide),if_pos (by lia)]; congr 1; lia)).1
 exact this
theorem er2 {α:Type} (xs:List α) (z y:α):(xs++[z]++[y]).eraseIdx xs.length=xs++[y]:=by
 rw [List.append_assoc,List.eraseIdx_append_of_length_le (Nat.le_refl _),Nat.sub_self]
 rfl
theorem er3 {α:Type} (xs:List α) (w z y:α):(xs++[w]++[z]++[y]).eraseIdx xs.length=xs++[z]++[y]:=by
 rw [List.append_assoc,List.append_assoc,List.eraseIdx_append_of_length_le (Nat.le_refl _),Nat.sub_self]
 simp
theorem gt2 {α:Type} (xs:List α) (z y:α):(xs++[z]++[y])[xs.length]?=some z:=by simp
theorem gt3 {α:Type} (xs:List α) (w z y:α):(xs++[w]++[z]++[y])[xs.length]?=some w:=by simp
theorem Go.list {p:Addr}{xs ys:List V} (g:Gh K CF CL CD CT M H₀ H) (hm:M p=some .mine) (h:H p=some (.lst xs)):Go K CF CL CD CT (fun a=>a=p) M M H₀ H (upd H p (.lst ys)):=Go.oX (.refl g) hm rfl (Kt.lst h)
end
section
variable {K:PySem.W.Frag}{H:Hp}{a:Addr}{xs:List V}{σ:Sg}{js:List Nat}{te:TE}{Q:VK}
theorem agH (J:Addr→Nat→List V→Hp→Prop) (hz:xs.length≤sizeLine) (h0:∀ D,H D=none→J D 0 [] (upd H D (.lst [])))
  (hD:∀ D i ys H',J D i ys H'→H' D=some (.lst ys)∧ys.length=i∧SqL K H' a xs)
  (hte:∀ D i x ys H' (R:VK),xs.reverse[i]?=some x→J D i ys H'→(∀ y H3,H3 D=some (.lst ys)→J D (i+1) (ys++[y]) (upd H3 D (.lst (ys++[y])))→R y H3)→te (some x::frv σ js) H' R)
  (q:∀ D ys H',J D xs.length ys H'→Q (.ref D) H'):uX (SwR.X6 K a xs.length) js te σ Q H:=by
 intro D hDn
 refine⟨fun i m ys H'=>m=xs.length - i∧i≤xs.length∧J D i ys H',⟨xs.length,by lia,Nat.zero_le _,h0 D hDn⟩,?_⟩
 rintro i m ys H' ⟨rfl,hi,hj⟩
 obtain⟨h1,h2,h3⟩:=hD D i ys H' hj
 refine⟨h1,?_⟩
 by_cases hlt:i<xs.length
 ·refine .inr ⟨⟨xs,xs.reverse[i]'(by simpa using hlt),h3,rfl,List.getElem?_eq_getElem (by simpa using hlt)⟩,fun x H2 y=>?_⟩
  obtain⟨e,y⟩:=y
  subst e
  exact hte D i x ys _ _ (y xs h3) hj fun y H3 g1 g2=>⟨g1,by lia,xs.length - (i+1),by lia,rfl,hlt,g2⟩
 ·have e:i=xs.length:=by lia
  subst e
  exact .inl ⟨⟨xs,h3,rfl,rfl⟩,q D ys H' hj⟩
theorem agG (J:Addr→Nat→List V→Hp→Prop) (hz:xs.length≤sizeLine) (h0:∀ D,H D=none→J D 0 [] (upd H D (.lst [])))
  (hD:∀ D i ys H',J D i ys H'→H' D=some (.lst ys)∧ys.length=i∧SqT K H' a xs)
  (hte:∀ D i x ys H' (R:VK),xs.reverse[i]?=some x→J D i ys H'→(∀ y H3,H3 D=some (.lst ys)→J D (i+1) (ys++[y]) (upd H3 D (.lst (ys++[y])))→R y H3)→te (some x::frv σ js) H' R)
  (q:∀ D ys H',J D xs.length ys H'→Q (.ref D) H'):uX (SwR.abS K a xs.length) js te σ Q H:=by
 intro D hDn
 refine⟨fun i m ys H'=>m=xs.length - i∧i≤xs.length∧J D i ys H',⟨xs.length,by lia,Nat.zero_le _,h0 D hDn⟩,?_⟩
 rintro i m ys H' ⟨rfl,hi,hj⟩
 obtain⟨h1,h2,h3⟩:=hD D i ys H' hj
 refine⟨h1,?_⟩
 by_cases hlt:i<xs.length
 ·refine .inr ⟨⟨xs,xs.reverse[i]'(by simpa using hlt),h3,rfl,List.getElem?_eq_getElem (by simpa using hlt)⟩,fun x H2 y=>?_⟩
  obtain⟨e,y⟩:=y
  subst e
  exact hte D i x ys _ _ (y xs h3) hj fun y H3 g1 g2=>⟨g1,by lia,xs.length - (i+1),by lia,rfl,hlt,g2⟩
 ·have e:i=xs.length:=by lia
  subst e
  exact .inl ⟨⟨xs,h3,rfl,rfl⟩,q D ys H' hj⟩
theorem Uv {α:Type}{xs:List α}{i:Nat}{x:α} (h:xs[i]?=some x):xs.take (i+1)=xs.take i++[x]:=by
 rw [List.take_add_one,h]
 rfl
theorem Wj {ts:List T} (hl:ts.length=xs.length) (hz:xs.length≤sizeLine) (hx:SqL K H a xs)
  (hte:∀ (i:Nat) x t H' (R:VK),xs.reverse[i]?=some x→ts[i]?=some t→Same H H'→(∀ y H3,Same H' H3→TR K H3 t y→R y H3)→te (some x::frv σ js) H' R)
  (q:∀ D ys H',Same H H'→H' D=some (.lst ys)→TRs K H' ts ys→Q (.ref D) H'):uX (SwR.X6 K a xs.length) js te σ Q H:=by
 refine agH (fun D i ys H'=>H D=none∧Same H H'∧H' D=some (.lst ys)∧ys.length=i∧TRs K H' (ts.take i) ys) hz (fun D hD=>⟨hD,same_new hD _,upd_same,rfl,bJ.mpr rfl⟩) (fun D i ys H' j=>⟨j.2.2.1,j.2.2.2.1,j.2.1.seq hx⟩) (fun D i x ys H' R hxi j hR=>?_) (fun D ys H' j=>?_)
 ·obtain⟨hD,S,h1,hyl,htr⟩:=j
  have hi:i<ts.length:=by have:=(List.getElem?_eq_some_iff.mp hxi).1; rw [List.length_reverse] at this; lia
  refine hte i x ts[i] H' R hxi (List.getElem?_eq_getElem hi) S fun y H3 S3 t3=>?_
  have h3:=S3 _ _ h1
  refine hR y H3 h3 ⟨hD,eX (S.trans S3) hD,upd_same,by rw [List.length_append,hyl]; rfl,?_⟩
  rw [Uv (List.getElem?_eq_getElem hi)]
  exact TRs.append ((htr.mono (.of S3)).mono (Kt.lst h3)) (dO (t3.mono (Kt.lst h3)))
 ·obtain⟨hD,S,h1,hyl,htr⟩:=j
  rw [List.take_of_length_le (by lia)] at htr
  exact q D ys H' S h1 htr
end
theorem aal {α β:Type}{R:α→β→Prop}{ts:List α}{ys:List β} (h:aX R ts.reverse ys):aX R ts ys.reverse:=by have:=h.rev; rw [List.reverse_reverse] at this; exact this
section
variable {K:PySem.W.Frag}{CF CL CD CT CG CW:Addr}{M M':Mp}{H₀ H H':Hp}{X:Addr→Prop}{o dx G S N g:Addr}{gs rows gs' rows':List V}{tx s tx' s':List T}{num lO:List Nat}{b:Nat}{w:T}{ws:List T}
theorem Rdy.go (G:Go K CF CL CD CT X M M' H₀ H H') (hX:¬ X g) (g0:Gh K CF CL CD CT M H₀ H) (h:Rdy CG M H g w ws):Rdy CG M' H' g w ws:=by
 obtain⟨dg,a,W,j,tt,wl,h1,h2,h3,h4,h5,h6,h7⟩:=h
 obtain⟨_,_,_,_,h9⟩:=g0.ok a _ h3
 obtain⟨ws',e1,e2⟩:=G.wds W _ wl h9 h4
 exact⟨dg,a,W,j,tt,ws',G.ext _ _ h1,(G.mine g h1 hX).trans h2,G.ext _ _ h3,e1,by lia,h6,h7⟩
theorem Go.anm {p:Addr}{u:HO}{H1:Hp} (a:Go K CF CL CD CT X M M' H₀ H H1) (hm:M' p=some .mine) (hn:M p≠some .mine) (k:Kt H1 (upd H1 p u)):Go K CF CL CD CT X M M' H₀ H (upd H1 p u) :=
 ⟨a.ext,fun q h x=>by rw [upd_ne (fun z:q=p=>hn (by rw [← z]; exact h))]; exact a.mine q h x,a.kt.trans k,a.gh.mut hm k,fun W t ws h1 h2=>by
  obtain⟨ws',e,l⟩:=a.wds W t ws h1 h2
  have nW:W≠p:=fun z=>by have:=a.ext _ _ h1; rw [z,hm] at this; cases this
  exact⟨ws',by rw [upd_ne nW]; exact e,l⟩⟩
theorem pI.nl {t:T}{x:V}{p:Addr}{l:List V} (h:pI CG M H t x) (hp:H p=some (.lst l)):∀ g,x=.ref g→¬ g=p:=by
 obtain⟨g,dx,a,W,j,tt,rfl,_,h2,_⟩:=h
 rintro g' e rfl
 cases e
 rw [hp] at h2
 cases h2
theorem WkX.setG (w:WkX K CF CL CD CT CG CW M H₀ H o dx G S N gs rows tx s num b) (h:aX (pI CG M H) tx'.reverse gs') (nd:gs'.Nodup):WkX K CF CL CD CT CG CW M H₀ (upd H G (.lst gs')) o dx G S N gs' rows tx' s num b:=by
 have g1:Go K CF CL CD CT (fun a=>a=G) M M H₀ H (upd H G (.lst gs')):=.list w.gh w.mG w.hG
 have no:o≠G:=fun z=>by have:=w.ob; rw [z,w.hG] at this; cases this
 exact⟨g1.gh,by rw [upd_ne no]; exact w.ob,w.mo,w.mG,w.mS,w.mN,upd_same,by rw [upd_ne (Ne.symm w.dGS)]; exact w.hS,by rw [upd_ne (Ne.symm w.dGN)]; exact w.hN,h.imp fun _ _ z=>z.go g1 (z.nl w.hG) w.gh,w.sts.imp fun _ _ z=>g1.rv z,w.n15,w.dGS,w.dGN,w.dSN,nd⟩
theorem WkX.aei (w:WkX K CF CL CD CT CG CW M H₀ H o dx G S N gs rows tx s num b) (hl:lO.length=15):WkX K CF CL CD CT CG CW M H₀ (upd H N (.lst (lO.map nv))) o dx G S N gs rows tx s lO b:=by
 have g1:Go K CF CL CD CT (fun a=>a=N) M M H₀ H (upd H N (.lst (lO.map nv))):=.list w.gh w.mN w.hN
 have no:o≠N:=fun z=>by have:=w.ob; rw [z,w.hN] at this; cases this
 exact⟨g1.gh,by rw [upd_ne no]; exact w.ob,w.mo,w.mG,w.mS,w.mN,by rw [upd_ne w.dGN]; exact w.hG,by rw [upd_ne w.dSN]; exact w.hS,upd_same,w.gos.imp fun _ _ z=>z.go g1 (z.nl w.hN) w.gh,w.sts.imp fun _ _ z=>g1.rv z,hl,w.dGS,w.dGN,w.dSN,w.nd⟩
theorem pI.nw {t:T}{x:V}{A B C:Addr}{c:Nat}{D e:Addr} (h:pI CG M H t x) (hp:H e=some (.ins D dx (fW A B C c))):∀ g,x=.ref g→¬ g=e:=by
 obtain⟨g,dg,a,W,j,tt,rfl,_,h2,_⟩:=h
 rintro g' e rfl
 cases e
 rw [hp] at h2
 have h3:=HO.ins.inj (Option.some.inj h2)
 have h4:fW A B C c=fG a j:=h3.2.2
 unfold fW fG at h4
 have:=congrArg List.length h4
 simp at this
theorem WkX.alb (w:WkX K CF CL CD CT CG CW M H₀ H o dx G S N gs rows tx s num b) (c:Nat):WkX K CF CL CD CT CG CW M H₀ (upd H o (.ins CW dx (fW G S N c))) o dx G S N gs rows tx s num c:=by
 have k:Kt H (upd H o (.ins CW dx (fW G S N c))):=Kt.ins w.ob
 have g1:Go K CF CL CD CT (fun a=>a=o) M M H₀ H (upd H o (.ins CW dx (fW G S N c))):=Go.oX (.refl w.gh) w.mo rfl k
 have nG:G≠o:=fun z=>by have:=w.ob; rw [← z,w.hG] at this; cases this
 have nS:S≠o:=fun z=>by have:=w.ob; rw [← z,w.hS] at this; cases this
 have nN:N≠o:=fun z=>by have:=w.ob; rw [← z,w.hN] at this; cases this
 exact⟨g1.gh,upd_same,w.mo,w.mG,w.mS,w.mN,by rw [upd_ne nG]; exact w.hG,by rw [upd_ne nS]; exact w.hS,by rw [upd_ne nN]; exact w.hN,w.gos.imp fun _ _ z=>z.go g1 (z.nw w.ob) w.gh,w.sts.imp fun _ _ z=>g1.rv z,w.n15,w.dGS,w.dGN,w.dSN,w.nd⟩
theorem WkX.ahp (w:WkX K CF CL CD CT CG CW M H₀ H o dx G S N gs rows tx s num b) (g1:Go K CF CL CD CT (fun a=>a=S) M M' H₀ H H') (h:H' S=some (.lst rows')) (hr:aX (RV K M' H') s'.reverse rows'):WkX K CF CL CD CT CG CW M' H₀ H' o dx G S N gs rows' tx s' num b:=by
 have no:¬ o=S:=fun z=>by have:=w.ob; rw [z,w.hS] at this; cases this
 exact⟨g1.gh,(g1.mine o w.mo no).trans w.ob,g1.ext _ _ w.mo,g1.ext _ _ w.mG,g1.ext _ _ w.mS,g1.ext _ _ w.mN,(g1.mine G w.mG w.dGS).trans w.hG,h,(g1.mine N w.mN (Ne.symm w.dSN)).trans w.hN,w.gos.imp fun _ _ z=>z.go g1 (z.nl w.hS) w.gh,hr,w.n15,w.dGS,w.dGN,w.dSN,w.nd⟩
theorem WkX.onto {gs0:List V}{p:T}{rest:List T} (k:WkX K CF CL CD CT CG CW M H₀ H o dx G S N (gs0++[.ref g]) rows (p::rest) s num b) {dg a W:Addr}{j:Nat}{tt:T}{wl:List V} (h1:M g=some .mine) (h2:H g=some (.ins CG dg (fG a j))) (h3:M a=some (.text tt W)) (h4:H W=some (.lst wl)) (h5:j+1≤wl.length) (h6:tt.kids.drop j=w::ws) (h7:B 389 8000000 tt) :
  WkX K CF CL CD CT CG CW M H₀ (upd H g (.ins CG dg (fG a (j+1)))) o dx G S N (gs0++[.ref g]) rows (.node ws::rest) s num b:=by
 have kt:Kt H (upd H g (.ins CG dg (fG a (j+1)))):=Kt.ins h2
 have g1:Go K CF CL CD CT (fun a=>a=g) M M H₀ H (upd H g (.ins CG dg (fG a (j+1)))):=Go.oX (.refl k.gh) h1 rfl kt
 have nl:∀ {q:Addr}{l:List V},H q=some (.lst l)→q≠g:=fun e z=>by rw [z,h2] at e; cases e
 have no:o≠g:=fun z=>by
  have:=k.ob
  rw [z,h2] at this
  have h3:=HO.ins.inj (Option.some.inj this)
  have h4:fG a j=fW G S N b:=h3.2.2
  unfold fW fG at h4
  have:=congrArg List.length h4
  simp at this
 have hgo:=k.gos
 rw [List.reverse_cons] at hgo
 obtain⟨gs1,y,e1,hg0,_⟩:=aX.snoc hgo
 obtain⟨rfl,rfl⟩:=List.append_inj' e1 rfl |>.imp id (fun z=>(List.cons.inj z).1)
 have nd:=k.nd
 have ng:(.ref g:V) ∉ gs0:=fun z=>(List.nodup_append.mp nd).2.2 _ z _ (by simp) rfl
 have hjk:j+1≤tt.kids.length:=by
  have:=congrArg List.length h6
  rw [List.length_drop,List.length_cons] at this
  lia
 refine⟨g1.gh,by rw [upd_ne no]; exact k.ob,k.mo,k.mG,k.mS,k.mN,by rw [upd_ne (nl k.hG)]; exact k.hG,by rw [upd_ne (nl k.hS)]; exact k.hS,by rw [upd_ne (nl k.hN)]; exact k.hN,?_,k.sts.imp fun _ _ z=>g1.rv z,k.n15,k.dGS,k.dGN,k.dSN,nd⟩
 rw [List.reverse_cons]
 refine aX.append ?_ (aX.one ⟨g,dg,a,W,j+1,tt,rfl,h1,upd_same,h3,hjk,⟨wl,by rw [upd_ne (nl h4)]; exact h4,h5⟩,?_,h7⟩)
 ·refine aX.of_get (hg0.length.symm ▸ rfl) fun i y hy=>?_
  obtain⟨t,et,hgt⟩:=hg0.get hy
  refine⟨t,et,hgt.go g1 (fun g' e z=>?_) k.gh⟩
  subst z
  exact ng (by rw [← e]; exact List.mem_of_getElem? hy)
 ·have:tt.kids.drop (j+1)=ws:=by rw [← List.drop_drop,h6]; rfl
  rw [this]
theorem WkX.newG (k:WkX K CF CL CD CT CG CW M H₀ H o dx G S N gs rows tx s num b) {a g dg:Addr}{t:T} (ht:wB M a t) (hb:B 389 8000000 t) (hg:H g=none) (hd:H dg=none) (ne:dg≠g) :
  WkX K CF CL CD CT CG CW (setM M g .mine) H₀ (mkO H g dg CG (fG a 0)) o dx G S N gs rows tx s num b∧pI CG (setM M g .mine) (mkO H g dg CG (fG a 0)) t (.ref g)∧(.ref g:V) ∉ gs:=by
 have g1:Go K CF CL CD CT (fun _=>False) M (setM M g .mine) H₀ H (mkO H g dg CG (fG a 0)):=.made k.gh hg hd ne
 obtain⟨W,hW⟩:=ht
 obtain⟨_,_,_,_,h9⟩:=k.gh.ok a _ hW
 obtain⟨xs,h10,_,_⟩:=k.gh.ok W _ h9
 refine⟨k.go g1,⟨g,dg,a,W,0,t,rfl,eV,i_,g1.ext _ _ hW,Nat.zero_le _,⟨xs,jw (C:=CG) (fs:=fG a 0) hg hd ne _ _ h10,Nat.zero_le _⟩,by cases t; rfl,hb⟩,fun z=>?_⟩
 obtain⟨i,hi⟩:=List.mem_iff_getElem?.mp z
 obtain⟨t',_,g',_,_,_,_,_,e,_,h2,_⟩:=k.gos.get hi
 cases e
 rw [hg] at h2
 cases h2
theorem WkX.push (k:WkX K CF CL CD CT CG CW M H₀ H o dx G S N gs rows tx s num b) {t:T}{x:V} (h:pI CG M H t x) (hn:x ∉ gs):WkX K CF CL CD CT CG CW M H₀ (upd H G (.lst (gs++[x]))) o dx G S N (gs++[x]) rows (t::tx) s num b:=by
 refine k.setG ?_ ?_
 ·rw [List.reverse_cons]
  exact aX.append k.gos (aX.one h)
 ·refine List.nodup_append.mpr ⟨k.nd,by simp,fun a ha c hc=>?_⟩
  rw [List.mem_singleton.mp hc]
  exact fun z=>hn (z ▸ ha)
theorem pI.new {a g dg:Addr}{t:T} (g0:Gh K CF CL CD CT M H₀ H) (ht:wB M a t) (hb:B 389 8000000 t) (hg:H g=none) (hd:H dg=none) (ne:dg≠g):pI CG (setM M g .mine) (mkO H g dg CG (fG a 0)) t (.ref g):=by
 have g1:Go K CF CL CD CT (fun _=>False) M (setM M g .mine) H₀ H (mkO H g dg CG (fG a 0)):=.made g0 hg hd ne
 obtain⟨W,hW⟩:=ht
 obtain⟨_,_,_,_,h9⟩:=g0.ok a _ hW
 obtain⟨xs,h10,_,_⟩:=g0.ok W _ h9
 exact⟨g,dg,a,W,0,t,rfl,eV,i_,g1.ext _ _ hW,Nat.zero_le _,⟨xs,jw (C:=CG) (fs:=fG a 0) hg hd ne _ _ h10,Nat.zero_le _⟩,by cases t; rfl,hb⟩
def w1 (G:Addr):List (Str×V):=[("goings",.ref G)]
def w2 (G S:Addr):List (Str×V):=[("goings",.ref G),("stack",.ref S)]
def w3 (G S N:Addr):List (Str×V):=[("goings",.ref G),("stack",.ref S),("numbers",.ref N)]
theorem pw1 (G:Addr):putF "goings" (.ref G) []=w1 G:=rfl
theorem pw2 (G S:Addr):putF "stack" (.ref S) (w1 G)=w2 G S:=by unfold w1 w2; rw [bO (by decide +kernel)]; rfl
theorem pw3 (G S N:Addr):putF "numbers" (.ref N) (w2 G S)=w3 G S N:=by unfold w2 w3; rw [bO (by decide +kernel),bO (by decide +kernel)]; rfl
theorem pw4 (G S N:Addr) (b:Nat):putF "left" (.int (b:Int)) (w3 G S N)=fW G S N b:=by unfold w3 fW; rw [bO (by decide +kernel),bO (by decide +kernel),bO (by decide +kernel)]; rfl
theorem af5 {ts:List T}{ys:List V}{i:Nat}{x:V} (h:TRs K H ts ys) (hx:ys.reverse[i]?=some x):∃ t,ts.reverse[i]?=some t∧TR K H t x:=by
 obtain⟨hi,hx'⟩:=SwR.Vl hx
 obtain⟨t,et,ht⟩:=h.get hx'
 have hl:=h.length
 refine⟨t,?_,ht⟩
 rw [List.getElem?_reverse (by lia),← hl]
 exact et
end
theorem bump {num:List Nat}{k:Nat} (h:num.length=15) (hk:k<15):fC num (ev0 k)=num.set k (num.getD k 0+1):=by
 unfold fC ev0
 refine List.ext_getElem? fun i=>?_
 rw [List.getElem?_zipWith,List.getElem?_set,List.getElem?_set,List.getElem?_replicate,List.length_replicate]
 by_cases e:k=i
 ·subst e
  rw [if_pos rfl,if_pos hk,if_pos rfl,if_pos (by lia),List.getElem?_eq_getElem (by lia),List.getD_eq_getElem?_getD,List.getElem?_eq_getElem (by lia)]
  rfl
 ·rw [if_neg e,if_neg e]
  by_cases hi:i<15
  ·rw [if_pos hi,List.getElem?_eq_getElem (by lia)]
   rfl
  ·rw [if_neg hi,List.getElem?_eq_none (by lia)]
theorem afP {num:List Nat}{k j c:Nat} (h:num.length=15) (hk:k<15) (hj:j<15) (hkj:k≠j):fC num ((ev0 k).set j c)=(num.set k (num.getD k 0+1)).set j ((num.set k (num.getD k 0+1)).getD j 0+c):=by
 unfold fC ev0
 refine List.ext_getElem? fun i=>?_
 have hg:(num.set k (num.getD k 0+1)).getD j 0=num.getD j 0:=by
  rw [List.getD_eq_getElem?_getD,List.getElem?_set,if_neg hkj,← List.getD_eq_getElem?_getD]
 rw [hg,List.getElem?_zipWith,List.getElem?_set,List.getElem?_set,List.getElem?_set,List.getElem?_set,List.getElem?_replicate,List.length_set,List.length_set,List.length_replicate]
 by_cases e:j=i
 ·subst e
  rw [if_pos rfl,if_pos hj,if_pos rfl,if_pos (by lia),List.getElem?_eq_getElem (by lia),List.getD_eq_getElem?_getD,List.getElem?_eq_getElem (by lia)]
  rfl
 ·rw [if_neg e,if_neg e]
  by_cases e2:k=i
  ·subst e2
   rw [if_pos rfl,if_pos hk,if_pos rfl,if_pos (by lia),List.getElem?_eq_getElem (by lia),List.getD_eq_getElem?_getD,List.getElem?_eq_getElem (by lia)]
   rfl
  ·rw [if_neg e2,if_neg e2]
   by_cases hi:i<15
   ·rw [if_pos hi,List.getElem?_eq_getElem (by lia)]
    rfl
   ·rw [if_neg hi,List.getElem?_eq_none (by lia)]
theorem abL {num:List Nat}{k:Nat} (h:num.length=15) (hk:k<15):atI (num.map nv) (k:Int)=some (nv (num.getD k 0)):=by
 refine atI_nat ?_
 rw [List.getElem?_map,List.getElem?_eq_getElem (by lia),List.getD_eq_getElem?_getD,List.getElem?_eq_getElem (by lia)]
 rfl
theorem aaE {p:T}{rest s:List T}{w:T}{ws:List T} (h:p.kids=w::ws):stepT (p::rest) s=sH (aH w) (ats s 0):=by
 have hk:(ats (p::rest) 0).kids=w::ws:=h
 unfold stepT sH
 have h9:=tY w
 by_cases e7:aH w=7
 ·rw [if_pos e7]
  by_cases d:(ats s 0).kids=[]
  ·rw [if_pos d,aaQ hk e7 d]
  ·rw [if_neg d,Vx hk e7 d]
 rw [if_neg e7]
 by_cases e8:aH w=8
 ·rw [if_pos e8]
  by_cases d:(ats s 0).kids=[]
  ·rw [if_pos d,Qq hk e8 d]
  ·rw [if_neg d,Qt hk e8 d]
 rw [if_neg e8]
 by_cases e9:aH w=9
 ·rw [if_pos e9,Qs hk e9]
 ·rw [if_neg e9,Qp hk (by lia)]
def Df (k c:Nat) (num:List Nat):List Nat:=if k=2 then (num.set 2 (num.getD 2 0+1)).set 13 ((num.set 2 (num.getD 2 0+1)).getD 13 0+c) else num.set k (num.getD k 0+1)
theorem xq {tx s:List T}{num:List Nat} (h:num.length=15) (h9:stepT tx s≠9):fC num (o_ tx s)=Df (stepT tx s) (bL tx s) num:=by
 have h12:=Ig (tx:=tx) (s:=s)
 unfold o_ Df bL
 by_cases h2:stepT tx s=2
 ·rw [if_pos h2,if_pos h2,if_pos h2,afP h (by lia) (by lia) (by lia)]
 ·rw [if_neg h2,if_neg h9,if_neg h2,bump h (by lia)]
theorem akf {p:T}{rest s:List T}{w:T}{ws:List T}{num:List Nat} (h:p=.node (w::ws)) (hn:num.length=15) :
  MvT (stepT (p::rest) s) w ws rest (pad s (looks (stepT (p::rest) s))) (Df (stepT (p::rest) s) (bL (p::rest) s) num) (onward (p::rest) s).1 (onward (p::rest) s).2.1 (fC num (o_ (p::rest) s)):=by
 subst h
 have hk:(ats (T.node (w::ws)::rest) 0).kids=w::ws:=rfl
 have h9:=tY w
 by_cases e7:aH w=7
 ·by_cases d:(ats s 0).kids=[]
  ·have o:=aaQ hk e7 d
   have hs:stepT (T.node (w::ws)::rest) s=8:=by unfold stepT; rw [o]
   refine .inr (.inr (.inl ⟨hs,e7,?_,?_,?_⟩))
   ·rw [o]
    show T.node (w.kids.drop 2)::_=T.node ((w.kids.drop 1).drop 1)::_
    rw [List.drop_drop]
    rfl
   ·rw [o,hs]; rfl
   ·exact xq hn (by lia)
  ·have o:=Vx hk e7 d
   have hs:stepT (T.node (w::ws)::rest) s=7:=by unfold stepT; rw [o]
   refine .inr (.inl ⟨hs,e7,?_,?_,?_⟩)
   ·rw [o]; rfl
   ·rw [o,hs]; rfl
   ·exact xq hn (by lia)
 by_cases e8:aH w=8
 ·by_cases d:(ats s 0).kids=[]
  ·have o:=Qq hk e8 d
   have hs:stepT (T.node (w::ws)::rest) s=10:=by unfold stepT; rw [o]
   refine .inr (.inr (.inr ⟨.inr (.inl hs),?_,?_,?_⟩))
   ·rw [o]; rfl
   ·rw [hs,Bt (by lia),o]; rfl
   ·exact xq hn (by lia)
  ·have o:=Qt hk e8 d
   have hs:stepT (T.node (w::ws)::rest) s=9:=by unfold stepT; rw [o]
   refine .inl ⟨hs,e8,?_,?_,?_⟩
   ·rw [o]
   ·rw [o,hs]; rfl
   ·unfold o_
    rw [hs,if_neg (by decide),if_pos rfl,afP hn (by lia) (by lia) (by lia)]
    rfl
 by_cases e9:aH w=9
 ·have o:=Qs (s:=s) hk e9
  have hs:stepT (T.node (w::ws)::rest) s=11:=by unfold stepT; rw [o]
  refine .inr (.inr (.inr ⟨.inr (.inr hs),?_,?_,?_⟩))
  ·rw [o]; rfl
  ·rw [hs,Bt (by lia),o]; rfl
  ·exact xq hn (by lia)
 ·have o:=Qp (s:=s) hk (show aH w≤6 by lia)
  have hs:stepT (T.node (w::ws)::rest) s=aH w:=by unfold stepT; rw [o]
  refine .inr (.inr (.inr ⟨.inl (by lia),?_,?_,?_⟩))
  ·rw [o]; rfl
  ·rw [hs,o]
  ·exact xq hn (by lia)
theorem ago {s:List T}{n m:Nat} (h:∀ t∈s,t.kids.length≤m):∀ t∈pad s n,t.kids.length≤m:=fun t ht=>by
 rcases List.mem_append.mp ht with z | z
 ·exact h t z
 ·rw [List.eq_of_mem_replicate z]
  exact Nat.zero_le _
theorem agM {s:List T}{m:Nat} (h:T.aA s≤m):∀ t∈s,t.kids.length≤m:=fun t ht=>by
 have h1:=T.iu ht
 have h2:=T.cG t
 have h3:=T.cV t.kids
 lia
theorem aeQ {k:Nat} (h:k≤12):atI ([.int 0,.int 1,.int 1,.int 2,.int 2,.int 1,.int 3,.int 1,.int 1,.int 1,.int 1,.int 0,.int 0]:List V) (k:Int)=some (.int (looks k:Nat)):=by
 have:∀ k,k≤12→([V.int 0,.int 1,.int 1,.int 2,.int 2,.int 1,.int 3,.int 1,.int 1,.int 1,.int 1,.int 0,.int 0]:List V)[k]?=some (.int (looks k:Nat)):=by decide
 exact atI_nat (this k h)
theorem ahV {s:List T}{i n:Nat} (h1:s.length+i≤max n s.length) (h2:n≤s.length+i):s++List.replicate i leaf=pad s n:=by
 unfold pad
 have:i=n - s.length:=by lia
 rw [this]
theorem PK (num:List Nat) (k c:Nat):(num.map nv).set k (.int ((num.getD k 0:Int)+(c:Int)))=(num.set k (num.getD k 0+c)).map nv:=by
 rw [← ah6]
 congr 1
theorem drop_cons {α:Type}{xs:List α}{j:Nat}{x:α} (h:xs[j]?=some x):xs.drop j=x::xs.drop (j+1):=by
 have hj:=(List.getElem?_eq_some_iff.mp h).1
 rw [List.drop_eq_getElem_cons hj]
 rw [List.getElem?_eq_getElem hj] at h
 rw [Option.some.inj h]
def J3 (K:PySem.W.Frag) (CF CL CD CT CG CW:Addr):Sp:=fun vs H Q _=>∃ (x:V) (tx s:List T) (b:Nat),vs=[x,.int (b:Int)]∧TR K H (Ij tx s) x∧Sane b tx s ∧
 ∀ o M' H' b',Wk K CF CL CD CT CG CW M' H H' o (goT b tx s).1 (goT b tx s).2.1 (goT b tx s).2.2 b'→Q (.ref o) H'
end Sw
namespace d8
open PySem PySem.Spec PyProof.Rows L2 Sw
def top (i:Nat):Stmt:=PySem.Challenge.pw_selfword_k62_towers.main.body.getD i (.Pass ⟨0,0,0,0⟩)
abbrev nq:Stmt:=top 1
abbrev vh:Stmt:=top 2
abbrev tZ:Stmt:=top 3
abbrev oE:Stmt:=top 16
abbrev oH:Stmt:=top 17
abbrev zK:Stmt:=top 18
abbrev rQ:Stmt:=top 19
abbrev qu:Stmt:=top 20
abbrev xU:Stmt:=top 21
abbrev gF:Stmt:=top 22
abbrev CK:Stmt:=top 24
abbrev iM:Stmt:=top 34
abbrev oG:Stmt:=top 35
abbrev k_:Stmt:=top 36
abbrev oA:Stmt:=top 37
abbrev oK:Stmt:=top 38
abbrev oJ:Stmt:=top 39
abbrev jC:Stmt:=top 40
abbrev gG:Stmt:=top 41
abbrev uc:Stmt:=top 53
abbrev j8:Stmt:=top 54
abbrev xW:Stmt:=top 55
abbrev pL:Stmt:=top 56
abbrev mO:Stmt:=top 61
abbrev rP:Stmt:=top 62
abbrev g_:Stmt:=top 63
abbrev mR:Stmt:=top 67
abbrev oF:Stmt:=top 68
abbrev t_:Stmt:=top 69
abbrev jq:Stmt:=top 70
abbrev iB:Stmt:=top 71
abbrev oM:Stmt:=top 72
abbrev mQ:Stmt:=top 74
abbrev xV:Stmt:=top 75
abbrev ou:Stmt:=top 76
abbrev xT:Stmt:=top 81
abbrev jt:Stmt:=top 83
abbrev gD:Stmt:=top 84
abbrev gC:Stmt:=top 85
abbrev lu:Stmt:=top 86
abbrev nu:Stmt:=top 87
abbrev jr:Stmt:=top 88
abbrev eZ:Stmt:=top 89
abbrev lg:Stmt:=top 91
abbrev lq:Stmt:=top 92
abbrev jD:Stmt:=top 93
abbrev h_:Stmt:=top 94
abbrev jE:Stmt:=top 95
abbrev jf:Stmt:=top 96
abbrev eY:Stmt:=top 97
abbrev sy:Stmt:=top 98
theorem aem:FnScope ["tree"] ["tree"] (defScope nq):=⟨rfl,rfl,rfl,by decide +kernel,rfl,by decide +kernel,by decide +kernel⟩
theorem afZ:FnScope ["tree"] ["tree"] (defScope vh):=⟨rfl,rfl,rfl,by decide +kernel,rfl,by decide +kernel,by decide +kernel⟩
theorem xR:FnScope ["tree","waiting","counted","part"] ["tree"] (defScope tZ):=⟨rfl,rfl,rfl,by decide +kernel,rfl,by decide +kernel,by decide +kernel⟩
theorem aaG:FnScope ["word"] ["word"] (defScope oE):=⟨rfl,rfl,rfl,by decide +kernel,rfl,by decide +kernel,by decide +kernel⟩
theorem aaI:FnScope ["word"] ["word"] (defScope oH):=⟨rfl,rfl,rfl,by decide +kernel,rfl,by decide +kernel,by decide +kernel⟩
theorem ahr:FnScope ["tree"] ["tree"] (defScope zK):=⟨rfl,rfl,rfl,by decide +kernel,rfl,by decide +kernel,by decide +kernel⟩
theorem aek:FnScope ["sort"] ["sort"] (defScope rQ):=⟨rfl,rfl,rfl,by decide +kernel,rfl,by decide +kernel,by decide +kernel⟩
theorem af2:FnScope ["yes","no"] ["yes","no"] (defScope qu):=⟨rfl,rfl,rfl,by decide +kernel,rfl,by decide +kernel,by decide +kernel⟩
theorem af0:FnScope ["body"] ["body"] (defScope xU):=⟨rfl,rfl,rfl,by decide +kernel,rfl,by decide +kernel,by decide +kernel⟩
theorem acB:FnScope ["names"] ["names"] (defScope gF):=⟨rfl,rfl,rfl,by decide +kernel,rfl,by decide +kernel,by decide +kernel⟩
theorem ahq:FnScope ["text","tree"] ["text","tree"] (defScope CK):=⟨rfl,rfl,rfl,by decide +kernel,rfl,by decide +kernel,by decide +kernel⟩
theorem SQ:FnScope [] [] (defScope iM):=⟨rfl,rfl,rfl,by decide +kernel,rfl,by decide +kernel,by decide +kernel⟩
theorem Np:FnScope ["wrapped"] [] (defScope oG):=⟨rfl,rfl,rfl,by decide +kernel,rfl,by decide +kernel,by decide +kernel⟩
theorem Ve:FnScope [] [] (defScope k_):=⟨rfl,rfl,rfl,by decide +kernel,rfl,by decide +kernel,by decide +kernel⟩
theorem Cy:FnScope ["word_gone","shut"] [] (defScope oA):=⟨rfl,rfl,rfl,by decide +kernel,rfl,by decide +kernel,by decide +kernel⟩
theorem wK:FnScope ["text","sort"] [] (defScope oK):=⟨rfl,rfl,rfl,by decide +kernel,rfl,by decide +kernel,by decide +kernel⟩
theorem Nq:FnScope ["sort","cleared"] ["sort"] (defScope oJ):=⟨rfl,rfl,rfl,by decide +kernel,rfl,by decide +kernel,by decide +kernel⟩
theorem Ek:FnScope ["word_whole"] [] (defScope jC):=⟨rfl,rfl,rfl,by decide +kernel,rfl,by decide +kernel,by decide +kernel⟩
theorem J_:FnScope [] [] (defScope gG):=⟨rfl,rfl,rfl,by decide +kernel,rfl,by decide +kernel,by decide +kernel⟩
theorem aen:FnScope ["text","tree"] ["text","tree"] (defScope uc):=⟨rfl,rfl,rfl,by decide +kernel,rfl,by decide +kernel,by decide +kernel⟩
theorem Yo:FnScope ["sort","top"] ["sort","top"] (defScope j8):=⟨rfl,rfl,rfl,by decide +kernel,rfl,by decide +kernel,by decide +kernel⟩
theorem af3:FnScope ["tally"] ["tally"] (defScope xW):=⟨rfl,rfl,rfl,by decide +kernel,rfl,by decide +kernel,by decide +kernel⟩
theorem aeo:FnScope ["one","other"] ["one","other"] (defScope pL):=⟨rfl,rfl,rfl,by decide +kernel,rfl,by decide +kernel,by decide +kernel⟩
theorem vg:FnScope ["tally","taken","times","numbers"] ["tally"] (defScope mO):=⟨rfl,rfl,rfl,by decide +kernel,rfl,by decide +kernel,by decide +kernel⟩
theorem Cw:FnScope ["height","text","built","level"] ["height","text"] (defScope rP):=⟨rfl,rfl,rfl,by decide +kernel,rfl,by decide +kernel,by decide +kernel⟩
theorem pJ:FnScope ["height","tally","taken","level"] ["height","tally"] (defScope g_):=⟨rfl,rfl,rfl,by decide +kernel,rfl,by decide +kernel,by decide +kernel⟩
theorem Yp:FnScope ["row"] ["row"] (defScope mR):=⟨rfl,rfl,rfl,by decide +kernel,rfl,by decide +kernel,by decide +kernel⟩
theorem aaH:FnScope ["row"] ["row"] (defScope oF):=⟨rfl,rfl,rfl,by decide +kernel,rfl,by decide +kernel,by decide +kernel⟩
theorem ael:FnScope ["tree","place"] ["tree","place"] (defScope t_):=⟨rfl,rfl,rfl,by decide +kernel,rfl,by decide +kernel,by decide +kernel⟩
theorem Vd:FnScope ["row"] ["row"] (defScope jq):=⟨rfl,rfl,rfl,by decide +kernel,rfl,by decide +kernel,by decide +kernel⟩
theorem j7:FnScope ["row","most","waiting","counted","part"] ["row","most"] (defScope iB):=⟨rfl,rfl,rfl,by decide +kernel,rfl,by decide +kernel,by decide +kernel⟩
theorem su:FnScope ["row","ahead","taken","part","tree"] ["row"] (defScope oM):=⟨rfl,rfl,rfl,by decide +kernel,rfl,by decide +kernel,by decide +kernel⟩
theorem Yn:FnScope ["text","tree","budget"] ["text","tree","budget"] (defScope mQ):=⟨rfl,rfl,rfl,by decide +kernel,rfl,by decide +kernel,by decide +kernel⟩
theorem ZQ:FnScope ["stand","budget","walk"] ["stand","budget"] (defScope xV):=⟨rfl,rfl,rfl,by decide +kernel,rfl,by decide +kernel,by decide +kernel⟩
theorem R5:FnScope ["stand","budget","walk"] ["stand","budget"] (defScope ou):=⟨rfl,rfl,rfl,by decide +kernel,rfl,by decide +kernel,by decide +kernel⟩
theorem PL:FnScope ["step","load","stack","item","row"] ["step","load","stack"] (defScope xT):=⟨rfl,rfl,rfl,by decide +kernel,rfl,by decide +kernel,by decide +kernel⟩
theorem jB:FnScope ["_law_script","_law_cells","_law_deck_here","_law_k","_law_cell","_law_mixed"] ["_law_script"] (defScope jt):=⟨rfl,rfl,rfl,by decide +kernel,rfl,by decide +kernel,by decide +kernel⟩
theorem Vh:FnScope ["_law_deck_here","_law_many"] ["_law_deck_here","_law_many"] (defScope gD):=⟨rfl,rfl,rfl,by decide +kernel,rfl,by decide +kernel,by decide +kernel⟩
theorem Fx:FnScope ["_law_deck_here","_law_deep"] ["_law_deck_here","_law_deep"] (defScope gC):=⟨rfl,rfl,rfl,by decide +kernel,rfl,by decide +kernel,by decide +kernel⟩
theorem Vi:FnScope ["_law_deck_here"] ["_law_deck_here"] (defScope lu):=⟨rfl,rfl,rfl,by decide +kernel,rfl,by decide +kernel,by decide +kernel⟩
theorem jA:FnScope ["_law_deck_here","_law_deep","_law_way","_law_sort_here","_law_ahead","_law_at"] ["_law_deck_here","_law_deep"] (defScope nu):=⟨rfl,rfl,rfl,by decide +kernel,rfl,by decide +kernel,by decide +kernel⟩
theorem Fy:FnScope ["_law_deck_here","_law_deep","_law_many"] ["_law_deck_here","_law_deep","_law_many"] (defScope jr):=⟨rfl,rfl,rfl,by decide +kernel,rfl,by decide +kernel,by decide +kernel⟩
theorem S_:FnScope ["_law_tree_here"] ["_law_tree_here"] (defScope eZ):=⟨rfl,rfl,rfl,by decide +kernel,rfl,by decide +kernel,by decide +kernel⟩
theorem Vf:FnScope ["_law_stack_here","_law_sort_here"] ["_law_stack_here","_law_sort_here"] (defScope lg):=⟨rfl,rfl,rfl,by decide +kernel,rfl,by decide +kernel,by decide +kernel⟩
theorem Vg:FnScope ["_law_stand"] ["_law_stand"] (defScope lq):=⟨rfl,rfl,rfl,by decide +kernel,rfl,by decide +kernel,by decide +kernel⟩
theorem SX:FnScope ["_law_sort_here","_law_load_here","_law_stack_here"] ["_law_sort_here","_law_load_here","_law_stack_here"] (defScope jD):=⟨rfl,rfl,rfl,by decide +kernel,rfl,by decide +kernel,by decide +kernel⟩
theorem iz:FnScope ["_law_stand","_law_texts","_law_stack_here","_law_sort_here","_law_load_here","_law_onward"] ["_law_stand"] (defScope h_):=⟨rfl,rfl,rfl,by decide +kernel,rfl,by decide +kernel,by decide +kernel⟩
theorem qK:FnScope ["_law_height","_law_text_here","_law_runner","_law_k"] ["_law_height","_law_text_here"] (defScope jE):=⟨rfl,rfl,rfl,by decide +kernel,rfl,by decide +kernel,by decide +kernel⟩
theorem pK:FnScope ["_law_height","_law_tally","_law_k","_law_more"] ["_law_height","_law_tally"] (defScope jf):=⟨rfl,rfl,rfl,by decide +kernel,rfl,by decide +kernel,by decide +kernel⟩
theorem lE:FnScope ["_law_height","_law_text_here","_law_tree_here","_law_tally","_law_due","_law_told","_law_stand","_law_found"] ["_law_height","_law_text_here","_law_tree_here","_law_tally","_law_due"] (defScope eY):=⟨rfl,rfl,rfl,by decide +kernel,rfl,by decide +kernel,by decide +kernel⟩
theorem lJ:FnScope ["_law_script","_law_deck_here","_law_text_here","_law_tree_here","_law_height","_law_tally","_law_stand","_law_steps","_law_own","_law_due"] ["_law_script"] (defScope sy):=⟨rfl,rfl,rfl,by decide +kernel,rfl,by decide +kernel,by decide +kernel⟩
section
variable {P:Program}{w:World}{K:PySem.W.Frag}{mg:Str→Option Value}{base:Heap}{f:Addr}{fd:FuncData}
def pw5:Nat→Nat
 | 0=>60
 | d+1=>62+6 * pw5 d
def XQ (d:Nat) (t:T):Prop:=B (4+2 * d) (pw5 d) t∧GW t
theorem ahF (d:Nat):60≤pw5 d:=by cases d <;> (show 60≤_) <;> (unfold pw5) <;> lia
def ZF (K:PySem.W.Frag):Sp:=fun vs H Q _=>∃ p:Addr,vs=[.ref p]∧wC H p∧∀ y t H',Dr p H H'→TR K H' t y→ShT 2 t→Q y H'
def Zu (K:PySem.W.Frag) (n:Nat):Sp:=fun vs H Q _=>∃ (p:Addr) (d:Nat),vs=[.ref p,.int (d:Int)]∧d<n∧wC H p∧∀ y t H',Dr p H H'→TR K H' t y→XQ d t→Q y H'
def Zw (K:PySem.W.Frag) (n:Nat):Sp:=fun vs H Q _=>∃ (p:Addr) (d m:Nat),vs=[.ref p,.int (d:Int),.int (m:Int)]∧d<n∧m≤7∧wC H p∧∀ y t H',Dr p H H'→TR K H' t y→(∀ w∈t.kids,XQ d w)→t.kids.length≤m→Q y H'
def tX (K:PySem.W.Frag):Sp:=fun vs H Q _=>∃ x t,vs=[x]∧TR K H t x∧∀ y H',Same H H'→TR K H' (ats t.kids 0) y→Q y H'
def Zv (K:PySem.W.Frag):Sp:=fun vs H Q _=>∃ x s,∃ k:Nat,vs=[x,.int (k:Int)]∧TR K H (.node s) x∧s.length≤8000000∧k≤9∧∀ y H',Same H H'→TR K H' (.node (pad s (many k))) y→Q y H'
def ZC (K:PySem.W.Frag):Sp:=fun vs H Q _=>∃ (x:V) (w:T) (ws tx s:List T),vs=[x]∧TR K H (.node [.node (.node (w::ws)::tx),.node s]) x∧∀ H',Same H H'→Q (.int (aH w:Nat)) H'
def UW (K:PySem.W.Frag):Sp:=fun vs H Q _=>∃ (k:Nat) (y z:V) (l:T) (s:List T),vs=[.int (k:Int),y,z]∧TR K H l y∧TR K H (.node s) z∧k≤9∧many k≤s.length∧B 395 8000010 (.node s)∧∀ v H',Same H H'→TR K H' (.node (wI k l s)) v→Q v H'
theorem Wu {tc:TT}{tb te:TS}{u:TS}{D:Ends}{σ:L2.St}{H:Hp} (P:L2.St→Hp→Prop) (k:∀ σ' H',P σ' H'→u D σ' H') (h:∀ N:L2.St→Hp→Prop,(∀ σ' H',P σ' H'→N σ' H')→tIfS tc tb te { D with nx:=N } σ H):tSeq (tIfS tc tb te) u D σ H:=h _ k
theorem ajE {a b a' b':Nat}{as:List T}{t:T} (k:Nat) (h:B a b (.node as)) (ht:B a' b' t):B (max a (a'+1)) (b+b') (.node ((as.take k++[t])++as.drop (k+1))):=by
 have e:as.take k++as.drop k=as:=List.take_append_drop k as
 have d1:T.bM (as.drop (k+1))≤T.bM as:=by have:=T.dR (as.take (k+1)) (as.drop (k+1)); rw [List.take_append_drop] at this; lia
 have d2:T.bM (as.take k)≤T.bM as:=by have:=T.dR (as.take k) (as.drop k); rw [e] at this; lia
 have p1:=T.bV (as.take k) (as.drop k)
 rw [e] at p1
 have p2:=ug 1 (as.drop k)
 rw [List.drop_drop] at p2
 obtain⟨h1,h2⟩:=h
 obtain⟨h3,h4⟩:=ht
 rw [T.aK] at h1
 rw [T.aG] at h2
 refine⟨?_,?_⟩
 ·rw [T.aK,T.dR,T.dR,T.aL,T.aZ]; lia
 ·rw [T.aG,T.bV,T.bV,T.aq,T.aO]; lia
theorem Rh (p:Addr) (e:Nat):[V.ref p,V.int (((e+1:Nat):Int) - 1),V.int 3]=[V.ref p,V.int (e:Int),V.int ((3:Nat):Int)]:=by
 rw [show ((e+1:Nat):Int) - 1=(e:Int) by lia]; rfl
theorem ajW (n:Nat):((List.replicate n (List.map W [1])).flatten).length=n:=by
 induction n with
 | zero=>rfl
 | succ n ih=>rw [List.replicate_succ,List.flatten_cons,List.length_append,ih]; show 1+n=n+1; lia
theorem ahm:∀ i:Nat,i≤8→(T.node ([5,3].map W++cu i)).deep≤400∧(T.node ([5,3].map W++cu i)).parts≤1000000:=by decide +kernel
theorem aiz:∀ i:Nat,i≤7→(T.node (nQ i)).deep≤400∧(T.node (nQ i)).parts≤1000000:=by decide +kernel
theorem Wt {b:Int}:∀ {ys:List V},(∀ (i:Nat) y,ys[i]?=some y→∃ n:Int,y=.int n∧0≤n∧n<b)→∃ ns:List Int,ys=ns.map V.int∧∀ n∈ns,0≤n∧n<b
 | [],_=>⟨[],rfl,fun _ h=>by simp at h⟩
 | y::ys,h=>by
  obtain⟨n,rfl,h1,h2⟩:=h 0 y rfl
  obtain⟨ns,e,g⟩:=Wt (ys:=ys) fun i z e=>h (i+1) z (by simpa using e)
  refine⟨n::ns,by rw [e]; rfl,fun m hm=>?_⟩
  rcases List.mem_cons.mp hm with rfl | hm
  ·exact⟨h1,h2⟩
  ·exact g m hm
def afC:List T:=[W 5,dU 0 [],W 6,W 4,dU 0 [],W 6,W 4]
def NT:List Str:=[PySem.Str.ofString "lay",PySem.Str.ofString "drop",PySem.Str.ofString "twin",PySem.Str.ofString "swap",PySem.Str.ofString "front",PySem.Str.ofString "part",PySem.Str.ofString "turn",PySem.Str.ofString "fork",PySem.Str.ofString "while"]
def aa3 (k:Nat):Str:=NT.getD k (PySem.Str.ofString "")
theorem agB:∀ k:Nat,k≤8→NT[k]?=some (aa3 k)∧∀ m,m<k→NT[m]?≠some (aa3 k):=by decide +kernel
def mL (K:PySem.W.Frag) (t:List T):Sp:=fun vs H Q _=>vs=[]∧∀ y H',Same H H'→TR K H' (.node t) y→Q y H'
def n_ (K:PySem.W.Frag):Sp:=fun vs H Q _=>∃ (z:Str) (ks:List Nat),vs=[.str z]∧z.length≤1000∧((Builtin.Str.spaceWords z (z.length+1)).length≤1000∧(Txt.words z).length≤1000)∧Txt.words z=ks.map aa3∧(∀ k∈ks,1≤k∧k≤6)∧∀ y H',Same H H'→TR K H' (.node (ks.map W)) y→Q y H'
def U6 (K:PySem.W.Frag):Sp:=fun vs H Q _=>∃ k:Nat,vs=[.int (k:Int)]∧k≤7∧∀ y H',Same H H'→TR K H' (.node (nQ k)) y→Q y H'
theorem aa4 {K:PySem.W.Frag}{H:Hp}{Q:VK}{x y:V}{k:Int}{ts:List T} (n:Nat) (hx:TR K H (.node ts) x) (hy:y=.int k) (hk:k=(n:Int)) (hn:n≤100) (q:∀ z H',Same H H'→TR K H' (.node (List.replicate n ts).flatten) z→Q z H') (hl:ts.length≤100:=by decide):Ga K x y H Q:=by
 obtain⟨a,xs,rfl,ha,ra⟩:=cF.mp hx
 have hlen:=ra.length
 refine⟨a,k,xs,rfl,hy,ha,by lia,by lia,small (by rw [hk,Int.toNat_natCast,hlen]; exact Nat.le_trans (Nat.mul_le_mul hl hn) (by decide)),fun p H' S hp=>q _ _ S (uW hp ?_)⟩
 have r2:TRs K H' ts xs:=ra.mono (.of S)
 unfold vO
 rw [hk,Int.toNat_natCast]
 clear hp hn hk hy q
 induction n with
 | zero=>exact bJ.mpr rfl
 | succ n ih =>
  rw [List.replicate_succ,List.flatten_cons,List.replicate_succ,List.flatten_cons]
  exact TRs.append r2 ih
theorem ah9 {K:PySem.W.Frag}{H:Hp}{Q:VK}{σ:L2.St}{x y:V}{k:Int}{ts:List T} (n:Nat) (hx:TR K H (.node ts) x) (hy:y=.int k) (hk:k=(n:Int)) (hn:n≤100) (q:∀ z H',Same H H'→TR K H' (.node (List.replicate n ts).flatten) z→Q z H') (hl:ts.length≤100:=by decide):tC y σ H (fun y H2=>Ga K x y H2 Q):=aa4 n hx hy hk hn q hl
def afQ (K:PySem.W.Frag) (H:Hp) (a:Addr) (rows:List (List Nat)):Prop:=∃ ys,SqT K H a ys∧aX (fun r y=>∃ b,y=V.ref b∧SqT K H b (List.map nv r)) rows ys
def J5 (K:PySem.W.Frag):Sp:=fun vs H Q _=>∃ a ns,vs=[.ref a]∧SqT K H a (List.map nv ns)∧ns.length=15∧∀ p H',Same H H'→SqT K H' p ((turnT ns).map nv)→Q (.ref p) H'
theorem agS {K:PySem.W.Frag}{a b:Addr}{xs ys:List V}{tb:TS}{D:Ends}{σ:Sg}{H:Hp}{g:TG} (Pv:Nat→Sg→Hp→Prop) (h0:Pv 0 σ H) (he:xs.length=ys.length) (hl:∀ i σ H,i≤xs.length→Pv i σ H→SqT K H a xs∧SqT K H b ys)
  (hs:∀ i x y σ H p,xs[i]?=some x→ys[i]?=some y→Pv i σ H→H p=none→g (.ref p) σ (upd H p (.tup [x,y])) fun σ2 H2=>tb { D with nx:=Pv (i+1),ct:=Pv (i+1),bk:=D.nx } σ2 H2) (hd:∀ σ H,Pv xs.length σ H→D.nx σ H) :
  ∃ W:Nat→Nat→Sg→Hp→Prop,(∃ m,W 0 m σ H)∧∀ i m σ H,W i m σ H →
   ((Itz K a b).stop i H∧D.nx σ H)∨((Itz K a b).go i H∧∃ N:Sg→Hp→Prop,(∀ σ' H',N σ' H'→∃ m',m'<m∧W (i+1) m' σ' H')∧∀ x H',(Itz K a b).yld i H x H'→g x σ H' fun σ2 H2=>tb { D with nx:=N,ct:=N,bk:=D.nx } σ2 H2):=by
 refine⟨fun i m σ H=>m=xs.length - i∧i≤xs.length∧Pv i σ H,⟨xs.length,rfl,Nat.zero_le _,h0⟩,?_⟩
 rintro i m σ H ⟨rfl,hi,p⟩
 obtain⟨qa,qb⟩:=hl i σ H hi p
 by_cases hlt:i<xs.length
 ·have ex:xs[i]?=some xs[i]:=List.getElem?_eq_getElem hlt
  have ey:ys[i]?=some ys[i]:=List.getElem?_eq_getElem (by lia)
  refine .inr ⟨⟨_,_,_,_,qa,qb,ex,ey⟩,Pv (i+1),fun σ' H' p'=>⟨xs.length - (i+1),by lia,rfl,hlt,p'⟩,fun v H' y=>?_⟩
  obtain⟨q,x,y,rfl,hq,rfl,hx,hy⟩:=y
  exact hs i x y σ _ q (hx _ qa) (hy _ qb) p hq
 ·have e:i=xs.length:=by lia
  subst e
  exact .inl ⟨⟨_,qa,Nat.le_refl _⟩,hd σ H p⟩
theorem aif {K:PySem.W.Frag}{a:Addr}{H1:Hp}{ns:List Nat}{f:Nat→Nat}{σ:Sg}{js:List Nat}{te:TE}{Q:VK} (hn:ns.length≤1000) (ha:SqT K H1 a (ns.map nv))
  (hte:∀ (i:Nat) (H':Hp) (R:VK),i∈ns→R (nv (f i)) H'→te (some (nv i)::frv σ js) H' R)
  (q:∀ D H',Same H1 H'→H' D=some (.lst ((ns.map f).map nv))→Q (.ref D) H'):uX (Itt K a) js te σ Q H1:=by
 refine agF (K:=K) (xs:=ns.map nv) (fun D i ys H'=>H1 D=none∧Same H1 H'∧H' D=some (.lst ys)∧ys=((ns.take i).map f).map nv∧i≤ns.length) (small (by rw [List.length_map]; lia)) (fun D hD=>⟨hD,same_new hD _,upd_same,rfl,Nat.zero_le _⟩) (fun D i ys H' j=>⟨j.2.2.1,?_,bW (.of j.2.1) ha⟩) (fun D i x ys H' R hx j hR=>?_) (fun D ys H' j=>?_)
 ·rw [j.2.2.2.1,List.length_map,List.length_map,List.length_take]
  exact Nat.min_eq_left j.2.2.2.2
 ·obtain⟨hD,S,h1,h2,_⟩:=j
  rw [List.getElem?_map] at hx
  cases hh:ns[i]? with
  | none=>rw [hh] at hx; cases hx
  | some m =>
   rw [hh] at hx
   cases hx
   refine hte m _ _ (List.mem_of_getElem? hh) (hR _ _ h1 ⟨hD,eX S hD,upd_same,?_,(List.getElem?_eq_some_iff.mp hh).1⟩)
   rw [h2,List.take_succ,hh,List.map_append,List.map_append]
   rfl
 ·obtain⟨hD,S,h1,h2,_⟩:=j
  rw [List.length_map,List.take_of_length_le (Nat.le_refl _)] at h2
  exact q D H' S (by rw [h1,h2])
def Bv (K:PySem.W.Frag):Sp:=fun vs H Q _=>∃ (h:Nat) (x:V) (t:T),vs=[.int (h:Int),x]∧h≤6∧TR K H t x∧B 60 20000 t∧∀ y H',Same H H'→TR K H' (cQ h t) y→Q y H'
def xO (K:PySem.W.Frag):Sp:=fun vs H Q _=>∃ (h:Nat) (a:Addr) (ns:List Nat),vs=[.int (h:Int),.ref a]∧h≤6∧SqT K H a (ns.map nv)∧ns.length=15∧∀ p H',Same H H'→SqT K H' p ((upN h ns).map nv)→Q (.ref p) H'
def ZM (K:PySem.W.Frag):Sp:=fun vs H Q _=>∃ (h:Nat) (xt xx xd:V) (a:Addr) (t x d:T) (ns:List Nat) (s:List T),vs=[.int (h:Int),xt,xx,.ref a,xd]∧h≤2∧TR K H t xt∧TR K H x xx∧TR K H d xd∧B 60 20000 t∧SqT K H a (ns.map nv)∧ns.length=15∧d.deep≤300∧(∀ b,Sane b [cQ h t] [x])∧(∀ ω,Wo ω ([cQ h t],[x]) (bC ω 0 (upN h ns)) ([],s))∧ats s 0=d∧∀ H',Same H H'→Q (.bl true) H'
theorem agA {ws s:List T} (h:(stN 1 ([.node ws],s)).1=[]):ws=[]:=by
 cases ws with
 | nil=>rfl
 | cons w ws =>
  exfalso
  have h:(onward [.node (w::ws)] s).1=[]:=h
  rw [fJ] at h
  split at h <;> (try split at h) <;> (try split at h) <;> cases h
theorem ab2 {t:T}{n:Nat} (h:B 60 20000 t) (hn:n≤6):B 200 60000 (cQ n t):=by
 obtain⟨p1,p2⟩:=vd t n
 obtain⟨h1,h2⟩:=h
 exact⟨by lia,by lia⟩
theorem acU (cL:mg "tuple"=none) {pY:Addr} (QL:mg "NAMES"=some (.ref pY)) (Qg:∀ H,SqT K H pY [.str (PySem.Str.ofString "lay"),.str (PySem.Str.ofString "drop"),.str (PySem.Str.ofString "twin"),.str (PySem.Str.ofString "swap"),.str (PySem.Str.ofString "front"),.str (PySem.Str.ofString "part"),.str (PySem.Str.ofString "turn"),.str (PySem.Str.ofString "fork"),.str (PySem.Str.ofString "while")])
  {uM:Addr}{uE:FuncData} (RQ:Fun K "plain" "plain" rQ uM uE) (RL:FnOk P w K mg base CX0 31 uM uE ["sort"] (Py K)) (Rr:Binds K uE ["sort"] []) (QH:mg "plain"=some (.ref uM))
  (Pg:∃ ob,K.lookup pY=some ob∧ob.cls=.type "tuple"∧ob.dict=none)
  (F:Fun K "plains" "plains" gF f fd):FnOk P w K mg base CX0 32 f fd ["names"] (n_ K):=by
 refine okQ F acB (fun vs H Q E h=>?_) (fun cdv A outer s H vs Q E hr h=>?_)
 ·obtain⟨z,ks,rfl,_⟩:=h
  rfl
 obtain⟨z,ks,rfl,hz1,hz2,hw,hk,q⟩:=h
 refine⟨_,(aB (aR (iT fK rfl cL lB (aj (CP rfl (nH (fr:=[]) (js:=[]) (sc:=defScope gF) rfl rfl rfl (by decide +kernel) (by decide +kernel) (by decide +kernel) (by decide +kernel) (by exact trivial) (by decide +kernel) (fun y hy=>cell_has hy)) (Z2 (qy PySem.F.plainAttrs_str PySem.F.slot_str_split PySem.F.type_str_split ac2 (qv 0))) (fun _ _ _ _ _=>(aN RL hr rfl QH RQ.kp Rr .nil pass0 (aj (ahC (K:=K) rfl (gA PySem.F.plainAttrs_tuple PySem.F.slot_tuple_index PySem.F.type_tuple_index (aa8 (K:=K) rfl) (aY (v:=.ref pY) rfl QL rfl) (aj (qv 0) ak))) ak)))) ak)))),?_⟩
 have hwl:(Txt.words z).length=ks.length:=by rw [hw,List.length_map]
 have hwn:(Txt.words z).length≤1000:=hz2.2
 refine⟨_,rfl,rfl,z,rfl,rfl,hz1,hz2.1,hz2.2,fun D0 g0=>?_⟩
 refine⟨D0,rfl,⟨_,SqL.of upd_same⟩,?_⟩
 have S0:=same_new g0 (.lst ((Txt.words z).map V.str))
 refine aeR (K:=K) (xs:=(Txt.words z).map V.str) (fun D i ys H'=>D≠D0∧H D=none∧Same H H'∧H' D0=some (.lst ((Txt.words z).map V.str))∧H' D=some (.lst ys)∧TRs K H' ((ks.take i).map W) ys∧i≤ks.length) (small (by rw [List.length_map]; lia)) (fun D hD=>?_) (fun D i ys H' j=>⟨j.2.2.2.2.1,?_,SqL.of j.2.2.2.1⟩) (fun D i x ys H' R hx j hR=>?_) (fun D ys H' j=>?_)
 ·have hne:D≠D0:=fun e=>by rw [e,upd_same] at hD; cases hD
  exact⟨hne,S0.free hD,S0.trans (same_new hD _),by rw [upd_ne hne.symm]; exact upd_same,upd_same,bJ.mpr rfl,Nat.zero_le _⟩
 ·rw [j.2.2.2.2.2.1.length,List.length_map,List.length_take]
  exact Nat.min_eq_left j.2.2.2.2.2.2
 ·obtain⟨hne,hD,S,h0,h1,ht,hi⟩:=j
  rw [hw,List.map_map,List.getElem?_map] at hx
  cases hh:ks[i]? with
  | none=>rw [hh] at hx; cases hx
  | some k =>
   rw [hh] at hx
   cases hx
   have hk1:=hk k (List.mem_of_getElem? hh)
   obtain⟨e1,e2⟩:=agB k (by lia)
   refine⟨.inr (.inl ⟨rfl,Pg⟩),_,rfl,pY,NT,_,k,rfl,rfl,Qg _,e1,e2,k,rfl,hk1.1,hk1.2,fun y H3 S3 t3=>?_⟩
   refine hR _ _ (S3 _ _ h1) ⟨hne,hD,eX (S.trans S3) hD,by rw [upd_ne hne.symm]; exact S3 _ _ h0,upd_same,?_,(List.getElem?_eq_some_iff.mp hh).1⟩
   rw [List.take_succ,hh,List.map_append]
   exact TRs.append ((ht.mono (.of S3)).mono (Kt.lst (S3 _ _ h1))) (cN.mpr ⟨y,[],rfl,t3.mono (Kt.lst (S3 _ _ h1)),bJ.mpr rfl⟩)
 ·obtain⟨hne,hD,S,h0,h1,ht,hi⟩:=j
  rw [List.length_map,hwl,List.take_of_length_le (Nat.le_refl _)] at ht
  refine⟨D,ys,rfl,.inl ⟨SqL.of h1,fun p hp=>?_⟩⟩
  obtain⟨S5,t5⟩:=bN (K:=K) hp ht
  exact q _ _ (S.trans S5) t5
theorem aaU
  {Ea:Addr}{DN:FuncData} (ab0:Fun K "lay" "lay" zK Ea DN) (abW:FnOk P w K mg base CX0 32 Ea DN ["tree"] (aaF K)) (abJ:Binds K DN ["tree"] []) (abe:mg "lay"=some (.ref Ea))
  {cD:Addr}{cC:FuncData} (cg:Fun K "plains" "plains" gF cD cC) (b_:FnOk P w K mg base CX0 32 cD cC ["names"] (n_ K)) (bZ:Binds K cC ["names"] []) (bY:mg "plains"=some (.ref cD))
  (F:Fun K "opening" "opening" oG f fd):FnOk P w K mg base CX0 33 f fd [] (mL K afC):=by
 refine okQ F Np (fun vs H Q E h=>?_) (fun cdv A outer s H vs Q E hr h=>?_)
 ·obtain⟨rfl,_⟩:=h
  rfl
 obtain⟨rfl,q⟩:=h
 refine⟨_,(au (bA (i:=0) Np.nd rfl (Or.inl rfl) (aW bh (aU (aj (aN abW hr rfl abe ab0.kp abJ .nil pass0 (aj (aU ak) ak)) ak)) (aN b_ hr rfl bY cg.kp bZ .nil pass0 (aj lN ak))))
   (aB (aR (aW bh (aW bh (aN b_ hr rfl bY cg.kp bZ .nil pass0 (aj lN ak)) (qv 0)) (qv 0))))),?_⟩
 refine⟨Nat.zero_le _,fun p1 g1=>?_⟩
 obtain⟨S1,t1⟩:=bN (K:=K) (ts:=[]) g1 (bJ.mpr rfl)
 refine⟨_,leaf,rfl,t1,by decide,by decide,fun y2 H2 S2 t2=>⟨(by show 1≤sizeLine; decide),fun p3 g3=>?_⟩⟩
 obtain⟨S3,t3⟩:=bN (K:=K) g3 (dO t2)
 refine⟨_,[6,4],rfl,by decide +kernel,by decide +kernel,by decide +kernel,by decide,fun y4 H4 S4 t4=>cH (t3.mono (.of S4)) t4 (small (by decide)) (fun y5 H5 S5 t5=>?_)⟩
 have S15:=S1.trans (S2.trans (S3.trans (S4.trans S5)))
 refine⟨_,[5],rfl,by decide +kernel,by decide +kernel,by decide +kernel,by decide,fun y6 H6 S6 t6=>⟨_,rfl,cH t6 (t5.mono (.of S6)) (small (by decide)) (fun y7 H7 S7 t7=>⟨_,rfl,cH t7 (t5.mono (.of (S6.trans S7))) (small (by decide)) (fun y8 H8 S8 t8=>?_)⟩)⟩⟩
 exact q _ _ (S15.trans (S6.trans (S7.trans S8))) t8
theorem Kz {eE:Value} (fU:mg "WHILE"=some eE) (eG:RelV (.int 8) eE)
  {cD:Addr}{cC:FuncData} (cg:Fun K "plains" "plains" gF cD cC) (b_:FnOk P w K mg base CX0 32 cD cC ["names"] (n_ K)) (bZ:Binds K cC ["names"] []) (bY:mg "plains"=some (.ref cD))
  (F:Fun K "nameless_gone" "nameless_gone" gG f fd):FnOk P w K mg base CX0 33 f fd [] (mL K Fo):=by
 refine okQ F J_ (fun vs H Q E h=>?_) (fun cdv A outer s H vs Q E hr h=>?_)
 ·obtain⟨rfl,_⟩:=h
  rfl
 obtain⟨rfl,q⟩:=h
 refine⟨_,(aB (aR (aW bh (aW mV (aN b_ hr rfl bY cg.kp bZ .nil pass0 (aj lN ak)) (aW op_add (aY (v:=.int 8) rfl fU eG) aD)) (aN b_ hr rfl bY cg.kp bZ .nil pass0 (aj lN ak))))),?_⟩
 refine⟨_,[1],rfl,by decide +kernel,by decide +kernel,by decide +kernel,by decide,fun y1 H1 S1 t1=>⟨8,2,rfl,rfl,aa4 10 t1 rfl rfl (by decide) (fun y2 H2 S2 t2=>?_)⟩⟩
 refine⟨_,[4],rfl,by decide +kernel,by decide +kernel,by decide +kernel,by decide,fun y3 H3 S3 t3=>cH (t2.mono (.of S3)) t3 (small (by decide)) (fun y4 H4 S4 t4=>?_)⟩
 exact q _ _ (S1.trans (S2.trans (S3.trans S4))) t4
theorem Tg {eE:Value} (fU:mg "WHILE"=some eE) (eG:RelV (.int 8) eE) {gZ:Value} (jW:mg "TOP_REACHED"=some gZ) (ig:RelV (.str (PySem.Str.ofString "turn turn front turn part")) gZ) {qm:Value} (Ah:mg "PAST_BODY"=some qm) (qw:RelV (.str (PySem.Str.ofString "front turn drop swap")) qm) {qp:Value} (Ai:mg "INTO_BODY"=some qp) (qx:RelV (.str (PySem.Str.ofString "front swap turn part swap twin turn front turn part turn front front swap front")) qp)
  {cD:Addr}{cC:FuncData} (cg:Fun K "plains" "plains" gF cD cC) (b_:FnOk P w K mg base CX0 32 cD cC ["names"] (n_ K)) (bZ:Binds K cC ["names"] []) (bY:mg "plains"=some (.ref cD))
  {jO:Addr}{jJ:FuncData} (vL:Fun K "fork" "fork" qu jO jJ) (vK:FnOk P w K mg base CX0 32 jO jJ ["yes","no"] (Fv K)) (vI:Binds K jJ ["yes","no"] []) (vB:mg "fork"=some (.ref jO))
  (F:Fun K "while_gone" "while_gone" jC f fd):FnOk P w K mg base CX0 33 f fd [] (mL K vf):=by
 refine okQ F Ek (fun vs H Q E h=>?_) (fun cdv A outer s H vs Q E hr h=>?_)
 ·obtain⟨rfl,_⟩:=h
  rfl
 obtain⟨rfl,q⟩:=h
 refine⟨_,(au (bA (i:=0) Ek.nd rfl (Or.inl rfl) (aW bh (aW mV (aN b_ hr rfl bY cg.kp bZ .nil pass0 (aj lN ak)) (aY (v:=.int 8) rfl fU eG)) (aN b_ hr rfl bY cg.kp bZ .nil pass0 (aj lN ak))))
   (aB (aR (aW bh (aW bh (qv 0) (aN b_ hr rfl bY cg.kp bZ .nil pass0 (aj (aY (v:=.str (PySem.Str.ofString "turn turn front turn part")) rfl jW ig) ak))) (aU (aj (aN vK hr rfl vB vL.kp vI .nil pass0 (aj (aN b_ hr rfl bY cg.kp bZ .nil pass0 (aj (aY (v:=.str (PySem.Str.ofString "front swap turn part swap twin turn front turn part turn front front swap front")) rfl Ai qx) ak)) (aj (aN b_ hr rfl bY cg.kp bZ .nil pass0 (aj (aY (v:=.str (PySem.Str.ofString "front turn drop swap")) rfl Ah qw) ak)) ak))) ak)))))),?_⟩
 refine⟨_,[3,4],rfl,by decide +kernel,by decide +kernel,by decide +kernel,by decide,fun y1 H1 S1 t1=>ah9 (k:=8) 8 t1 rfl rfl (by decide) (fun y2 H2 S2 t2=>?_)⟩
 refine⟨_,[4],rfl,by decide +kernel,by decide +kernel,by decide +kernel,by decide,fun y3 H3 S3 t3=>cH (t2.mono (.of S3)) t3 (small (by decide)) (fun y4 H4 S4 t4=>?_)⟩
 have S14:=S1.trans (S2.trans (S3.trans S4))
 refine⟨_,rfl,_,[6,6,4,6,5],rfl,by decide +kernel,by decide +kernel,by decide +kernel,by decide,fun y5 H5 S5 t5=>cH (t4.mono (.of S5)) t5 (small (by decide)) (fun y6 H6 S6 t6=>?_)⟩
 refine⟨_,[4,3,6,5,3,2,6,4,6,5,6,4,4,3,4],rfl,by decide +kernel,by decide +kernel,by decide +kernel,by decide,fun y7 H7 S7 t7=>?_⟩
 refine⟨_,[4,6,1,3],rfl,by decide +kernel,by decide +kernel,by decide +kernel,by decide,fun y8 H8 S8 t8=>⟨_,_,_,_,rfl,t7.mono (.of S8),t8,⟨by decide,by decide⟩,⟨by decide,by decide⟩,fun y9 H9 S9 t9=>⟨(by show 1≤sizeLine; decide),fun p10 g10=>?_⟩⟩⟩
 obtain⟨S10,t10⟩:=bN (K:=K) g10 (dO t9)
 have XR:=S7.trans (S8.trans (S9.trans S10))
 exact cH (t6.mono (.of XR)) t10 (small (by decide)) (fun y11 H11 S11 t11=>q _ _ (S14.trans (S5.trans (S6.trans (XR.trans S11)))) t11)
theorem aaW {zJ:Value} (IW:mg "LAY"=some zJ) (zL:RelV (.int 0) zJ) {Fj:Value} (Wf:mg "LAID"=some Fj) (FW:RelV (.str (PySem.Str.ofString "turn turn front turn turn front swap")) Fj) {j6:Value} (m_:mg "FORK"=some j6) (kh:RelV (.int 7) j6) {gZ:Value} (jW:mg "TOP_REACHED"=some gZ) (ig:RelV (.str (PySem.Str.ofString "turn turn front turn part")) gZ) {u9:Value} (Gn:mg "INTO_NO"=some u9) (vp:RelV (.str (PySem.Str.ofString "front swap turn part drop front")) u9) {rZ:Value} (Dj:mg "INTO_YES"=some rZ) (sE:RelV (.str (PySem.Str.ofString "front swap turn part swap drop front")) rZ) {lH:Value} (uq:mg "STACK_PARTED"=some lH) (lM:RelV (.str (PySem.Str.ofString "drop front swap part")) lH) {jk:Addr} (K_:mg "WORKED"=some (.ref jk)) (oW:∀ H,SqT K H jk [.str (PySem.Str.ofString ""),.str (PySem.Str.ofString "drop"),.str (PySem.Str.ofString "twin turn swap front swap front"),.str (PySem.Str.ofString "swap part swap turn front swap front"),.str (PySem.Str.ofString "swap part turn front front"),.str (PySem.Str.ofString "part turn turn front swap front"),.str (PySem.Str.ofString "swap part swap part swap turn front turn front swap front")])
  {cD:Addr}{cC:FuncData} (cg:Fun K "plains" "plains" gF cD cC) (b_:FnOk P w K mg base CX0 33 cD cC ["names"] (n_ K)) (bZ:Binds K cC ["names"] []) (bY:mg "plains"=some (.ref cD))
  {jO:Addr}{jJ:FuncData} (vL:Fun K "fork" "fork" qu jO jJ) (vK:FnOk P w K mg base CX0 33 jO jJ ["yes","no"] (Fv K)) (vI:Binds K jJ ["yes","no"] []) (vB:mg "fork"=some (.ref jO))
  (F:Fun K "gone_of" "gone_of" oJ f fd):FnOk P w K mg base CX0 34 f fd ["sort"] (U6 K):=by
 refine okQ F Nq (fun vs H Q E h=>?_) (fun cdv A outer s H vs Q E hr h=>?_)
 ·obtain⟨k,rfl,_⟩:=h
  rfl
 obtain⟨k,rfl,h7,q⟩:=h
 refine⟨_,(au (bA (i:=1) Nq.nd rfl (Or.inl rfl) (aW mV (aN b_ hr rfl bY cg.kp bZ .nil pass0 (aj lN ak)) (aW op_add (qv 0) aD)))
   (au (bK (aV op_eq (qv 0) (aY (v:=.int 0) rfl IW zL) (nomark _)) (aB (aR (aW bh (qv 1) (aN b_ hr rfl bY cg.kp bZ .nil pass0 (aj (aY (v:=.str (PySem.Str.ofString "turn turn front turn turn front swap")) rfl Wf FW) ak))))) bD)
   (au (bK (aV op_eq (qv 0) (aY (v:=.int 7) rfl m_ kh) (nomark _)) (aB (aR (aW bh (aW bh (qv 1) (aN b_ hr rfl bY cg.kp bZ .nil pass0 (aj (aY (v:=.str (PySem.Str.ofString "turn turn front turn part")) rfl jW ig) ak))) (aU (aj (aN vK hr rfl vB vL.kp vI .nil pass0 (aj (aN b_ hr rfl bY cg.kp bZ .nil pass0 (aj (aY (v:=.str (PySem.Str.ofString "front swap turn part swap drop front")) rfl Dj sE) ak)) (aj (aN b_ hr rfl bY cg.kp bZ .nil pass0 (aj (aY (v:=.str (PySem.Str.ofString "front swap turn part drop front")) rfl Gn vp) ak)) ak))) ak))))) bD)
   (aB (aR (aW bh (aW bh (aW bh (qv 1) (aN b_ hr rfl bY cg.kp bZ .nil pass0 (aj (aY (v:=.str (PySem.Str.ofString "drop front swap part")) rfl uq lM) ak))) (aN b_ hr rfl bY cg.kp bZ .nil pass0 (aj (cB cJ (aY (v:=.ref jk) rfl K_ rfl) (qv 0) (fun _ _=>rfl)) ak))) (aN b_ hr rfl bY cg.kp bZ .nil pass0 (aj lN ak)))))))),?_⟩
 refine⟨_,[1],rfl,by decide +kernel,by decide +kernel,by decide +kernel,by decide,fun y1 H1 S1 t1=>⟨_,rfl,_,_,rfl,rfl,aa4 (k+1) t1 rfl rfl (by lia) (fun y2 H2 S2 t2=>?_)⟩⟩
 have S12:=S1.trans S2
 refine⟨_,rfl,rfl,_,rfl,ite2 (fun h0=>?_) (fun h0=>?_)⟩
 ·obtain rfl:k=0:=by have:=V.int.inj (of_decide_eq_true h0); lia
  refine⟨_,rfl,_,[6,6,4,6,6,4,3],rfl,by decide +kernel,by decide +kernel,by decide +kernel,by decide,fun y3 H3 S3 t3=>cH (t2.mono (.of S3)) t3 (small (by decide)) (fun y4 H4 S4 t4=>q _ _ (S12.trans (S3.trans S4)) t4)⟩
 refine⟨_,rfl,rfl,_,rfl,ite2 (fun h7=>?_) (fun h7=>?_)⟩
 ·obtain rfl:k=7:=by have:=V.int.inj (of_decide_eq_true h7); lia
  refine⟨_,rfl,_,[6,6,4,6,5],rfl,by decide +kernel,by decide +kernel,by decide +kernel,by decide,fun y5 H5 S5 t5=>cH (t2.mono (.of S5)) t5 (small (by decide)) (fun y6 H6 S6 t6=>?_)⟩
  refine⟨_,[4,3,6,5,3,1,4],rfl,by decide +kernel,by decide +kernel,by decide +kernel,by decide,fun y7 H7 S7 t7=>?_⟩
  refine⟨_,[4,3,6,5,1,4],rfl,by decide +kernel,by decide +kernel,by decide +kernel,by decide,fun y8 H8 S8 t8=>⟨_,_,_,_,rfl,t7.mono (.of S8),t8,⟨by decide,by decide⟩,⟨by decide,by decide⟩,fun y9 H9 S9 t9=>⟨(by show 1≤sizeLine; decide),fun p10 g10=>?_⟩⟩⟩
  obtain⟨S10,t10⟩:=bN (K:=K) g10 (dO t9)
  have XR:=S7.trans (S8.trans (S9.trans S10))
  exact cH (t6.mono (.of XR)) t10 (small (by decide)) (fun y11 H11 S11 t11=>q _ _ (S12.trans (S5.trans (S6.trans (XR.trans S11)))) t11)
 have h0:k≠0:=fun z=>h0 (by subst z; exact decide_eq_true rfl)
 have h7:k≠7:=fun z=>h7 (by subst z; exact decide_eq_true rfl)
 refine⟨_,rfl,_,[1,4,3,5],rfl,by decide +kernel,by decide +kernel,by decide +kernel,by decide,fun y3 H3 S3 t3=>cH (t2.mono (.of S3)) t3 (small (by rw [ajW]; show _+4≤_; lia)) (fun y4 H4 S4 t4=>?_)⟩
 have S14:=S12.trans (S3.trans S4)
 rcases (by lia:k=1∨k=2∨k=3∨k=4∨k=5∨k=6) with rfl | rfl | rfl | rfl | rfl | rfl
 ·refine⟨_,rfl,jk,_,_,_,rfl,rfl,oW _,rfl,_,[1],rfl,by decide +kernel,by decide +kernel,by decide +kernel,by decide,fun y5 H5 S5 t5=>cH (t4.mono (.of S5)) t5 (small (by decide)) (fun y6 H6 S6 t6=>?_)⟩
  refine⟨_,[3],rfl,by decide +kernel,by decide +kernel,by decide +kernel,by decide,fun y7 H7 S7 t7=>cH (t6.mono (.of S7)) t7 (small (by decide)) (fun y8 H8 S8 t8=>q _ _ (S14.trans (S5.trans (S6.trans (S7.trans S8)))) t8)⟩
 ·refine⟨_,rfl,jk,_,_,_,rfl,rfl,oW _,rfl,_,[2,6,3,4,3,4],rfl,by decide +kernel,by decide +kernel,by decide +kernel,by decide,fun y5 H5 S5 t5=>cH (t4.mono (.of S5)) t5 (small (by decide)) (fun y6 H6 S6 t6=>?_)⟩
  refine⟨_,[3],rfl,by decide +kernel,by decide +kernel,by decide +kernel,by decide,fun y7 H7 S7 t7=>cH (t6.mono (.of S7)) t7 (small (by decide)) (fun y8 H8 S8 t8=>q _ _ (S14.trans (S5.trans (S6.trans (S7.trans S8)))) t8)⟩
 ·refine⟨_,rfl,jk,_,_,_,rfl,rfl,oW _,rfl,_,[3,5,3,6,4,3,4],rfl,by decide +kernel,by decide +kernel,by decide +kernel,by decide,fun y5 H5 S5 t5=>cH (t4.mono (.of S5)) t5 (small (by decide)) (fun y6 H6 S6 t6=>?_)⟩
  refine⟨_,[3],rfl,by decide +kernel,by decide +kernel,by decide +kernel,by decide,fun y7 H7 S7 t7=>cH (t6.mono (.of S7)) t7 (small (by decide)) (fun y8 H8 S8 t8=>q _ _ (S14.trans (S5.trans (S6.trans (S7.trans S8)))) t8)⟩
 ·refine⟨_,rfl,jk,_,_,_,rfl,rfl,oW _,rfl,_,[3,5,6,4,4],rfl,by decide +kernel,by decide +kernel,by decide +kernel,by decide,fun y5 H5 S5 t5=>cH (t4.mono (.of S5)) t5 (small (by decide)) (fun y6 H6 S6 t6=>?_)⟩
  refine⟨_,[3],rfl,by decide +kernel,by decide +kernel,by decide +kernel,by decide,fun y7 H7 S7 t7=>cH (t6.mono (.of S7)) t7 (small (by decide)) (fun y8 H8 S8 t8=>q _ _ (S14.trans (S5.trans (S6.trans (S7.trans S8)))) t8)⟩
 ·refine⟨_,rfl,jk,_,_,_,rfl,rfl,oW _,rfl,_,[5,6,6,4,3,4],rfl,by decide +kernel,by decide +kernel,by decide +kernel,by decide,fun y5 H5 S5 t5=>cH (t4.mono (.of S5)) t5 (small (by decide)) (fun y6 H6 S6 t6=>?_)⟩
  refine⟨_,[3],rfl,by decide +kernel,by decide +kernel,by decide +kernel,by decide,fun y7 H7 S7 t7=>cH (t6.mono (.of S7)) t7 (small (by decide)) (fun y8 H8 S8 t8=>q _ _ (S14.trans (S5.trans (S6.trans (S7.trans S8)))) t8)⟩
 ·refine⟨_,rfl,jk,_,_,_,rfl,rfl,oW _,rfl,_,[3,5,3,5,3,6,4,6,4,3,4],rfl,by decide +kernel,by decide +kernel,by decide +kernel,by decide,fun y5 H5 S5 t5=>cH (t4.mono (.of S5)) t5 (small (by decide)) (fun y6 H6 S6 t6=>?_)⟩
  refine⟨_,[3],rfl,by decide +kernel,by decide +kernel,by decide +kernel,by decide,fun y7 H7 S7 t7=>cH (t6.mono (.of S7)) t7 (small (by decide)) (fun y8 H8 S8 t8=>q _ _ (S14.trans (S5.trans (S6.trans (S7.trans S8)))) t8)⟩
theorem aaX (cO:mg "range"=none) (gJ:mg "reversed"=none) {eE:Value} (fU:mg "WHILE"=some eE) (eG:RelV (.int 8) eE)
  {jO:Addr}{jJ:FuncData} (vL:Fun K "fork" "fork" qu jO jJ) (vK:FnOk P w K mg base CX0 34 jO jJ ["yes","no"] (Fv K)) (vI:Binds K jJ ["yes","no"] []) (vB:mg "fork"=some (.ref jO))
  {zc:Addr}{yL:FuncData} (Yg:Fun K "while_gone" "while_gone" jC zc yL) (X7:FnOk P w K mg base CX0 34 zc yL [] (mL K vf)) (Xq:Binds K yL [] []) (V5:mg "while_gone"=some (.ref zc))
  {tR:Addr}{tH:FuncData} (Oq:Fun K "nameless_gone" "nameless_gone" gG tR tH) (Oj:FnOk P w K mg base CX0 34 tR tH [] (mL K Fo)) (Oe:Binds K tH [] []) (NZ:mg "nameless_gone"=some (.ref tR))
  {HB:Addr}{Hf:FuncData} (adZ:Fun K "gone_of" "gone_of" oJ HB Hf) (adQ:FnOk P w K mg base CX0 34 HB Hf ["sort"] (U6 K)) (adD:Binds K Hf ["sort"] []) (ac_:mg "gone_of"=some (.ref HB))
  {cD:Addr}{cC:FuncData} (cg:Fun K "plains" "plains" gF cD cC) (b_:FnOk P w K mg base CX0 34 cD cC ["names"] (n_ K)) (bZ:Binds K cC ["names"] []) (bY:mg "plains"=some (.ref cD))
  (F:Fun K "by_sort" "by_sort" oK f fd):FnOk P w K mg base CX0 35 f fd [] (mL K (cu 8)):=by
 refine okQ F wK (fun vs H Q E h=>?_) (fun cdv A outer s H vs Q E hr h=>?_)
 ·obtain⟨rfl,_⟩:=h
  rfl
 obtain⟨rfl,q⟩:=h
 refine⟨_,(au (bA (i:=0) wK.nd rfl (Or.inl rfl) (aU (aj (aN vK hr rfl vB vL.kp vI .nil pass0 (aj (oV Oj hr rfl NZ Oq.kp Oe .nil pass0) (aj (oV X7 hr rfl V5 Yg.kp Xq .nil pass0) ak))) ak)))
   (au (yg PassesOwn.never rfl (af_ rfl cO rfl gJ (aj (aY (v:=.int 8) rfl fU eG) ak)) (jU (i:=1) wK.nd rfl (Or.inl rfl)) (aB (bA (i:=0) wK.nd rfl (Or.inl rfl) (aU (aj (aN vK hr rfl vB vL.kp vI .nil pass0 (aj (aW bh (aN b_ hr rfl bY cg.kp bZ .nil pass0 (aj lN ak)) (qv 0)) (aj (aN adQ hr rfl ac_ adZ.kp adD .nil pass0 (aj (qv 1) ak)) ak))) ak)))))
   (aB (aR (qv 0))))),?_⟩
 refine⟨rfl,fun y1 H1 S1 t1=>⟨rfl,fun y2 H2 S2 t2=>⟨_,_,_,_,rfl,t1.mono (.of S2),t2,⟨by decide,by decide⟩,⟨by decide,by decide⟩,fun y3 H3 S3 t3=>⟨(by show 1≤sizeLine; decide),fun p4 g4=>?_⟩⟩⟩⟩
 obtain⟨S4,t4⟩:=bN (K:=K) g4 (dO t3)
 refine⟨rfl,?_⟩
 refine ae8 (fun i σ' H'=>∃ v o,σ'=[some v,o]∧Same H H'∧TR K H' (.node (cu i)) v) ?_ ?_ ?_
 ·exact⟨_,_,rfl,S1.trans (S2.trans (S3.trans S4)),t4⟩
 ·rintro i σ' H' hi ⟨v,o,rfl,S,ht⟩
  dsimp only [gName]
  have hl1:(cu i).length=1:=by cases i <;> rfl
  refine⟨_,[5,3],rfl,by decide +kernel,by decide +kernel,by decide +kernel,by decide,fun y5 H5 S5 t5=>⟨_,rfl,cH t5 (ht.mono (.of S5)) (small (by rw [hl1]; decide)) (fun y6 H6 S6 t6=>?_)⟩⟩
  refine⟨_,rfl,7 - i,(by show [V.int (7 - (i:Int))]=_; rw [show (((7 - i:Nat):Int))=7 - (i:Int) by lia]),by lia,fun y7 H7 S7 t7=>?_⟩
  have bi:=ahm i (by lia)
  have bg:=aiz (7 - i) (by lia)
  refine⟨_,_,_,_,rfl,t6.mono (.of S7),t7,bi,bg,fun y8 H8 S8 t8=>⟨(by show 1≤sizeLine; decide),fun p9 g9=>?_⟩⟩
  obtain⟨S9,t9⟩:=bN (K:=K) g9 (dO t8)
  exact⟨_,_,rfl,S.trans (S5.trans (S6.trans (S7.trans (S8.trans S9)))),t9⟩
 ·rintro σ' H' ⟨v,o,rfl,S,ht⟩
  exact⟨_,rfl,q _ _ S ht⟩
theorem aaR
  {cD:Addr}{cC:FuncData} (cg:Fun K "plains" "plains" gF cD cC) (b_:FnOk P w K mg base CX0 35 cD cC ["names"] (n_ K)) (bZ:Binds K cC ["names"] []) (bY:mg "plains"=some (.ref cD))
  {HD:Addr}{Hg:FuncData} (ad1:Fun K "by_sort" "by_sort" oK HD Hg) (adS:FnOk P w K mg base CX0 35 HD Hg [] (mL K (cu 8))) (adF:Binds K Hg [] []) (adb:mg "by_sort"=some (.ref HD))
  {jO:Addr}{jJ:FuncData} (vL:Fun K "fork" "fork" qu jO jJ) (vK:FnOk P w K mg base CX0 35 jO jJ ["yes","no"] (Fv K)) (vI:Binds K jJ ["yes","no"] []) (vB:mg "fork"=some (.ref jO))
  (F:Fun K "stepped" "stepped" oA f fd):FnOk P w K mg base CX0 36 f fd [] (mL K eO):=by
 refine okQ F Cy (fun vs H Q E h=>?_) (fun cdv A outer s H vs Q E hr h=>?_)
 ·obtain⟨rfl,_⟩:=h
  rfl
 obtain⟨rfl,q⟩:=h
 refine⟨_,(au (bA (i:=0) Cy.nd rfl (Or.inl rfl) (aW bh (aN b_ hr rfl bY cg.kp bZ .nil pass0 (aj lN ak)) (oV adS hr rfl adb ad1.kp adF .nil pass0)))
   (au (bA (i:=1) Cy.nd rfl (Or.inl rfl) (aN b_ hr rfl bY cg.kp bZ .nil pass0 (aj lN ak)))
   (aB (aR (aW bh (aN b_ hr rfl bY cg.kp bZ .nil pass0 (aj lN ak)) (aU (aj (aN vK hr rfl vB vL.kp vI .nil pass0 (aj (qv 0) (aj (qv 1) ak))) ak))))))),?_⟩
 refine⟨_,[5,5],rfl,by decide +kernel,by decide +kernel,by decide +kernel,by decide,fun y1 H1 S1 t1=>⟨rfl,fun y2 H2 S2 t2=>cH (t1.mono (.of S2)) t2 (small (by decide)) (fun y3 H3 S3 t3=>?_)⟩⟩
 have S13:=S1.trans (S2.trans S3)
 refine⟨_,[1],rfl,by decide +kernel,by decide +kernel,by decide +kernel,by decide,fun y4 H4 S4 t4=>?_⟩
 refine⟨_,[5],rfl,by decide +kernel,by decide +kernel,by decide +kernel,by decide,fun y5 H5 S5 t5=>⟨_,rfl,_,rfl,_,_,_,_,rfl,t3.mono (.of (S4.trans S5)),t4.mono (.of S5),⟨by decide +kernel,by decide +kernel⟩,⟨by decide,by decide⟩,fun y6 H6 S6 t6=>⟨(by show 1≤sizeLine; decide),fun p7 g7=>?_⟩⟩⟩
 obtain⟨S7,t7⟩:=bN (K:=K) g7 (dO t6)
 exact cH (t5.mono (.of (S6.trans S7))) t7 (small (by decide)) (fun y8 H8 S8 t8=>q _ _ (S13.trans (S4.trans (S5.trans (S6.trans (S7.trans S8))))) t8)
theorem Vz
  {XF:Addr}{Xd:FuncData} (ajC:Fun K "loop" "loop" xU XF Xd) (ajy:FnOk P w K mg base CX0 36 XF Xd ["body"] (acv K)) (ajq:Binds K Xd ["body"] []) (aia:mg "loop"=some (.ref XF))
  {Hv:Addr}{GR:FuncData} (adU:Fun K "stepped" "stepped" oA Hv GR) (adL:FnOk P w K mg base CX0 36 Hv GR [] (mL K eO)) (ady:Binds K GR [] []) (ac5:mg "stepped"=some (.ref Hv))
  {cD:Addr}{cC:FuncData} (cg:Fun K "plains" "plains" gF cD cC) (b_:FnOk P w K mg base CX0 36 cD cC ["names"] (n_ K)) (bZ:Binds K cC ["names"] []) (bY:mg "plains"=some (.ref cD))
  (F:Fun K "from_head" "from_head" k_ f fd):FnOk P w K mg base CX0 37 f fd [] (mL K bB):=by
 refine okQ F Ve (fun vs H Q E h=>?_) (fun cdv A outer s H vs Q E hr h=>?_)
 ·obtain⟨rfl,_⟩:=h
  rfl
 obtain⟨rfl,q⟩:=h
 refine⟨_,(aB (aR (aW bh (aU (aj (aN ajy hr rfl aia ajC.kp ajq .nil pass0 (aj (oV adL hr rfl ac5 adU.kp ady .nil pass0) ak)) ak)) (aN b_ hr rfl bY cg.kp bZ .nil pass0 (aj lN ak))))),?_⟩
 refine⟨rfl,fun y1 H1 S1 t1=>⟨_,_,rfl,t1,by decide +kernel,by decide +kernel,fun y2 H2 S2 t2=>⟨(by show 1≤sizeLine; decide),fun p3 g3=>?_⟩⟩⟩
 obtain⟨S3,t3⟩:=bN (K:=K) g3 (dO t2)
 refine⟨_,[1,5,3,1],rfl,by decide +kernel,by decide +kernel,by decide +kernel,by decide,fun y4 H4 S4 t4=>cH (t3.mono (.of S4)) t4 (small (by decide)) (fun y5 H5 S5 t5=>q _ _ (S1.trans (S2.trans (S3.trans (S4.trans S5)))) t5)⟩
theorem Ti
  {Hy:Addr}{G9:FuncData} (adX:Fun K "opening" "opening" oG Hy G9) (adO:FnOk P w K mg base CX0 37 Hy G9 [] (mL K afC)) (adB:Binds K G9 [] []) (ac8:mg "opening"=some (.ref Hy))
  {Bg:Addr}{Av:FuncData} (Ze:Fun K "from_head" "from_head" k_ Bg Av) (Y7:FnOk P w K mg base CX0 37 Bg Av [] (mL K bB)) (YS:Binds K Av [] []) (YB:mg "from_head"=some (.ref Bg))
  (F:Fun K "selfrunner" "selfrunner" iM f fd):FnOk P w K mg base CX0 38 f fd [] (mL K dW):=by
 refine okQ F SQ (fun vs H Q E h=>?_) (fun cdv A outer s H vs Q E hr h=>?_)
 ·obtain⟨rfl,_⟩:=h
  rfl
 obtain⟨rfl,q⟩:=h
 refine⟨_,(aB (aR (aW bh (oV adO hr rfl ac8 adX.kp adB .nil pass0) (oV Y7 hr rfl YB Ze.kp YS .nil pass0)))),?_⟩
 exact⟨rfl,fun y1 H1 S1 t1=>⟨rfl,fun y2 H2 S2 t2=>cH (t1.mono (.of S2)) t2 (small (by decide)) (fun y3 H3 S3 t3=>q _ _ (S1.trans (S2.trans S3)) t3)⟩⟩
theorem aeL (cL:mg "tuple"=none) (Iz:mg "zip"=none)
  (F:Fun K "added" "added" pL f fd):FnOk P w K mg base CX0 31 f fd ["one","other"] (Pz K):=by
 refine okQ F aeo (fun vs H Q E h=>?_) (fun cdv A outer s H vs Q E hr h=>?_)
 ·obtain⟨a,b,ns,ms,rfl,_⟩:=h
  rfl
 obtain⟨a,b,ns,ms,rfl,ha,hb,hn,hm,q⟩:=h
 refine⟨_,(aB (aR (iT fK rfl cL lB (aj (ahB rfl (nH (fr:=[]) (js:=[]) (sc:=defScope pL) rfl rfl rfl (by decide +kernel) (by decide +kernel) (by decide +kernel) (by decide +kernel) (by exact trivial) (by decide +kernel) (fun y hy=>cell_has hy)) rfl (by decide) (acJ rfl Iz (aj (qv 0) (aj (qv 1) ak))) (fun _ _ _ _ _=>(aW op_add (qv 0) (qv 1)))) ak)))),?_⟩
 refine⟨_,rfl,_,rfl,a,b,_,_,rfl,ha,hb,aii (K:=K) (by lia) (by lia) ha hb (fun i j H' R r=>⟨_,rfl,_,rfl,_,_,rfl,rfl,r⟩) (fun D H' S hD=>?_)⟩
 exact⟨D,_,rfl,.inl ⟨SqL.of hD,fun l hl=>q _ _ (S.trans (same_new hl _)) (SqT.of upd_same)⟩⟩
theorem acT (Iz:mg "zip"=none) (cL:mg "tuple"=none) {pG:Addr} (Le:mg "ALWAYS"=some (.ref pG)) (Kl:∀ H,SqT K H pG [.int 2,.int 2,.int 0,.int 1,.int 2,.int 2,.int 2,.int 0,.int 0,.int 0,.int 1,.int 0,.int 1,.int 0,.int 0]) {vJ:Addr} (Wg:mg "EACH"=some (.ref vJ)) (Gb:∀ H,afQ K H vJ wM)
  {uO:Addr}{uG:FuncData} (RW:Fun K "added" "added" pL uO uG) (RN:FnOk P w K mg base CX0 31 uO uG ["one","other"] (Pz K)) (Ru:Binds K uG ["one","other"] []) (QK:mg "added"=some (.ref uO))
  (F:Fun K "turned" "turned" mO f fd):FnOk P w K mg base CX0 32 f fd ["tally"] (J5 K):=by
 refine okQ F vg (fun vs H Q E h=>?_) (fun cdv A outer s H vs Q E hr h=>?_)
 ·obtain⟨a,ns,rfl,_⟩:=h
  rfl
 obtain⟨a,ns,rfl,ha,hn,q⟩:=h
 refine⟨_,(au (bA (i:=1) vg.nd rfl (Or.inl rfl) (aY (v:=.ref pG) rfl Le rfl))
   (au (yg PassesOwn.never rfl (acJ rfl Iz (aj (qv 0) (aj (aY (v:=.ref vJ) rfl Wg rfl) ak))) (Vr rfl (uf (jU (i:=2) vg.nd rfl (Or.inr rfl)) (uf (jU (i:=3) vg.nd rfl (Or.inl rfl)) Qe))) (aB (bA (i:=1) vg.nd rfl (Or.inl rfl) (aN RN hr rfl QK RW.kp Ru .nil pass0 (aj (qv 1) (aj (iT fK rfl cL lB (aj (CP rfl (nH (fr:=["times"]) (js:=[2]) (sc:=defScope mO) rfl rfl rfl (by decide +kernel) (by decide +kernel) (by decide +kernel) (by decide +kernel) (by exact⟨⟨rfl,rfl,rfl⟩,trivial⟩) (by decide +kernel) (fun y hy=>cell_has hy)) (ahy (qv 3)) (fun _ _ _ _ _=>(aW yp (qv 1) (qv 0)))) ak)) ak))))))
   (aB (aR (qv 1))))),?_⟩
 obtain⟨ys,hy,hr2⟩:=Gb H
 have hyl:=hr2.length
 have e15:wM.length=15:=rfl
 refine⟨_,rfl,a,vJ,_,_,rfl,ha,hy,?_⟩
 refine agS (K:=K) (xs:=ns.map nv) (ys:=ys) (fun i σ' H'=>∃ p o2 o3,σ'=[some (.ref a),some (.ref p),o2,o3]∧Same H H'∧SqT K H' p ((z_ (ns.take i) wM xr).map nv)) ?_ (by rw [List.length_map]; lia) ?_ ?_ ?_
 ·exact⟨pG,_,_,rfl,Same.refl _,(show SqT K H pG (xr.map nv) from Kl _)⟩
 ·rintro i σ' H' _ ⟨p,o2,o3,rfl,S,hp⟩
  exact⟨bW (.of S) ha,bW (.of S) hy⟩
 ·rintro i x y σ' H' p2 hx hyi ⟨p,o2,o3,rfl,S,hp⟩ g2
  have S2:=same_new g2 (.tup [x,y])
  have hi:i<ns.length:=by have:=(List.getElem?_eq_some_iff.mp hx).1; rw [List.length_map] at this; exact this
  have en:ns[i]?=some ns[i]:=List.getElem?_eq_getElem hi
  rw [List.getElem?_map,en] at hx
  cases hx
  obtain⟨r,er,b,rfl,hb⟩:=hr2.get hyi
  refine⟨p2,_,rfl,SqT.of upd_same,rfl,_,_,rfl,_,_,rfl,rfl,?_⟩
  have hrl:=Dv r (List.mem_of_getElem? er)
  have hb':=bW (.of (S.trans S2)) hb
  refine⟨_,rfl,_,rfl,b,rfl,⟨_,hb'⟩,aif (K:=K) (ns:=r) (f:=(ns[i] * ·)) (by lia) hb' (fun j H3 R hj r1=>?_) (fun D H3 S3 hD=>?_)⟩
  ·have hle:=agX r (List.mem_of_getElem? er) j hj
   have big:(2 ^ 64:Int)=18446744073709551616:=by decide
   refine⟨_,rfl,_,rfl,_,_,rfl,rfl,.inr ⟨by lia,by lia⟩,?_⟩
   show R (V.int ((ns[i]:Int) * (j:Int))) H3
   rw [show V.int ((ns[i]:Int) * (j:Int))=nv (ns[i] * j) from congrArg V.int (Int.natCast_mul _ _).symm]
   exact r1
  ·refine⟨D,_,rfl,.inl ⟨SqL.of hD,fun l hl=>⟨p,l,_,_,rfl,bW (.of (S2.trans (S3.trans (same_new hl _)))) hp,SqT.of upd_same,J2 Dv rfl,by rw [List.length_map]; exact hrl,fun p4 H4 S4 hp4=>?_⟩⟩⟩
   exact⟨p4,_,_,rfl,S.trans (S2.trans (S3.trans ((same_new hl _).trans S4))),by rw [RX en er]; exact hp4⟩
 ·rintro σ' H' ⟨p,o2,o3,rfl,S,hp⟩
  rw [List.length_map,List.take_of_length_le (Nat.le_refl _)] at hp
  exact⟨_,rfl,q p H' S hp⟩
theorem aeF (cO:mg "range"=none)
  {abP:Addr}{abA:FuncData} (akm:Fun K "put" "put" CK abP abA) (akl:FnOk P w K mg base CX0 43 abP abA ["text","tree"] (afH K)) (akk:Binds K abA ["text","tree"] []) (akg:mg "put"=some (.ref abP))
  {jN:Addr}{jH:FuncData} (zB:Fun K "selfrunner" "selfrunner" iM jN jH) (zx:FnOk P w K mg base CX0 43 jN jH [] (mL K dW)) (yX:Binds K jH [] []) (yx:mg "selfrunner"=some (.ref jN))
  (F:Fun K "tower" "tower" rP f fd):FnOk P w K mg base CX0 44 f fd ["height","text"] (Bv K):=by
 refine okQ F Cw (fun vs H Q E h=>?_) (fun cdv A outer s H vs Q E hr h=>?_)
 ·obtain⟨h,x,t,rfl,_⟩:=h
  rfl
 obtain⟨h,x,t,rfl,hh,ht,hb,q⟩:=h
 refine⟨_,(au (bA (i:=2) Cw.nd rfl (Or.inl rfl) (qv 1))
   (au (yg PassesOwn.never rfl (mH rfl cO (aj (qv 0) ak)) (jU (i:=3) Cw.nd rfl (Or.inl rfl)) (aB (bA (i:=2) Cw.nd rfl (Or.inl rfl) (aN akl hr rfl akg akm.kp akk .nil pass0 (aj (oV zx hr rfl yx zB.kp yX .nil pass0) (aj (qv 2) ak))))))
   (aB (aR (qv 2))))),?_⟩
 refine jm (fun v=>[some (.int (h:Int)),some x,some v,none]) (fun _=>rfl) (fun v H'=>v=x∧H'=H) (fun R r=>⟨_,rfl,r _ _ ⟨rfl,rfl⟩⟩) (fun v2 H2 h2=>?_)
 obtain⟨rfl,rfl⟩:=h2
 refine⟨_,rfl,(h:Int),rfl,by lia,by lia,?_⟩
 refine vD (n:=h) (fun i σ' H'=>∃ (v:V) (o3:Option V),σ'=[some (.int (h:Int)),some v2,some v,o3]∧Same H2 H'∧TR K H' (cQ i t) v) ?_ ?_ ?_
 ·exact⟨v2,_,rfl,Same.refl _,ht⟩
 ·rintro i σ' H' hi ⟨v,o3,rfl,S,tv⟩
  have bi:=ab2 (n:=i) hb (by lia)
  dsimp only [gName]
  refine⟨rfl,fun y3 H3 S3 t3=>⟨_,rfl,y3,dW,v,cQ i t,rfl,t3,tv.mono (.of S3),⟨by have:=wJ.2; lia,by have:=wJ.1; lia⟩,bi.le (by lia) (by lia),fun z H4 S4 t4=>⟨z,_,rfl,S.trans (S3.trans S4),t4⟩⟩⟩
 ·rintro σ' H' ⟨v,o3,rfl,S,tv⟩
  exact⟨_,rfl,q _ _ S tv⟩
theorem Qu (cO:mg "range"=none) {rM:Addr} (La:mg "PUT_IN"=some (.ref rM)) (Kh:∀ H,SqT K H rM [.int 1,.int 0,.int 0,.int 0,.int 1,.int 0,.int 0,.int 0,.int 0,.int 0,.int 0,.int 0,.int 0,.int 0,.int 0])
  {uO:Addr}{uG:FuncData} (RW:Fun K "added" "added" pL uO uG) (RN:FnOk P w K mg base CX0 33 uO uG ["one","other"] (Pz K)) (Ru:Binds K uG ["one","other"] []) (QK:mg "added"=some (.ref uO))
  {rJ:Addr}{rA:FuncData} (Nf:Fun K "turned" "turned" mO rJ rA) (M9:FnOk P w K mg base CX0 33 rJ rA ["tally"] (J5 K)) (Mw:Binds K rA ["tally"] []) (K9:mg "turned"=some (.ref rJ))
  (F:Fun K "tower_tally" "tower_tally" g_ f fd):FnOk P w K mg base CX0 34 f fd ["height","tally"] (xO K):=by
 refine okQ F pJ (fun vs H Q E h=>?_) (fun cdv A outer s H vs Q E hr h=>?_)
 ·obtain⟨h,a,ns,rfl,_⟩:=h
  rfl
 obtain⟨h,a,ns,rfl,hh,ha,hn,q⟩:=h
 refine⟨_,(au (bA (i:=2) pJ.nd rfl (Or.inl rfl) (qv 1))
   (au (yg PassesOwn.never rfl (mH rfl cO (aj (qv 0) ak)) (jU (i:=3) pJ.nd rfl (Or.inl rfl)) (aB (bA (i:=2) pJ.nd rfl (Or.inl rfl) (aN RN hr rfl QK RW.kp Ru .nil pass0 (aj (aY (v:=.ref rM) rfl La rfl) (aj (aN M9 hr rfl K9 Nf.kp Mw .nil pass0 (aj (qv 2) ak)) ak))))))
   (aB (aR (qv 2))))),?_⟩
 refine jm (fun v=>[some (.int (h:Int)),some (.ref a),some v,none]) (fun _=>rfl) (fun v H'=>v=.ref a∧H'=H) (fun R r=>⟨_,rfl,r _ _ ⟨rfl,rfl⟩⟩) (fun v2 H2 h2=>?_)
 obtain⟨rfl,rfl⟩:=h2
 refine⟨_,rfl,(h:Int),rfl,by lia,by lia,?_⟩
 refine vD (n:=h) (fun i σ' H'=>∃ (p:Addr) (o3:Option V),σ'=[some (.int (h:Int)),some (.ref a),some (.ref p),o3]∧Same H2 H'∧SqT K H' p ((upN i ns).map nv)) ?_ ?_ ?_
 ·exact⟨a,_,rfl,Same.refl _,ha⟩
 ·rintro i σ' H' hi ⟨p,o3,rfl,S,hp⟩
  dsimp only [gName]
  refine⟨_,rfl,p,upN i ns,rfl,hp,OJ hn i,fun p3 H3 S3 h3=>⟨rM,p3,O_,turnT (upN i ns),rfl,Kh _,h3,rfl,Cr _,fun p4 H4 S4 h4=>⟨p4,_,rfl,S.trans (S3.trans S4),h4⟩⟩⟩
 ·rintro σ' H' ⟨p,o3,rfl,S,hp⟩
  exact⟨_,rfl,q _ _ S hp⟩
end
section
variable {P:Program}{w:World}{K:PySem.W.Frag}{mg:Str→Option Value}{base:Heap}{f:Addr}{fd:FuncData}
theorem VH (cO:mg "range"=none) (dZ:mg "len"=none)
  (F:Fun K "_law_deck" "_law_deck" jt f fd):FnOk P w K mg base CX0 32 f fd ["_law_script"] (acy K):=by
 refine okQ F jB (fun vs H Q E h=>?_) (fun cdv A outer s H vs Q E hr h=>?_)
 ·obtain⟨a,ns,rfl,_⟩:=h
  rfl
 obtain⟨a,ns,rfl,hl,h63,q⟩:=h
 refine⟨_,(au (Vp (i:=1) jB.nd rfl (Or.inl rfl) rfl (nH (fr:=[]) (js:=[]) (sc:=defScope jt) rfl rfl rfl (by decide +kernel) (by decide +kernel) (by decide +kernel) (by decide +kernel) (by exact trivial) (by decide +kernel) (fun y hy=>cell_has hy)) (Z2 (cW afX (qv 0) eN (dI aD))) (fun _ _ _ _ _=>(aW op_mod (qv 0) aD)))
   (au (bA (i:=2) jB.nd rfl (Or.inl rfl) (oU ak))
   (au (yg PassesOwn.never rfl (mH rfl cO (aj aD ak)) (jU (i:=3) jB.nd rfl (Or.inl rfl)) (au (bA (i:=4) jB.nd rfl (Or.inl rfl) aD)
   (au (bK (aV Im (cX call_len_seq rfl dZ pD (aj (qv 1) ak)) aD (nomark _)) (aB (bA (i:=4) jB.nd rfl (Or.inl rfl) (cB ix_list (qv 1) (aW op_mod (qv 3) (cX call_len_seq rfl dZ pD (aj (qv 1) ak))) (fun _ _=>rfl)))) bD)
   (au (bA (i:=5) jB.nd rfl (Or.inl rfl) (aW yp (aW op_mod (qv 4) aD) (aW op_add (aW yp aD (qv 3)) aD)))
   (aB (cR (gA PySem.F.plainAttrs_list PySem.F.slot_list_append PySem.F.type_list_append cP (qv 2) (aj (aW op_mod (aW op_add (aW op_add (qv 5) (aW op_fdiv (qv 4) aD)) (aW yp (aW yp aD (qv 3)) (qv 3))) aD) ak))))))))
   (aB (aR (qv 2)))))),?_⟩
 have aoh:(ns.take 160).length≤160:=by rw [List.length_take]; lia
 have aiE:pB (ns.map V.int) none (some 160)=(ns.take 160).map V.int:=by
  rw [show (some (160:Int))=some ((160:Nat):Int) from rfl,Xg,List.map_take]
 generalize ns.take 160=ms at aoh aiE
 have big:(2 ^ 64:Int)=18446744073709551616:=by decide
 refine⟨_,rfl,160,rfl,a,_,rfl,hl,fun p1 hp1=>?_⟩
 have h1:upd H p1 (.lst (pB (ns.map V.int) none (some 160))) p1=some (.lst (ms.map V.int)):=by rw [upd_same,aiE]
 have S1:Same H (upd H p1 (.lst (pB (ns.map V.int) none (some 160)))):=same_new hp1 _
 generalize upd H p1 (.lst (pB (ns.map V.int) none (some 160)))=H1 at h1 S1
 refine⟨p1,rfl,⟨_,SqL.of h1⟩,agI (fun i y=>∃ n:Int,y=.int n∧0≤n∧n<2305843009213693951) (SqL.of h1) (small (by rw [List.length_map]; lia)) (fun i x H' R hx S hR=>?_) (fun D ys hD ly py=>?_)⟩
 ·obtain⟨z,rfl⟩:∃ z,x=.int z:=by
   rw [List.getElem?_map] at hx
   cases hh:ms[i]? with
   | none=>rw [hh] at hx; cases hx
   | some z=>rw [hh] at hx; exact⟨z,(Option.some.inj hx).symm⟩
  exact⟨_,rfl,_,_,rfl,rfl,(by show (0:Int)<2305843009213693951; decide),hR _ ⟨_,rfl,Int.emod_nonneg _ (by decide),Int.emod_lt_of_pos _ (by decide)⟩⟩
 obtain⟨cs,rfl,hcs⟩:=Wt py
 rw [List.length_map,List.length_map] at ly
 have hDl:upd H1 D (.lst (cs.map V.int)) D=some (.lst (cs.map V.int)):=upd_same
 have S2:=S1.trans (same_new hD (.lst (cs.map V.int)))
 generalize upd H1 D (.lst (cs.map V.int))=H2 at hDl S2
 refine⟨Nat.zero_le _,fun p3 hp3=>?_⟩
 have ais:H p3=none:=S2.free hp3
 have n3:D≠p3:=ne_of_none hDl hp3
 refine⟨160,rfl,by decide,by decide,?_⟩
 refine vD (n:=160) (fun i σ' H'=>∃ (ds:List Int) (o3 o4 o5:Option V),σ'=[some (.ref a),some (.ref D),some (.ref p3),o3,o4,o5]∧Same H H'∧H' D=some (.lst (cs.map V.int))∧H' p3=some (.lst (ds.map V.int))∧ds.length=i) ?_ ?_ ?_
 ·exact⟨[],_,_,_,rfl,S2.trans (same_new hp3 _),by rw [upd_ne n3]; exact hDl,upd_same,rfl⟩
 ·rintro i σ' H' hi ⟨ds,o3,o4,o5,rfl,S,hd,h3,hlen⟩
  dsimp only [gName]
  refine jm (fun v=>[some (.ref a),some (.ref D),some (.ref p3),some (.int (0+(i:Int))),some v,o5]) (fun _=>rfl) (fun v H3=>v=.int 1∧H3=H') (fun R r=>r _ _ ⟨rfl,rfl⟩) (fun v4 H3 h4=>?_)
  obtain⟨rfl,rfl⟩:=h4
  refine Wu (fun σ2 H2=>∃ z:Int,σ2=[some (.ref a),some (.ref D),some (.ref p3),some (.int (0+(i:Int))),some (.int z),o5]∧H2=H3∧0≤z∧z<2305843009213693951) (fun σ2 H2 h2=>?_) (fun N hN=>?_)
  rotate_left
  ·refine⟨_,rfl,D,_,rfl,.inl (SqL.of hd),_,_,rfl,rfl,_,rfl,ite2 (fun hb=>?_) (fun _=>hN _ _ ⟨1,rfl,rfl,by decide,by decide⟩)⟩
   have hpos:0<cs.length:=by
    have:=of_decide_eq_true hb
    rw [List.length_map] at this
    lia
   have hpos':(0:Int)<((cs.map V.int).length:Int):=by rw [List.length_map]; lia
   have hj0:0≤(0+(i:Int)) % ((cs.map V.int).length:Int):=Int.emod_nonneg _ (by lia)
   have hj1:(0+(i:Int)) % ((cs.map V.int).length:Int)<((cs.map V.int).length:Int):=Int.emod_lt_of_pos _ hpos'
   obtain⟨c,hc,ec⟩:∃ c∈cs,atI (cs.map V.int) ((0+(i:Int)) % ((cs.map V.int).length:Int))=some (.int c):=by
    generalize (0+(i:Int)) % ((cs.map V.int).length:Int)=j at hj0 hj1
    have hk:j.toNat<cs.length:=by rw [List.length_map] at hj1; lia
    have e:(cs.map V.int)[j.toNat]?=some (.int cs[j.toNat]):=by rw [List.getElem?_map,List.getElem?_eq_getElem hk]; rfl
    have:=atI_nat e
    rw [show ((j.toNat:Nat):Int)=j by lia] at this
    exact⟨_,List.getElem_mem hk,this⟩
   obtain⟨c0,c1⟩:=hcs c hc
   exact⟨_,rfl,_,rfl,_,rfl,D,_,rfl,.inl (SqL.of hd),_,_,rfl,rfl,hpos',D,_,_,_,rfl,rfl,SqL.of hd,ec,hN _ _ ⟨c,rfl,rfl,c0,c1⟩⟩
  obtain⟨z,rfl,rfl,z0,z1⟩:=h2
  have zm0:=Int.emod_nonneg z (show (2147483629:Int)≠0 by decide)
  have zm1:=Int.emod_lt_of_pos z (show (0:Int)<2147483629 by decide)
  have aqA:(2:Int) ^ 64=18446744073709551616:=by decide
  refine jm (fun v=>[some (.ref a),some (.ref D),some (.ref p3),some (.int (0+(i:Int))),some (.int z),some v]) (fun _=>rfl) (fun v H4=>v=.int (z % 2147483629 * (2 * (0+(i:Int))+1))∧H4=H2) (fun R r=>⟨_,rfl,_,_,rfl,rfl,(by show (0:Int)<2147483629; decide),_,rfl,_,_,rfl,rfl,.inl ⟨by decide,by decide⟩,_,_,rfl,rfl,_,_,rfl,rfl,.inl ⟨by lia,by lia⟩,r _ _ ⟨rfl,rfl⟩⟩) (fun v5 H4 h5=>?_)
  obtain⟨rfl,rfl⟩:=h5
  refine⟨_,rfl,.inl ⟨rfl,_,SqL.of h3⟩,_,rfl,_,rfl,_,_,rfl,rfl,⟨by decide,by decide⟩,_,_,rfl,rfl,_,rfl,_,_,rfl,rfl,.inl ⟨by decide,by decide⟩,_,rfl,_,_,rfl,rfl,.inl ⟨by lia,by lia⟩,_,_,rfl,rfl,_,_,rfl,rfl,(by show (0:Int)<2147483647; decide),p3,_,_,rfl,rfl,h3,ahn (by rw [List.length_map]; lia),?_⟩
  exact⟨ds++[_],_,_,_,rfl,eX S ais,by rw [upd_ne n3]; exact hd,by rw [upd_same,List.map_append]; rfl,by rw [List.length_append,hlen]; rfl⟩
 ·rintro σ' H' ⟨ds,o3,o4,o5,rfl,S,hd,h3,hlen⟩
  exact⟨_,rfl,q p3 H' S ais ⟨ds,h3⟩⟩
theorem VF (dZ:mg "len"=none)
  (F:Fun K "_law_next" "_law_next" gD f fd):FnOk P w K mg base CX0 31 f fd ["_law_deck_here","_law_many"] Ft:=by
 refine okQ F Vh (fun vs H Q E h=>?_) (fun cdv A outer s H vs Q E hr h=>?_)
 ·obtain⟨p,m,rfl,_⟩:=h
  rfl
 obtain⟨p,m,rfl,hm,hd,q⟩:=h
 refine⟨_,(au (bK (aV op_eq (cX call_len_seq rfl dZ pD (aj (qv 0) ak)) aD (nomark _)) (aB (aR aD)) bD)
   (aB (aR (aW op_mod (gA PySem.F.plainAttrs_list PySem.F.slot_list_pop PySem.F.type_list_pop K5 (qv 0) (aj aD ak)) (qv 1))))),?_⟩
 obtain⟨ns,hp⟩:=hd
 refine⟨_,rfl,p,_,rfl,.inl (SqL.of hp),rfl,_,rfl,?_⟩
 refine ite2 (fun _=>?_) (fun hb=>?_)
 ·exact q 0 H (by lia) hm (Dr.refl ⟨ns,hp⟩)
 ·cases ns with
  | nil=>exact absurd (decide_eq_true rfl) hb
  | cons n ns =>
   refine⟨_,rfl,.inl ⟨rfl,_,SqL.of hp⟩,p,_,0,0,_,rfl,rfl,hp,by decide,by decide,?_,rfl,?_⟩
   ·rw [seqIndex_of (by decide) (by rw [List.length_map,List.length_cons]; lia)]
    rfl
   ·refine⟨_,rfl,_,_,rfl,rfl,hm,q _ _ (Int.emod_nonneg _ (by lia)) (Int.emod_lt_of_pos _ hm) ⟨fun b o nb e=>?_,⟨ns,?_⟩⟩⟩
    ·rw [upd_ne nb]; exact e
    ·rw [upd_same]; rfl
theorem aeM (cL:mg "tuple"=none) (cO:mg "range"=none)
  {cZ:Addr}{cY:FuncData} (dG:Fun K "_law_next" "_law_next" gD cZ cY) (tV:FnOk P w K mg base CX0 31 cZ cY ["_law_deck_here","_law_many"] Ft) (dF:Binds K cY ["_law_deck_here","_law_many"] []) (dB:mg "_law_next"=some (.ref cZ))
  {a_t:Addr}{d_t:FuncData} (fZ:Fun K "_law_tree" "_law_tree" gC a_t d_t) (iI:Binds K d_t ["_law_deck_here","_law_deep"] []) (iH:mg "_law_tree"=some (.ref a_t)) :
  ∀ n:Nat,FnOk P w K mg base CX0 (32+n) a_t d_t ["_law_deck_here","_law_deep"] (Ni K n):=by
 intro n
 induction n with
 | zero =>
  refine okQ (k:=31) fZ Fx (fun vs H Q E h=>?_) (fun cdv A outer s H vs Q E hr h=>?_)
  ·obtain⟨p,d,rfl,_⟩:=h
   rfl
  obtain⟨p,d,rfl,hd,hk,q⟩:=h
  refine⟨_,au (bK (aV op_eq (qv 1) aD (nomark _)) (aB (aR (aU ak))) bD) (aB aeu),?_⟩
  have e:d=0:=by lia
  subst e
  refine⟨_,rfl,rfl,_,rfl,ite2 (fun _=>⟨Nat.zero_le _,fun p1 hp1=>?_⟩) (fun hb=>absurd (decide_eq_true rfl) hb)⟩
  exact q _ _ _ ((Dr.refl hk).same (same_new hp1 _)) (jx upd_same) ⟨by rw [T.aK,T.aZ]; lia,by rw [T.aG,T.aO]; decide⟩
 | succ n ih =>
  have iJ:=ih
  have dh:=tV.mono (show 31≤32+n by lia)
  refine okQ (k:=32+n) fZ Fx (fun vs H Q E h=>?_) (fun cdv A outer s H vs Q E hr h=>?_)
  ·obtain⟨p,d,rfl,_⟩:=h
   rfl
  obtain⟨p,d,rfl,hd,hk,q⟩:=h
  refine⟨_,(au (bK (aV op_eq (qv 1) aD (nomark _)) (aB (aR (aU ak))) bD)
   (aB (aR (iT fK rfl cL lB (aj (CP rfl (nH (fr:=["_law_deck_here","_law_deep"]) (js:=[0,1]) (sc:=defScope gC) rfl rfl rfl (by decide +kernel) (by decide +kernel) (by decide +kernel) (by decide +kernel) (by exact⟨⟨rfl,rfl,rfl⟩,⟨⟨rfl,rfl,rfl⟩,trivial⟩⟩) (by decide +kernel) (fun y hy=>cell_has hy)) (mH rfl cO (aj (aN dh hr rfl dB dG.kp dF .nil pass0 (aj (qv 0) (aj aD ak))) ak)) (fun _ _ _ _ _=>(aN iJ hr rfl iH fZ.kp iI .nil pass0 (aj (qv 1) (aj (aW op_sub (qv 2) aD) ak))))) ak))))),?_⟩
  refine⟨_,rfl,rfl,_,rfl,ite2 (fun hb=>?_) (fun hb=>?_)⟩
  ·have e:d=0:=by
    have:=of_decide_eq_true hb
    have:=V.int.inj this
    lia
   subst e
   refine⟨Nat.zero_le _,fun p1 hp1=>?_⟩
   exact q _ _ _ ((Dr.refl hk).same (same_new hp1 _)) (jx upd_same) ⟨by rw [T.aK,T.aZ]; lia,by rw [T.aG,T.aO]; decide⟩
  ·have hd0:d≠0:=fun z=>hb (by subst z; exact decide_eq_true rfl)
   obtain⟨e,rfl⟩:∃ e,d=e+1:=⟨d - 1,by lia⟩
   refine⟨_,rfl,p,4,rfl,by decide,hk,fun m H1 hm0 hm1 D1=>?_⟩
   refine⟨m,rfl,by lia,by lia,?_⟩
   have hk1:=D1.dH
   refine Gu (fun D i ys H'=>D≠p∧H1 D=none∧Dr p H1 H'∧H' D=some (.lst ys)∧ys.length=i∧∃ ts,TRs K H' ts ys∧∀ t∈ts,ShT e t) (small (by lia)) (fun D hD=>?_) (fun D i ys H' j=>⟨j.2.2.2.1,j.2.2.2.2.1⟩) (fun D i ys H' R hi j hR=>?_) (fun D ys H' j=>?_)
   ·have hne:D≠p:=fun z=>by
     obtain⟨ns,e1⟩:=hk1
     rw [z,e1] at hD; cases hD
    exact⟨hne,hD,(Dr.refl hk1).upd hD hne,upd_same,rfl,[],bJ.mpr rfl,fun _ h=>by simp at h⟩
   ·obtain⟨hne,hD,Dh,h1,hl,ts,htr,hsh⟩:=j
    refine⟨_,rfl,_,rfl,_,_,rfl,rfl,p,e,(by show [V.ref p,V.int (((e+1:Nat):Int) - 1)]=_; rw [show ((e+1:Nat):Int) - 1=(e:Int) by lia]),by lia,Dh.dH,fun y t H3 D3 ht hs=>?_⟩
    have h3:=D3.keep D _ hne h1
    refine hR y H3 h3 ⟨hne,hD,(Dh.trans D3).upd hD hne,upd_same,by rw [List.length_append,hl]; rfl,ts++[t],?_,fun u hu=>?_⟩
    ·exact TRs.append ((htr.mono (D3.kt Dh.dH)).mono (Kt.lst h3)) (cN.mpr ⟨y,[],rfl,ht.mono (Kt.lst h3),bJ.mpr rfl⟩)
    ·rcases List.mem_append.mp hu with z | z
     ·exact hsh u z
     ·rw [List.mem_singleton.mp z]; exact hs
   ·obtain⟨hne,hD,Dh,h1,hl,ts,htr,hsh⟩:=j
    refine⟨D,ys,rfl,.inl ⟨SqL.of h1,fun p5 hp5=>?_⟩⟩
    have hlt:ts.length≤3:=by rw [← htr.length,hl]; lia
    refine q _ (.node ts) _ ((D1.trans Dh).same (same_new hp5 _)) (uW (SqT.of upd_same) (htr.mono (Kt.new hp5))) ⟨?_,?_⟩
    ·rw [T.aK]
     exact T.Ar fun u hu=>by have:=(hsh u hu).1; lia
    ·rw [T.aG]
     have:=R7 (b:=pbT e) hlt fun u hu=>(hsh u hu).2
     show _≤1+3 * pbT e
     lia
theorem VG
  {cZ:Addr}{cY:FuncData} (dG:Fun K "_law_next" "_law_next" gD cZ cY) (dh:FnOk P w K mg base CX0 35 cZ cY ["_law_deck_here","_law_many"] Ft) (dF:Binds K cY ["_law_deck_here","_law_many"] []) (dB:mg "_law_next"=some (.ref cZ))
  {fY:Addr}{fX:FuncData} (fZ:Fun K "_law_tree" "_law_tree" gC fY fX) (iJ:FnOk P w K mg base CX0 35 fY fX ["_law_deck_here","_law_deep"] (Ni K 3)) (iI:Binds K fX ["_law_deck_here","_law_deep"] []) (iH:mg "_law_tree"=some (.ref fY))
  (F:Fun K "_law_load" "_law_load" lu f fd):FnOk P w K mg base CX0 36 f fd ["_law_deck_here"] (ZF K):=by
 refine okQ F Vi (fun vs H Q E h=>?_) (fun cdv A outer s H vs Q E hr h=>?_)
 ·obtain⟨p,rfl,_⟩:=h
  rfl
 obtain⟨p,rfl,hk,q⟩:=h
 refine⟨_,(au (bK (aV op_eq (aN dh hr rfl dB dG.kp dF .nil pass0 (aj (qv 0) (aj aD ak))) aD (nomark _)) (aB (aR (aN iJ hr rfl iH fZ.kp iI .nil pass0 (aj (qv 0) (aj aD ak))))) bD)
   (aB (aR (aU ak)))),?_⟩
 refine⟨_,rfl,p,4,rfl,by decide,hk,fun m H1 h0 h1 D1=>⟨rfl,_,rfl,ite2 (fun _=>⟨_,rfl,p,2,rfl,by decide,D1.dH,fun y t H2 D2 ht hs=>q _ _ _ (D1.trans D2) ht hs⟩) (fun _=>⟨Nat.zero_le _,fun p1 hp1=>?_⟩)⟩⟩
 exact q _ _ _ (D1.same (same_new hp1 _)) (jx upd_same) ⟨by rw [T.aK,T.aZ]; lia,by rw [T.aG,T.aO]; decide⟩
theorem acV (cO:mg "range"=none) (cL:mg "tuple"=none) (Ul:mg "int"=none)
  {cZ:Addr}{cY:FuncData} (dG:Fun K "_law_next" "_law_next" gD cZ cY) (tV:FnOk P w K mg base CX0 31 cZ cY ["_law_deck_here","_law_many"] Ft) (dF:Binds K cY ["_law_deck_here","_law_many"] []) (dB:mg "_law_next"=some (.ref cZ))
  {fY:Addr}{fX:FuncData} (fZ:Fun K "_law_tree" "_law_tree" gC fY fX) (Yd:FnOk P w K mg base CX0 36 fY fX ["_law_deck_here","_law_deep"] (Ni K 3)) (iI:Binds K fX ["_law_deck_here","_law_deep"] []) (iH:mg "_law_tree"=some (.ref fY))
  {Bl:Addr}{Az:FuncData} (Zh:Fun K "_law_load" "_law_load" lu Bl Az) (Ye:FnOk P w K mg base CX0 36 Bl Az ["_law_deck_here"] (ZF K)) (YZ:Binds K Az ["_law_deck_here"] []) (YG:mg "_law_load"=some (.ref Bl))
  {a_w:Addr}{d_w:FuncData} (Bs:Fun K "_law_word" "_law_word" nu a_w d_w) (YT:Binds K d_w ["_law_deck_here","_law_deep"] []) (YC:mg "_law_word"=some (.ref a_w))
  {a_x:Addr}{d_x:FuncData} (lD:Fun K "_law_text" "_law_text" jr a_x d_x) (qI:Binds K d_x ["_law_deck_here","_law_deep","_law_many"] []) (qC:mg "_law_text"=some (.ref a_x)) :
  ∀ n:Nat,n≤3→FnOk P w K mg base CX0 (2 * n+36) a_w d_w ["_law_deck_here","_law_deep"] (Zu K n)∧FnOk P w K mg base CX0 (2 * n+37) a_x d_x ["_law_deck_here","_law_deep","_law_many"] (Zw K n):=by
 intro n
 induction n with
 | zero =>
  intro _
  refine⟨okQ (k:=35) Bs jA (fun vs H Q E h=>?_) (fun cdv A outer s H vs Q E hr h=>?_),okQ (k:=36) lD Fy (fun vs H Q E h=>?_) (fun cdv A outer s H vs Q E hr h=>?_)⟩
  ·obtain⟨p,d,rfl,_⟩:=h; rfl
  ·obtain⟨p,d,rfl,hd,_⟩:=h; exact absurd hd (Nat.not_lt_zero _)
  ·obtain⟨p,d,m,rfl,_⟩:=h; rfl
  ·obtain⟨p,d,m,rfl,hd,_⟩:=h; exact absurd hd (Nat.not_lt_zero _)
 | succ n ih =>
  intro hn4
  obtain⟨_,qJ⟩:=ih (by lia)
  have p2:pbT 2=13:=rfl
  have p3:pbT 3=40:=rfl
  have wd:FnOk P w K mg base CX0 (2 * n+38) a_w d_w ["_law_deck_here","_law_deep"] (Zu K (n+1)):=by
   have dh:=tV.mono (show 31≤2 * n+37 by lia)
   have iJ:=Yd.mono (show 36≤2 * n+37 by lia)
   have Za:=Ye.mono (show 36≤2 * n+37 by lia)
   refine okQ (k:=2 * n+37) Bs jA (fun vs H Q E h=>?_) (fun cdv A outer s H vs Q E hr h=>?_)
   ·obtain⟨p,d,rfl,_⟩:=h; rfl
   obtain⟨p,d,rfl,hd,hk,q⟩:=h
   refine⟨_,(au (bA (i:=2) jA.nd rfl (Or.inl rfl) (aN dh hr rfl dB dG.kp dF .nil pass0 (aj (qv 0) (aj aD ak))))
   (au (bK (aV op_eq (qv 2) aD (nomark _)) (aB (aR (aN iJ hr rfl iH fZ.kp iI .nil pass0 (aj (qv 0) (aj aD ak))))) bD)
   (au (bA (i:=3) jA.nd rfl (Or.inl rfl) (cB ix_list (oU (aj aD (aj aD (aj aD (aj aD (aj aD (aj aD (aj aD (aj aD (aj aD (aj aD (aj aD (aj aD (aj aD ak)))))))))))))) (qv 2) (fun _ _=>rfl)))
   (au (bA (i:=4) jA.nd rfl (Or.inl rfl) (aW mV (aU (aj (aU ak) ak)) (aW op_add (qv 3) (aW yp (iT adt rfl Ul ajo (aj (Ii op_eq (qv 3) aD (nomark _)) ak)) (aN dh hr rfl dB dG.kp dF .nil pass0 (aj (qv 0) (aj aD ak)))))))
   (au (bK (QW.pt (sG (aV op_eq (aN dh hr rfl dB dG.kp dF .nil pass0 (aj (qv 0) (aj aD ak))) aD (nomark _)) (pO (aV Im (qv 3) aD (nomark _))))) (au (bA (i:=5) jA.nd rfl (Or.inl rfl) (aN dh hr rfl dB dG.kp dF .nil pass0 (aj (qv 0) (aj (qv 3) ak))))
   (aB (bA (i:=4) jA.nd rfl (Or.inl rfl) (aW bh (aW bh (cW eF (qv 4) eN (dI (qv 5))) (aU (aj (aN iJ hr rfl iH fZ.kp iI .nil pass0 (aj (qv 0) (aj aD ak))) ak))) (cW eF (qv 4) (dI (aW op_add (qv 5) aD)) eN))))) bD)
   (au (bK (aV op_eq (qv 3) aD (nomark _)) (aB (aR (aW bh (aU (aj (aU ak) ak)) (aN iJ hr rfl iH fZ.kp iI .nil pass0 (aj (qv 0) (aj aD ak)))))) bD)
   (au (bK (QW.pt (sG (aV op_eq (qv 3) aD (nomark _)) (pO (aV Im (qv 1) aD (nomark _))))) (aB (aR (aW bh (aU (aj (qv 4) (aj (aN qJ hr rfl qC lD.kp qI .nil pass0 (aj (qv 0) (aj (aW op_sub (qv 1) aD) (aj aD ak)))) ak))) (aN qJ hr rfl qC lD.kp qI .nil pass0 (aj (qv 0) (aj (aW op_sub (qv 1) aD) (aj aD ak))))))) bD)
   (au (bK (QW.pt (sG (aV op_eq (qv 3) aD (nomark _)) (pO (aV Im (qv 1) aD (nomark _))))) (aB (aR (aW bh (aU (aj (qv 4) ak)) (aN qJ hr rfl qC lD.kp qI .nil pass0 (aj (qv 0) (aj (aW op_sub (qv 1) aD) (aj aD ak))))))) bD)
   (aB (aR (aW bh (aU (aj (qv 4) ak)) (aN Za hr rfl YG Zh.kp YZ .nil pass0 (aj (qv 0) ak))))))))))))),?_⟩
   have pw:=ahF d
   refine⟨_,rfl,p,14,rfl,by decide,hk,fun m H1 hm0 hm1 D1=>?_⟩
   have hk1:=D1.dH
   refine⟨_,rfl,rfl,_,rfl,ite2 (fun hb=>⟨_,rfl,p,3,rfl,by decide,hk1,fun y t H3 D3 ht hs=>q _ _ _ (D1.trans D3) ht ⟨hs.b.le (by lia) (by lia),Ds 41 t (by have:=hs.b.2; lia) (by decide)⟩⟩) (fun aon=>?_)⟩
   have aqz:m<13:=by
    have:m≠13:=fun z=>aon (by rw [z]; exact decide_eq_true rfl)
    lia
   refine⟨(by show 13≤sizeLine; decide),fun p3' hp3=>?_⟩
   obtain⟨c,hc,ec⟩:=aie (ns:=[0,0,1,2,3,4,4,5,5,6,7,8,9]) (k:=m.toNat) (by show _<13; lia)
   rw [show ((m.toNat:Nat):Int)=m by lia] at ec
   have hc9:c≤9:=(by decide:∀ c∈([0,0,1,2,3,4,4,5,5,6,7,8,9]:List Nat),c≤9) c hc
   refine⟨_,rfl,p3',_,_,_,rfl,rfl,SqL.of upd_same,ec,?_⟩
   refine⟨Nat.zero_le _,fun p4 g4=>⟨(by show 1≤sizeLine; decide),fun p5 g5=>?_⟩⟩
   obtain⟨S4,t4⟩:=bN (K:=K) (ts:=[]) g4 (bJ.mpr rfl)
   obtain⟨S5,t5⟩:=bN (K:=K) g5 (dO t4)
   have D5:=((D1.same (same_new hp3 _)).same S4).same S5
   refine⟨_,rfl,_,rfl,rfl,.inr ⟨_,rfl,?_⟩⟩
   refine⟨_,rfl,p,4,rfl,by decide,D5.dH,fun i6 H6 i60 i61 D6=>?_⟩
   have hone:∃ o:Nat,(if decide (V.int (c:Int)=V.int 9)=true then (1:Int) else 0)=(o:Int)∧o≤1∧(c≠9→o=0):=by
    split
    ·rename_i hz
     have:=V.int.inj (of_decide_eq_true hz)
     exact⟨1,rfl,by lia,fun z=>by lia⟩
    ·exact⟨0,rfl,by lia,fun _=>rfl⟩
   obtain⟨o,eo,ho,ho9⟩:=hone
   rw [eo]
   refine⟨_,_,rfl,rfl,.inl ⟨by lia,by lia⟩,_,_,rfl,rfl,?_⟩
   have hle:∃ l:Nat,(c:Int)+(o:Int) * i6=(l:Int)∧l≤12∧c≤l∧(c≠9→l=c):=by
    rcases (by lia:o=0∨o=1) with rfl | rfl
    ·exact⟨c,by lia,by lia,by lia,fun _=>rfl⟩
    ·exact⟨(c+i6).toNat,by lia,by lia,by lia,fun z=>absurd (ho9 z) (by decide)⟩
   obtain⟨l,el,hl,hcl,hl9⟩:=hle
   refine aa6 (k:=(c:Int)+(o:Int) * i6) l (t5.mono (D6.kt D5.dH)) rfl (by lia) (by lia) (by lia) (fun y7 H7 S7 t7=>?_)
   have D7:=(D5.trans D6).same S7
   have b7:B 1 13 (wY l):=(afx l).le (by lia) (by lia)
   dsimp only [gName]
   refine Wu (fun σ' H'=>∃ (as:List T) (y:V) (o5:Option V),σ'=[some (.ref p),some (.int (d:Int)),some (.int m),some (.int (c:Int)),some y,o5]∧Dr p H H'∧TR K H' (.node as) y∧B 3 26 (.node as)∧as.length=l) (fun σ8 H8 h8=>?_) (fun N hN=>?_)
   rotate_left
   ·dsimp only [tIfS]
    refine⟨_,rfl,p,6,rfl,by decide,D7.dH,fun i8 H8 _ _ D8=>⟨rfl,_,rfl,ite2 (fun _=>?_) (fun _=>?_)⟩⟩
    rotate_left
    ·exact iteF (hN _ _ ⟨_,y7,_,rfl,D7.trans D8,t7.mono (D8.kt D7.dH),b7.le (by lia) (by lia),List.length_replicate⟩)
    refine⟨_,rfl,_,_,rfl,rfl,_,rfl,ite2 (fun hb=>?_) (fun _=>?_)⟩
    rotate_left
    ·exact hN _ _ ⟨_,y7,_,rfl,D7.trans D8,t7.mono (D8.kt D7.dH),b7.le (by lia) (by lia),List.length_replicate⟩
    have hc0:0<c:=by have:=of_decide_eq_true hb; lia
    refine⟨_,rfl,_,rfl,p,c,rfl,by lia,D8.dH,fun i9 H9 i90 i91 D9=>?_⟩
    obtain⟨j,rfl⟩:∃ j:Nat,i9=(j:Int):=⟨i9.toNat,by lia⟩
    have D89:=D8.trans D9
    refine⟨_,rfl,_,rfl,_,rfl,nTo (t7.mono (D89.kt D7.dH)) j (fun y10 H10 S10 t10=>?_)⟩
    have D10:=D89.same S10
    refine⟨_,rfl,p,2,rfl,by decide,D10.dH,fun y11 u11 H11 D11 t11 s11=>⟨(by show 1≤sizeLine; decide),fun p12 g12=>?_⟩⟩
    obtain⟨S12,t12⟩:=bN (K:=K) g12 (dO t11)
    have D12:=(D10.trans D11).same S12
    refine cH (t10.mono ((D11.kt D10.dH).trans (.of S12))) t12 (small (by have:=b7.len; rw [List.length_take]; show _+1≤_; lia)) (fun y13 H13 S13 t13=>?_)
    have D13:=D12.same S13
    refine⟨_,rfl,_,rfl,_,_,rfl,rfl,_,rfl,lQ (t7.mono (D13.kt D7.dH)) (j+1) (fun y14 H14 S14 t14=>?_)⟩
    refine cH (t13.mono (.of S14)) t14 (small (by have:=b7.len; rw [List.length_append,List.length_take,List.length_drop]; show _+1+_≤_; lia)) (fun y15 H15 S15 t15=>?_)
    exact hN _ _ ⟨_,y15,_,rfl,((D7.trans D13).same S14).same S15,t15,(ajE j b7 s11.b).le (by lia) (by lia),by rw [List.length_append,List.length_append,List.length_take,List.length_drop,List.length_singleton,List.length_replicate]; lia⟩
   obtain⟨as,y8,o5,rfl,D8,t8,b8,la⟩:=h8
   have hk8:=D8.dH
   refine⟨_,rfl,rfl,_,rfl,ite2 (fun hb=>?_) (fun hb4=>?_)⟩
   ·refine⟨Nat.zero_le _,fun p1 hp1=>⟨(by show 1≤sizeLine; decide),fun p2' hp2=>?_⟩⟩
    obtain⟨S1,t1⟩:=bN (K:=K) (ts:=[]) hp1 (bJ.mpr rfl)
    obtain⟨S2,t2⟩:=bN (K:=K) hp2 (dO t1)
    have D2:=(D8.same S1).same S2
    refine⟨_,rfl,p,3,rfl,by decide,D2.dH,fun y t H3 D3 ht hs=>?_⟩
    cases t with
    | node us =>
     have b:=Jh hs.b (Ou Ej)
     refine cH (t2.mono (D3.kt D2.dH)) ht (small (by have:=hs.b.len; rw [List.length_singleton]; lia)) (fun z H4 S4 t4=>?_)
     exact q _ _ _ ((D2.trans D3).same S4) t4 ⟨b.le (by lia) (by lia),aiy (us:=us) (by have:=hs.b.2; lia)⟩
   try dsimp only [tNext,tSeq,tIfS]
   refine acq (fun R r=>⟨_,rfl,rfl,_,rfl,r⟩) (fun R r=>⟨_,rfl,_,_,rfl,rfl,_,rfl,r⟩) ?_
   refine ite2 (fun hb=>?_) (fun _=>?_)
   ·have hd0:0<d:=by
     have:=of_decide_eq_true (Bool.and_eq_true _ _ ▸ hb).2
     lia
    obtain⟨e,rfl⟩:∃ e,d=e+1:=⟨d - 1,by lia⟩
    have pe:pw5 (e+1)=62+6 * pw5 e:=rfl
    refine⟨_,rfl,_,rfl,_,rfl,_,_,rfl,rfl,p,e,3,Rh p e,by lia,by decide,hk8,fun y3 u3 H3 D3 t3 s3 l3=>⟨(by show 2≤sizeLine; decide),fun p4 hp4=>?_⟩⟩
    obtain⟨S4,t4⟩:=bN (K:=K) hp4 (pZ (t8.mono (D3.kt hk8)) t3)
    have D4:=(D8.trans D3).same S4
    refine⟨_,rfl,_,rfl,_,_,rfl,rfl,p,e,3,Rh p e,by lia,by decide,D4.dH,fun y5 u5 H5 D5 t5 s5 l5=>?_⟩
    cases u5 with
    | node us =>
     have b3:B (4+2 * e+1) (1+3 * pw5 e) u3:=by rw [← fO u3]; exact Jf (fun w hw=>(s3 w hw).1) l3
     have b5:B (4+2 * e+1) (1+3 * pw5 e) (.node us):=Jf (fun w hw=>(s5 w hw).1) l5
     have b:=Jh b5 (fH b8 (Ou b3))
     have hl:us.length≤3:=l5
     refine cH (t4.mono (D5.kt D4.dH)) t5 (small (by show 2+us.length≤_; lia)) (fun z H6 S6 t6=>?_)
     have c7:c=7:=by have:=V.int.inj (of_decide_eq_true (Bool.and_eq_true _ _ ▸ hb).1); lia
     exact q _ _ _ ((D4.trans D5).same S6) t6 ⟨b.le (by lia) (by lia),agQ (by rw [la,hl9 (by lia)]; exact c7) (fun v hv=>(s3 v hv).2) (fun v hv=>(s5 v hv).2)⟩
   try dsimp only [tNext,tSeq,tIfS]
   refine acq (fun R r=>⟨_,rfl,rfl,_,rfl,r⟩) (fun R r=>⟨_,rfl,_,_,rfl,rfl,_,rfl,r⟩) ?_
   refine ite2 (fun hb=>?_) (fun _=>?_)
   ·have hd0:0<d:=by
     have:=of_decide_eq_true (Bool.and_eq_true _ _ ▸ hb).2
     lia
    obtain⟨e,rfl⟩:∃ e,d=e+1:=⟨d - 1,by lia⟩
    have pe:pw5 (e+1)=62+6 * pw5 e:=rfl
    refine⟨_,rfl,(by show 1≤sizeLine; decide),fun p4 hp4=>?_⟩
    obtain⟨S4,t4⟩:=bN (K:=K) hp4 (dO t8)
    have D4:=D8.same S4
    refine⟨_,rfl,_,rfl,_,_,rfl,rfl,p,e,3,Rh p e,by lia,by decide,D4.dH,fun y5 u5 H5 D5 t5 s5 l5=>?_⟩
    cases u5 with
    | node us =>
     have b5:B (4+2 * e+1) (1+3 * pw5 e) (.node us):=Jf (fun w hw=>(s5 w hw).1) l5
     have b:=Jh b5 (Ou b8)
     have hl:us.length≤3:=l5
     refine cH (t4.mono (D5.kt D4.dH)) t5 (small (by show 1+us.length≤_; lia)) (fun z H6 S6 t6=>?_)
     have c8:c=8:=by have:=V.int.inj (of_decide_eq_true (Bool.and_eq_true _ _ ▸ hb).1); lia
     exact q _ _ _ ((D4.trans D5).same S6) t6 ⟨b.le (by lia) (by lia),ae3 (by rw [la,hl9 (by lia)]; exact c8) (fun v hv=>(s5 v hv).2)⟩
   refine⟨_,rfl,(by show 1≤sizeLine; decide),fun p4 hp4=>?_⟩
   obtain⟨S4,t4⟩:=bN (K:=K) hp4 (dO t8)
   have D4:=D8.same S4
   refine⟨_,rfl,p,rfl,D4.dH,fun y5 u5 H5 D5 t5 s5=>?_⟩
   cases u5 with
   | node us =>
    have b:=Jh s5.b (Ou b8)
    refine cH (t4.mono (D5.kt D4.dH)) t5 (small (by have:=s5.b.len; rw [List.length_singleton]; lia)) (fun z H6 S6 t6=>?_)
    have c0:c≠0:=fun z=>hb4 (by rw [z]; exact decide_eq_true rfl)
    exact q _ _ _ ((D4.trans D5).same S6) t6 ⟨b.le (by lia) (by lia),agP (us:=us) (by lia) (by have:=s5.b.2; lia)⟩
  refine⟨wd,?_⟩
  have Y8:=wd
  have dh:=tV.mono (show 31≤2 * n+38 by lia)
  refine okQ (k:=2 * n+38) lD Fy (fun vs H Q E h=>?_) (fun cdv A outer s H vs Q E hr h=>?_)
  ·obtain⟨p,d,m,rfl,_⟩:=h; rfl
  obtain⟨p,d,m,rfl,hd,hm,hk,q⟩:=h
  refine⟨_,(aB (aR (iT fK rfl cL lB (aj (CP rfl (nH (fr:=["_law_deck_here","_law_deep"]) (js:=[0,1]) (sc:=defScope jr) rfl rfl rfl (by decide +kernel) (by decide +kernel) (by decide +kernel) (by decide +kernel) (by exact⟨⟨rfl,rfl,rfl⟩,⟨⟨rfl,rfl,rfl⟩,trivial⟩⟩) (by decide +kernel) (fun y hy=>cell_has hy)) (mH rfl cO (aj (aN dh hr rfl dB dG.kp dF .nil pass0 (aj (qv 0) (aj (aW op_add (qv 2) aD) ak))) ak)) (fun _ _ _ _ _=>(aN Y8 hr rfl YC Bs.kp YT .nil pass0 (aj (qv 1) (aj (qv 2) ak))))) ak)))),?_⟩
  refine⟨_,rfl,_,rfl,_,_,rfl,rfl,p,(m:Int)+1,rfl,by lia,hk,fun i H1 hm0 hm1 D1=>⟨i,rfl,by lia,by lia,?_⟩⟩
  refine agJ (K:=K) (XQ d) D1.dH (small (by lia)) (fun i H' R hi Dh hR=>?_) (fun D ys ts H' Dh hl hlen htr hsh=>?_)
  ·exact⟨_,rfl,_,rfl,p,d,rfl,hd,Dh.dH,fun y t H3 D3 ht hs=>hR y t H3 D3 ht hs⟩
  refine⟨D,ys,rfl,.inl ⟨SqL.of hl,fun p5 hp5=>?_⟩⟩
  obtain⟨S5,t5⟩:=bN (K:=K) hp5 htr
  exact q _ _ _ ((D1.trans Dh).same S5) t5 hsh (by show ts.length≤m; lia)
end
section
variable {P:Program}{w:World}{K:PySem.W.Frag}{mg:Str→Option Value}{base:Heap}{f:Addr}{fd:FuncData}
theorem ajt {K:PySem.W.Frag}{H:Hp}{t u:T}{x:V} (h:TR K H (.node [t,u]) x):∃ a y z,x=.ref a∧SqT K H a [y,z]∧TR K H t y∧TR K H u z:=by
 obtain⟨a,xs,rfl,ha,ra⟩:=cF.mp h
 obtain⟨y,ys,rfl,hy,r2⟩:=cN.mp ra
 obtain⟨z,zs,rfl,hz,r3⟩:=cN.mp r2
 obtain rfl:=bJ.mp r3
 exact⟨a,y,z,rfl,ha,hy,hz⟩
theorem abl {tc:TT}{tb u:TS}{D:Ends}{σ:L2.St}{H:Hp} (c:Prop) (k:∀ H',Same H H'→¬ c→u D σ H') (h:∀ N:Hp→Prop,(∀ H',Same H H'→¬ c→N H')→tc σ H fun b H1=>if b=true then tb { D with nx:=u D } σ H1 else N H1):tSeq (tIfS tc tb tNext) u D σ H:=h (fun H1=>u D σ H1) k
theorem ad3 (w:T) (s:List T):wI (aH w) (bf w) (pad s (many (aH w)))=behind w s:=by
 have h9:=tY w
 by_cases h0:aH w=0
 ·rw [DX h0,h0,show many 0=0 from rfl,cU (Nat.zero_le _)]; rfl
 by_cases h7:7≤aH w
 ·rw [Bt h7,jM (by lia)]
 rcases (by lia:aH w=1∨aH w=2∨aH w=3∨aH w=4∨aH w=5∨aH w=6) with h | h | h | h | h | h
 ·rw [Xp h,h]; rfl
 ·rw [Xo h,h,show many 2=1 from rfl]
  show ats (pad s 1) 0::pad s 1=_
  rw [Ky]; rfl
 ·rw [Xn h,h]; rfl
 ·rw [Xm h,h]; rfl
 ·rw [Rq h,h]; rfl
 ·rw [Xl h,h]; rfl
theorem Xw (s:List T):ats (pad s 1) 0=ats s 0:=by rw [Ky]; rfl
theorem aax {s:List T} (h:1≤s.length):s.take 1++s=ats s 0::s:=by
 cases s with
 | nil=>exact absurd h (by decide)
 | cons a s=>rfl
theorem agR {st:Std} (h:jR 100 st∧wt st≤1400000):aaZ st:=⟨by have:=h.1.1; lia,by have:=h.1.2; lia,by have:=h.2; lia⟩
theorem Ws {c:Bool}{A B:Prop} (h:c=false) (k:B):if c=true then A else B:=by subst h; exact k
theorem aeX {c:Bool}{A B:Prop} (h:c=true) (k:A):if c=true then A else B:=by subst h; exact k
theorem Tn (dZ:mg "len"=none)
  (F:Fun K "_law_first" "_law_first" eZ f fd):FnOk P w K mg base CX0 31 f fd ["_law_tree_here"] (tX K):=by
 refine okQ F S_ (fun vs H Q E h=>?_) (fun cdv A outer s H vs Q E hr h=>?_)
 ·obtain⟨x,t,rfl,_⟩:=h
  rfl
 obtain⟨x,t,rfl,ht,q⟩:=h
 refine⟨_,(au (bK (aV op_eq (cX call_len_seq rfl dZ pD (aj (qv 0) ak)) aD (nomark _)) (aB (aR (aU ak))) bD)
   (aB (aR (cB cJ (qv 0) aD (fun _ _=>rfl))))),?_⟩
 cases t with
 | node ts =>
 obtain⟨a,xs,rfl,ha,ra⟩:=cF.mp ht
 have hl:=ra.length
 refine⟨_,rfl,a,xs,rfl,.inr ha,rfl,_,rfl,ite2 (fun hb=>?_) (fun hb=>?_)⟩
 ·have h0:xs.length=0:=by have:=V.int.inj (of_decide_eq_true hb); lia
  have e:ts=[]:=List.length_eq_zero_iff.mp (by lia)
  subst e
  exact⟨Nat.zero_le _,fun p hp=>q _ _ (same_new hp _) (jx upd_same)⟩
 ·cases ts with
  | nil=>exact absurd (decide_eq_true (by rw [hl]; rfl)) hb
  | cons u us=>exact⟨_,rfl,iV ht 0 rfl (fun z tz=>q _ _ (Same.refl _) tz)⟩
theorem VB (dZ:mg "len"=none)
  (F:Fun K "_law_wide" "_law_wide" lg f fd):FnOk P w K mg base CX0 31 f fd ["_law_stack_here","_law_sort_here"] (Zv K):=by
 refine okQ F Vf (fun vs H Q E h=>?_) (fun cdv A outer s H vs Q E hr h=>?_)
 ·obtain⟨x,s1,k,rfl,_⟩:=h
  rfl
 obtain⟨x,s1,k,rfl,hx,hl,hk,q⟩:=h
 refine⟨_,(aB (aR (aW bh (qv 0) (aW mV (aU (aj (aU ak) ak)) (aW op_sub (cB ix_list (oU (aj aD (aj aD (aj aD (aj aD (aj aD (aj aD (aj aD (aj aD (aj aD (aj aD ak))))))))))) (qv 1) (fun _ _=>rfl)) (cX call_len_seq rfl dZ pD (aj (qv 0) ak))))))),?_⟩
 refine⟨_,rfl,Nat.zero_le _,fun p1 g1=>⟨(by show 1≤sizeLine; decide),fun p2 g2=>?_⟩⟩
 obtain⟨S1,t1⟩:=bN (K:=K) (ts:=[]) g1 (bJ.mpr rfl)
 obtain⟨S2,t2⟩:=bN (K:=K) g2 (dO t1)
 refine⟨(by show 10≤sizeLine; decide),fun p3 g3=>?_⟩
 have S3:=same_new g3 (.lst (([0,1,1,2,2,1,3,1,1,0]:List Nat).map fun n:Nat=>V.int (n:Int)))
 have S13:=S1.trans (S2.trans S3)
 have hx2:=hx.mono (.of S13)
 obtain⟨a,xs,rfl,ha,ra⟩:=cF.mp hx2
 have hrl:=ra.length
 have hm3:many k≤3:=(by decide:∀ k,k≤9→many k≤3) k hk
 refine⟨_,rfl,p3,_,_,_,rfl,rfl,(show SqL K _ p3 (([0,1,1,2,2,1,3,1,1,0]:List Nat).map fun n:Nat=>V.int (n:Int)) from SqL.of upd_same),agE (ns:=[0,1,1,2,2,1,3,1,1,0]) (k:=k) (by show _<10; lia),_,rfl,a,xs,rfl,.inr ha,_,_,rfl,rfl,?_⟩
 rw [show ((([0,1,1,2,2,1,3,1,1,0]:List Nat).getD k 0:Nat):Int)=((many k:Nat):Int) from rfl]
 refine aa6 (many k - s1.length) (t2.mono (.of S3)) rfl (by lia) (by lia) (by lia) (fun z H' S tz=>?_)
 exact cH (hx2.mono (.of S)) tz (fV (by rw [List.length_replicate]; lia)) (fun z4 H4 S4 t4=>q _ _ (S13.trans (S.trans S4)) t4)
theorem VD (IV:mg "min"=none) (dZ:mg "len"=none)
  {bU:Addr}{bR:FuncData} (gQ:Fun K "_law_first" "_law_first" eZ bU bR) (gP:FnOk P w K mg base CX0 31 bU bR ["_law_tree_here"] (tX K)) (gM:Binds K bR ["_law_tree_here"] []) (gK:mg "_law_first"=some (.ref bU))
  (F:Fun K "_law_sort" "_law_sort" lq f fd):FnOk P w K mg base CX0 32 f fd ["_law_stand"] (ZC K):=by
 refine okQ F Vg (fun vs H Q E h=>?_) (fun cdv A outer s H vs Q E hr h=>?_)
 ·obtain⟨x,w',ws,tx,sk,rfl,_⟩:=h
  rfl
 obtain⟨x,w',ws,tx,sk,rfl,hx,q⟩:=h
 refine⟨_,(aB (aR (cX (Sx rfl) rfl IV adv (aj (cX call_len_seq rfl dZ pD (aj (aN gP hr rfl gK gQ.kp gM .nil pass0 (aj (cB cJ (cB cJ (cB cJ (qv 0) aD (fun _ _=>rfl)) aD (fun _ _=>rfl)) aD (fun _ _=>rfl)) ak)) ak)) (aj aD ak))))),?_⟩
 refine⟨_,rfl,iV hx 0 rfl (fun v1 t1=>iV t1 0 rfl (fun v2 t2=>iV t2 0 rfl (fun v3 t3=>⟨v3,w',rfl,t3,fun y H1 S1 t4=>?_⟩)))⟩
 obtain⟨b,ys,rfl,hb',rb⟩:=cF.mp (mj t4)
 refine⟨b,ys,rfl,.inr hb',_,_,rfl,?_⟩
 rw [rb.length,show (if (9:Int)<((ats w'.kids 0).kids.length:Int) then (9:Int) else ((ats w'.kids 0).kids.length:Int))=((aH w':Nat):Int) by rw [U9]; split <;> lia]
 exact q _ S1
theorem Tj
  {bU:Addr}{bR:FuncData} (gQ:Fun K "_law_first" "_law_first" eZ bU bR) (gP:FnOk P w K mg base CX0 31 bU bR ["_law_tree_here"] (tX K)) (gM:Binds K bR ["_law_tree_here"] []) (gK:mg "_law_first"=some (.ref bU))
  (F:Fun K "_law_stack" "_law_stack" jD f fd):FnOk P w K mg base CX0 32 f fd ["_law_sort_here","_law_load_here","_law_stack_here"] (UW K):=by
 refine okQ F SX (fun vs H Q E h=>?_) (fun cdv A outer s H vs Q E hr h=>?_)
 ·obtain⟨k,y,z,l,sk,rfl,_⟩:=h
  rfl
 obtain⟨k,y,z,l,sk,rfl,hy,hz,hk9,hl,hb,q⟩:=h
 refine⟨_,(au (bK (aV op_eq (qv 0) aD (nomark _)) (aB (aR (aW bh (aU (aj (qv 1) ak)) (qv 2)))) bD)
   (au (bK (aV op_eq (qv 0) aD (nomark _)) (aB (aR (cW eF (qv 2) (dI aD) eN))) bD)
   (au (bK (aV op_eq (qv 0) aD (nomark _)) (aB (aR (aW bh (cW eF (qv 2) eN (dI aD)) (qv 2)))) bD)
   (au (bK (aV op_eq (qv 0) aD (nomark _)) (aB (aR (aW bh (aU (aj (cB cJ (qv 2) aD (fun _ _=>rfl)) (aj (cB cJ (qv 2) aD (fun _ _=>rfl)) ak))) (cW eF (qv 2) (dI aD) eN)))) bD)
   (au (bK (aV op_eq (qv 0) aD (nomark _)) (aB (aR (aW bh (aU (aj (aW bh (aU (aj (cB cJ (qv 2) aD (fun _ _=>rfl)) ak)) (cB cJ (qv 2) aD (fun _ _=>rfl))) ak)) (cW eF (qv 2) (dI aD) eN)))) bD)
   (au (bK (aV op_eq (qv 0) aD (nomark _)) (aB (aR (aW bh (aU (aj (aN gP hr rfl gK gQ.kp gM .nil pass0 (aj (cB cJ (qv 2) aD (fun _ _=>rfl)) ak)) (aj (cW eF (cB cJ (qv 2) aD (fun _ _=>rfl)) (dI aD) eN) ak))) (cW eF (qv 2) (dI aD) eN)))) bD)
   (au (bK (aV op_eq (qv 0) aD (nomark _)) (aB (aR (aW bh (aU (aj (cB cJ (qv 2) aD (fun _ _=>rfl)) (aj (cB cJ (qv 2) aD (fun _ _=>rfl)) (aj (cB cJ (qv 2) aD (fun _ _=>rfl)) ak)))) (cW eF (qv 2) (dI aD) eN)))) bD)
   (aB (aR (qv 2)))))))))),?_⟩
 have hlen:=hb.len
 refine⟨_,rfl,rfl,_,rfl,ite2 (fun h=>?_) (fun n0=>?_)⟩
 ·obtain rfl:k=0:=by have:=V.int.inj (of_decide_eq_true h); lia
  refine⟨_,rfl,(by show 1≤sizeLine; decide),fun p1 g1=>?_⟩
  obtain⟨S1,t1⟩:=bN (K:=K) g1 (dO hy)
  exact⟨_,rfl,cH t1 (hz.mono (.of S1)) (fV (by show 1+_≤_; lia)) (fun v H2 S2 t2=>q _ _ (S1.trans S2) t2)⟩
 have n0:k≠0:=fun z=>n0 (by rw [z]; exact decide_eq_true rfl)
 refine⟨_,rfl,rfl,_,rfl,ite2 (fun h=>?_) (fun n1=>?_)⟩
 ·obtain rfl:k=1:=by have:=V.int.inj (of_decide_eq_true h); lia
  exact⟨_,rfl,1,rfl,lQ hz 1 (fun v H2 S2 t2=>q _ _ S2 t2)⟩
 have n1:k≠1:=fun z=>n1 (by rw [z]; exact decide_eq_true rfl)
 refine⟨_,rfl,rfl,_,rfl,ite2 (fun h=>?_) (fun n2=>?_)⟩
 ·obtain rfl:k=2:=by have:=V.int.inj (of_decide_eq_true h); lia
  have hl:1≤sk.length:=hl
  refine⟨_,rfl,1,rfl,nTo hz 1 (fun y1 H1 S1 t1=>⟨_,rfl,cH t1 (hz.mono (.of S1)) (fV (by rw [List.length_take]; lia)) (fun v H2 S2 t2=>q _ _ (S1.trans S2) ?_)⟩)⟩
  rw [aax hl] at t2
  exact t2
 have n2:k≠2:=fun z=>n2 (by rw [z]; exact decide_eq_true rfl)
 refine⟨_,rfl,rfl,_,rfl,ite2 (fun h=>?_) (fun n3=>?_)⟩
 ·obtain rfl:k=3:=by have:=V.int.inj (of_decide_eq_true h); lia
  have hl:2≤sk.length:=hl
  refine⟨_,rfl,iV hz 1 (jy (by lia)) (fun v1 t1=>⟨_,rfl,iV hz 0 (jy (by lia)) (fun v0 t0=>⟨(by show 2≤sizeLine; decide),fun p1 g1=>?_⟩)⟩)⟩
  obtain⟨S1,t2⟩:=bN (K:=K) g1 (pZ t1 t0)
  refine⟨_,rfl,2,rfl,lQ (hz.mono (.of S1)) 2 (fun v4 H4 S4 t4=>cH (t2.mono (.of S4)) t4 (fV (by rw [List.length_drop]; show 2+_≤_; lia)) (fun v H2 S2 t5=>q _ _ (S1.trans (S4.trans S2)) ?_))⟩
  exact t5
 have n3:k≠3:=fun z=>n3 (by rw [z]; exact decide_eq_true rfl)
 refine⟨_,rfl,rfl,_,rfl,ite2 (fun h=>?_) (fun n4=>?_)⟩
 ·obtain rfl:k=4:=by have:=V.int.inj (of_decide_eq_true h); lia
  have hl:2≤sk.length:=hl
  have hk1:=(vN (jo hb 1)).len
  refine⟨_,rfl,iV hz 0 (jy (by lia)) (fun v0 t0=>⟨(by show 1≤sizeLine; decide),fun p1 g1=>?_⟩)⟩
  obtain⟨S1,t1⟩:=bN (K:=K) g1 (dO t0)
  refine⟨_,rfl,iV (hz.mono (.of S1)) 1 (jy (by lia)) (fun v1 t2=>cH t1 (mj t2) (fV (by show 1+_≤_; lia)) (fun v3 H3 S3 t3=>⟨(by show 1≤sizeLine; decide),fun p4 g4=>?_⟩))⟩
  obtain⟨S4,t4⟩:=bN (K:=K) g4 (dO t3)
  exact⟨_,rfl,2,rfl,lQ (hz.mono (.of (S1.trans (S3.trans S4)))) 2 (fun v5 H5 S5 t5=>cH (t4.mono (.of S5)) t5 (fV (by rw [List.length_drop]; show 1+_≤_; lia)) (fun v H2 S2 t6=>q _ _ (S1.trans (S3.trans (S4.trans (S5.trans S2)))) t6))⟩
 have n4:k≠4:=fun z=>n4 (by rw [z]; exact decide_eq_true rfl)
 refine⟨_,rfl,rfl,_,rfl,ite2 (fun h=>?_) (fun n5=>?_)⟩
 ·obtain rfl:k=5:=by have:=V.int.inj (of_decide_eq_true h); lia
  have hl:1≤sk.length:=hl
  have bt:=jo hb 0
  refine⟨_,rfl,iV hz 0 (jy (by lia)) (fun v0 t0=>⟨v0,ats sk 0,rfl,t0,fun y1 H1 S1 t1=>?_⟩)⟩
  refine⟨_,rfl,iV (hz.mono (.of S1)) 0 (jy (by lia)) (fun v2 t2=>⟨1,rfl,lQ (mj t2) 1 (fun y3 H3 S3 t3=>⟨(by show 2≤sizeLine; decide),fun p4 g4=>?_⟩)⟩)⟩
  obtain⟨S4,t4⟩:=bN (K:=K) g4 (pZ (t1.mono (.of S3)) t3)
  exact⟨_,rfl,1,rfl,lQ (hz.mono (.of (S1.trans (S3.trans S4)))) 1 (fun v5 H5 S5 t5=>cH (t4.mono (.of S5)) t5 (fV (by rw [List.length_drop]; show 2+_≤_; lia)) (fun v H2 S2 t6=>q _ _ (S1.trans (S3.trans (S4.trans (S5.trans S2)))) t6))⟩
 have n5:k≠5:=fun z=>n5 (by rw [z]; exact decide_eq_true rfl)
 refine⟨_,rfl,rfl,_,rfl,ite2 (fun h=>?_) (fun n6=>?_)⟩
 ·obtain rfl:k=6:=by have:=V.int.inj (of_decide_eq_true h); lia
  have hl:3≤sk.length:=hl
  refine⟨_,rfl,iV hz 2 (jy (by lia)) (fun v2 t2=>⟨_,rfl,iV hz 0 (jy (by lia)) (fun v0 t0=>⟨_,rfl,iV hz 1 (jy (by lia)) (fun v1 t1=>⟨(by show 3≤sizeLine; decide),fun p1 g1=>?_⟩)⟩)⟩)⟩
  obtain⟨S1,t3⟩:=bN (K:=K) g1 (aks t2 t0 t1)
  exact⟨_,rfl,3,rfl,lQ (hz.mono (.of S1)) 3 (fun v4 H4 S4 t4=>cH (t3.mono (.of S4)) t4 (fV (by rw [List.length_drop]; show 3+_≤_; lia)) (fun v H2 S2 t5=>q _ _ (S1.trans (S4.trans S2)) t5))⟩
 have n6:k≠6:=fun z=>n6 (by rw [z]; exact decide_eq_true rfl)
 rw [Bt (show 7≤k by lia)] at q
 exact⟨_,rfl,q _ _ (Same.refl _) hz⟩
theorem Qw
  {Bk:Addr}{Ay:FuncData} (Zg:Fun K "_law_sort" "_law_sort" lq Bk Ay) (Y_:FnOk P w K mg base CX0 33 Bk Ay ["_law_stand"] (ZC K)) (YX:Binds K Ay ["_law_stand"] []) (YF:mg "_law_sort"=some (.ref Bk))
  {Bh:Addr}{Aw:FuncData} (Zf:Fun K "_law_wide" "_law_wide" lg Bh Aw) (Y9:FnOk P w K mg base CX0 33 Bh Aw ["_law_stack_here","_law_sort_here"] (Zv K)) (YW:Binds K Aw ["_law_stack_here","_law_sort_here"] []) (YD:mg "_law_wide"=some (.ref Bh))
  {bU:Addr}{bR:FuncData} (gQ:Fun K "_law_first" "_law_first" eZ bU bR) (gP:FnOk P w K mg base CX0 33 bU bR ["_law_tree_here"] (tX K)) (gM:Binds K bR ["_law_tree_here"] []) (gK:mg "_law_first"=some (.ref bU))
  {zj:Addr}{yN:FuncData} (Yi:Fun K "_law_stack" "_law_stack" jD zj yN) (X_:FnOk P w K mg base CX0 33 zj yN ["_law_sort_here","_law_load_here","_law_stack_here"] (UW K)) (Xu:Binds K yN ["_law_sort_here","_law_load_here","_law_stack_here"] []) (V8:mg "_law_stack"=some (.ref zj))
  (F:Fun K "_law_behind" "_law_behind" h_ f fd):FnOk P w K mg base CX0 34 f fd ["_law_stand"] (R0 K):=by
 refine okQ F iz (fun vs H Q E h=>?_) (fun cdv A outer s H vs Q E hr h=>?_)
 ·obtain⟨x,tx,sk,rfl,_⟩:=h
  rfl
 obtain⟨x,tx,sk,rfl,hx,hne,bx,bs,q⟩:=h
 have hE:=hr.un
 have hE:(A.deeper (envOfC "_law_behind" (defScope h_) s.heap.objs.size f cdv)).units+401<cLine:=by lia
 refine⟨_,(au (Vq (qv 0) (Vr rfl (uf (jU (i:=1) iz.nd rfl (Or.inl rfl)) (uf (jU (i:=2) iz.nd rfl (Or.inl rfl)) Qe))))
   (au (bK (aV (BJ hE) (cB cJ (qv 1) aD (fun _ _=>rfl)) (aU ak) (nomark _)) (aB (aR (aU (aj (cW eF (qv 1) (dI aD) eN) (aj (qv 2) ak))))) bD)
   (au (bA (i:=3) iz.nd rfl (Or.inl rfl) (aN Y_ hr rfl YF Zg.kp YX .nil pass0 (aj (qv 0) ak)))
   (au (bA (i:=4) iz.nd rfl (Or.inl rfl) (cW eF (cB cJ (cB cJ (qv 1) aD (fun _ _=>rfl)) aD (fun _ _=>rfl)) (dI aD) eN))
   (au (bA (i:=2) iz.nd rfl (Or.inl rfl) (aN Y9 hr rfl YD Zf.kp YW .nil pass0 (aj (qv 2) (aj (qv 3) ak))))
   (au (bA (i:=5) iz.nd rfl (Or.inl rfl) (aW bh (aU (aj (cW eF (cB cJ (qv 1) aD (fun _ _=>rfl)) (dI aD) eN) ak)) (cW eF (qv 1) (dI aD) eN)))
   (au (bK (QW.pt (sG (aV op_eq (qv 3) aD (nomark _)) (pO (aV (wV hE) (cB cJ (qv 2) aD (fun _ _=>rfl)) (aU ak) (nomark _))))) (aB (aR (aU (aj (aW bh (aU (aj (aN gP hr rfl gK gQ.kp gM .nil pass0 (aj (qv 4) ak)) ak)) (qv 5)) (aj (qv 2) ak))))) bD)
   (au (bK (aV op_eq (qv 3) aD (nomark _)) (aB (aR (aU (aj (aW bh (aU (aj (cW eF (qv 4) (dI aD) eN) ak)) (qv 5)) (aj (qv 2) ak))))) bD)
   (au (bK (QW.pt (sG (aV op_eq (qv 3) aD (nomark _)) (pO (aV (wV hE) (cB cJ (qv 2) aD (fun _ _=>rfl)) (aU ak) (nomark _))))) (aB (aR (aU (aj (aW bh (aU (aj (qv 4) ak)) (qv 1)) (aj (qv 2) ak))))) bD)
   (aB (aR (aU (aj (qv 5) (aj (aN X_ hr rfl V8 Yi.kp Xu .nil pass0 (aj (qv 3) (aj (qv 4) (aj (qv 2) ak)))) ak)))))))))))))),?_⟩
 obtain⟨ax,x1,x2,rfl,ha,t1,t2⟩:=ajt hx
 have hsl:=bs.len
 have hxl:=bx.1
 have b0:=bx.ats
 have hpos:0<tx.length:=List.length_pos_iff.mpr hne
 refine⟨_,rfl,ax,[x1,x2],rfl,ha,rfl,_,_,rfl,_,_,rfl,rfl,?_⟩
 refine⟨_,rfl,iV t1 0 (jy hpos) (fun v0 t0=>⟨Nat.zero_le _,fun p1 g1=>⟨ats tx 0,leaf,t0.mono (.new g1),jx upd_same,by have:=b0.1; lia,_,rfl,ite2 (fun hb=>?_) (fun hb=>?_)⟩⟩)⟩
 ·have e:=(T.beq_iff _ _).mp hb
  rw [agr (by rw [e]; rfl)] at q
  refine⟨_,rfl,1,rfl,lQ (t1.mono (.new g1)) 1 (fun z H3 S3 t4=>⟨_,rfl,(by show 2≤sizeLine; decide),fun p5 g5=>?_⟩)⟩
  obtain⟨S5,t5⟩:=bN (K:=K) g5 (pZ t4 (t2.mono (.of ((same_new g1 _).trans S3))))
  exact q _ _ ((same_new g1 _).trans (S3.trans S5)) t5
 have S1:=same_new g1 (.tup [])
 cases tx with
 | nil=>exact absurd rfl hne
 | cons tq ts =>
 cases tq with
 | node us0 =>
 cases us0 with
 | nil=>exact absurd (T.rE _) hb
 | cons w' ws =>
 have bw:B 390 8000000 w':=ab3 (vN b0) List.mem_cons_self
 refine⟨_,rfl,_,w',ws,ts,sk,rfl,hx.mono (.of S1),fun H2 S2=>?_⟩
 have S12:=S1.trans S2
 refine⟨_,rfl,iV (t1.mono (.of S12)) 0 rfl (fun v3 t3=>iV t3 0 rfl (fun v4 t4=>⟨1,rfl,lQ (mj t4) 1 (fun v5 H5 S5 t5=>?_)⟩))⟩
 have S15:=S12.trans S5
 have hs9:=tY w'
 refine⟨_,rfl,_,rfl,x2,sk,aH w',rfl,t2.mono (.of S15),by lia,hs9,fun v6 H6 S6 t6=>?_⟩
 have S16:=S15.trans S6
 refine⟨_,rfl,iV (t1.mono (.of S16)) 0 rfl (fun v7 t7=>⟨1,rfl,lQ (mj t7) 1 (fun v8 H8 S8 t8=>⟨(by show 1≤sizeLine; decide),fun p9 g9=>?_⟩)⟩)⟩
 obtain⟨S9,t9⟩:=bN (K:=K) g9 (dO t8)
 have S19:=S16.trans (S8.trans S9)
 have aqv:ts.length+1≤8000000:=hxl
 refine⟨_,rfl,1,rfl,lQ (t1.mono (.of S19)) 1 (fun v10 H10 S10 t10=>cH (t9.mono (.of S10)) t10 (fV (by show 1+ts.length≤_; lia)) (fun v11 H11 S11 t11=>?_))⟩
 have afr:=S8.trans (S9.trans (S10.trans S11))
 have XS:=S16.trans afr
 have t5':=t5.mono (.of (S6.trans afr))
 have t6':=t6.mono (.of afr)
 have t11:TR K H11 (.node (.node ws::ts)) v11:=t11
 have ow:=fJ (w:=w') (ws:=ws) (ts:=ts) (s:=sk)
 have bpd:=Jg (many (aH w')) ((by decide:∀ k,k≤9→many k≤3) _ hs9) (by lia) bs
 have wb:=ad3 w' sk
 dsimp only [gName]
 refine abl (aH w'=7∧(ats sk 0).kids≠[]) (fun H12 aft c1=>?_) (fun N hN=>?_)
 rotate_left
 ·refine⟨_,rfl,rfl,_,rfl,ite2 (fun h7=>?_) (fun h7=>?_)⟩
  rotate_left
  ·exact iteF (hN _ (Same.refl _) (fun z=>h7 (by rw [z.1]; exact decide_eq_true rfl)))
  have h7:aH w'=7:=by have:=V.int.inj (of_decide_eq_true h7); lia
  have e0:many (aH w')=1:=by rw [h7]; rfl
  rw [e0] at t6' bpd
  refine⟨_,rfl,iV t6' 0 (jy (Bx _ _)) (fun v12 t12=>⟨Nat.zero_le _,fun p13 g13=>⟨_,leaf,t12.mono (.new g13),jx upd_same,by have:=(jo bpd 0).1; lia,_,rfl,?_⟩⟩)⟩
  rw [Xw,yE]
  by_cases ht:(ats sk 0).kids=[]
  ·rw [decide_eq_true ht]
   exact iteF (hN _ (same_new g13 _) (fun z=>z.2 ht))
  rw [decide_eq_false ht]
  refine iteT ?_
  have S13:=same_new g13 (.tup [])
  refine⟨_,rfl,v5,bf w',rfl,t5'.mono (.of S13),fun v14 H14 S14 t14=>⟨(by show 1≤sizeLine; decide),fun p15 g15=>?_⟩⟩
  obtain⟨HN,t15⟩:=bN (K:=K) g15 (dO t14)
  have tU:=S13.trans (S14.trans HN)
  refine⟨_,rfl,cH t15 (t11.mono (.of tU)) (fV (by show 1+(ts.length+1)≤_; lia)) (fun v16 H16 HJ t16=>⟨_,rfl,(by show 2≤sizeLine; decide),fun p17 g17=>?_⟩)⟩
  obtain⟨S17,t17⟩:=bN (K:=K) g17 (pZ t16 (t6'.mono (.of (tU.trans HJ))))
  refine q _ _ (XS.trans (tU.trans (HJ.trans S17))) ?_
  rw [ow,if_pos h7,if_pos ht,jM (by lia),e0]
  exact t17
 refine abl (aH w'=7) (fun H13 S13 c2=>?_) (fun N hN=>?_)
 rotate_left
 ·refine⟨_,rfl,rfl,_,rfl,ite2 (fun h7=>?_) (fun h7=>?_)⟩
  rotate_left
  ·exact hN _ (Same.refl _) (fun z=>h7 (by rw [z]; exact decide_eq_true rfl))
  have h7:aH w'=7:=by have:=V.int.inj (of_decide_eq_true h7); lia
  have e0:many (aH w')=1:=by rw [h7]; rfl
  have ht:¬ (ats sk 0).kids≠[]:=fun z=>c1 ⟨h7,z⟩
  refine⟨_,rfl,1,rfl,lQ (t5'.mono (.of aft)) 1 (fun v14 H14 S14 t14=>⟨(by show 1≤sizeLine; decide),fun p15 g15=>?_⟩)⟩
  obtain⟨HN,t15⟩:=bN (K:=K) g15 (dO t14)
  have tU:=aft.trans (S14.trans HN)
  refine⟨_,rfl,cH t15 (t11.mono (.of tU)) (fV (by show 1+(ts.length+1)≤_; lia)) (fun v16 H16 HJ t16=>⟨_,rfl,(by show 2≤sizeLine; decide),fun p17 g17=>?_⟩)⟩
  obtain⟨S17,t17⟩:=bN (K:=K) g17 (pZ t16 (t6'.mono (.of (tU.trans HJ))))
  refine q _ _ (XS.trans (tU.trans (HJ.trans S17))) ?_
  rw [ow,if_pos h7,if_neg ht,jM (by lia)]
  rw [List.drop_drop] at t17
  exact t17
 have afu:=aft.trans S13
 refine abl (aH w'=8∧(ats sk 0).kids≠[]) (fun H14 S14 c3=>?_) (fun N hN=>?_)
 rotate_left
 ·refine⟨_,rfl,rfl,_,rfl,ite2 (fun h7=>?_) (fun h7=>?_)⟩
  rotate_left
  ·exact iteF (hN _ (Same.refl _) (fun z=>h7 (by rw [z.1]; exact decide_eq_true rfl)))
  have h8:aH w'=8:=by have:=V.int.inj (of_decide_eq_true h7); lia
  have e0:many (aH w')=1:=by rw [h8]; rfl
  rw [e0] at t6' bpd
  refine⟨_,rfl,iV (t6'.mono (.of afu)) 0 (jy (Bx _ _)) (fun v12 t12=>⟨Nat.zero_le _,fun p13 g13=>⟨_,leaf,t12.mono (.new g13),jx upd_same,by have:=(jo bpd 0).1; lia,_,rfl,?_⟩⟩)⟩
  rw [Xw,yE]
  by_cases ht:(ats sk 0).kids=[]
  ·rw [decide_eq_true ht]
   exact iteF (hN _ (same_new g13 _) (fun z=>z.2 ht))
  rw [decide_eq_false ht]
  refine iteT ?_
  have S14:=afu.trans (same_new g13 (.tup []))
  refine⟨_,rfl,(by show 1≤sizeLine; decide),fun p15 g15=>?_⟩
  obtain⟨HN,t15⟩:=bN (K:=K) g15 (dO (t5'.mono (.of S14)))
  have tU:=S14.trans HN
  refine⟨_,rfl,cH t15 (t1.mono (.of (XS.trans tU))) (fV (by show 1+(ts.length+1)≤_; lia)) (fun v16 H16 HJ t16=>⟨_,rfl,(by show 2≤sizeLine; decide),fun p17 g17=>?_⟩)⟩
  obtain⟨S17,t17⟩:=bN (K:=K) g17 (pZ t16 (t6'.mono (.of (tU.trans HJ))))
  refine q _ _ (XS.trans (tU.trans (HJ.trans S17))) ?_
  rw [ow,if_neg (by lia),if_pos h8,if_pos ht,jM (by lia),e0]
  exact t17
 have abQ:=afu.trans S14
 refine⟨_,rfl,_,rfl,_,rfl,_,rfl,aH w',v5,v6,bf w',_,rfl,t5'.mono (.of abQ),t6'.mono (.of abQ),hs9,Bx _ _,bpd.le (by lia) (by lia),fun v15 H15 HN t15=>⟨(by show 2≤sizeLine; decide),fun p17 g17=>?_⟩⟩
 obtain⟨S17,t17⟩:=bN (K:=K) g17 (pZ (t11.mono (.of (abQ.trans HN))) t15)
 refine q _ _ (XS.trans (abQ.trans (HN.trans S17))) ?_
 rw [wb] at t17
 rw [ow,if_neg c2]
 by_cases h8:aH w'=8
 ·rw [if_pos h8,if_neg (fun z=>c3 ⟨h8,z⟩)]
  exact t17
 ·rw [if_neg h8]
  split <;> exact t17
theorem Tp (cO:mg "range"=none)
  {jN:Addr}{jH:FuncData} (zB:Fun K "selfrunner" "selfrunner" iM jN jH) (zx:FnOk P w K mg base CX0 44 jN jH [] (mL K dW)) (yX:Binds K jH [] []) (yx:mg "selfrunner"=some (.ref jN))
  (F:Fun K "_law_built" "_law_built" jE f fd):FnOk P w K mg base CX0 45 f fd ["_law_height","_law_text_here"] (Bv K):=by
 refine okQ F qK (fun vs H Q E h=>?_) (fun cdv A outer s H vs Q E hr h=>?_)
 ·obtain⟨h,x,t,rfl,_⟩:=h
  rfl
 obtain⟨h,x,t,rfl,hh,ht,hb,q⟩:=h
 refine⟨_,(au (bA (i:=2) qK.nd rfl (Or.inl rfl) (oV zx hr rfl yx zB.kp yX .nil pass0))
   (au (yg PassesOwn.never rfl (mH rfl cO (aj (qv 0) ak)) (jU (i:=3) qK.nd rfl (Or.inl rfl)) (aB (bA (i:=1) qK.nd rfl (Or.inl rfl) (aW bh (aU (aj (aW bh (aU (aj (aU ak) ak)) (qv 1)) (aj (aU (aj (aW mV (aU (aj (aU ak) ak)) aD) ak)) ak))) (qv 2)))))
   (aB (aR (qv 1))))),?_⟩
 refine jm (fun v=>[some (.int (h:Int)),some x,some v,none]) (fun _=>rfl) (fun v H'=>Same H H'∧TR K H' (.node dW) v) (fun R r=>⟨rfl,fun y3 H3 S3 t3=>r _ _ ⟨S3,t3⟩⟩) (fun v2 H2 h2=>?_)
 obtain⟨S2,t2⟩:=h2
 refine⟨_,rfl,(h:Int),rfl,by lia,by lia,?_⟩
 refine vD (n:=h) (fun i σ' H'=>∃ (v:V) (o3:Option V),σ'=[some (.int (h:Int)),some v,some v2,o3]∧Same H2 H'∧TR K H' (cQ i t) v) ?_ ?_ ?_
 ·exact⟨x,_,rfl,Same.refl _,ht.mono (.of S2)⟩
 ·rintro i σ' H' hi ⟨v,o3,rfl,S,tv⟩
  have bi:=ab2 (n:=i) hb (by lia)
  rw [← fO (cQ i t)] at tv bi
  have hl:=bi.len
  dsimp only [gName]
  refine⟨Nat.zero_le _,fun p1 g1=>⟨(by show 1≤sizeLine; decide),fun p2 g2=>?_⟩⟩
  obtain⟨S1,t1⟩:=bN (K:=K) (ts:=[]) g1 (bJ.mpr rfl)
  obtain⟨S2',t2'⟩:=bN (K:=K) g2 (dO t1)
  refine⟨_,rfl,cH t2' (tv.mono (.of (S1.trans S2'))) (small (by show 1+(cQ i t).kids.length≤_; lia)) (fun y3 H3 S3 t3=>⟨Nat.zero_le _,fun p4 g4=>⟨(by show 1≤sizeLine; decide),fun p5 g5=>?_⟩⟩)⟩
  obtain⟨S4,t4⟩:=bN (K:=K) (ts:=[]) g4 (bJ.mpr rfl)
  obtain⟨S5,t5⟩:=bN (K:=K) g5 (dO t4)
  refine aa5 (k:=4) 4 t5 rfl rfl (by decide) (by decide) (fun y6 H6 S6 t6=>⟨(by show 1≤sizeLine; decide),fun p7 g7=>⟨(by show 2≤sizeLine; decide),fun p8 g8=>?_⟩⟩)
  obtain⟨S7,t7⟩:=bN (K:=K) g7 (dO t6)
  have S47:=S4.trans (S5.trans (S6.trans S7))
  obtain⟨S8,t8⟩:=bN (K:=K) g8 (pZ (t3.mono (.of S47)) t7)
  have Sa:=S1.trans (S2'.trans (S3.trans (S47.trans S8)))
  refine⟨_,rfl,cH t8 (t2.mono (.of (S.trans Sa))) (small (by show 2+dW.length≤_; decide)) (fun y9 H9 S9 t9=>?_)⟩
  exact⟨y9,_,rfl,S.trans (Sa.trans S9),t9⟩
 ·rintro σ' H' ⟨v,o3,rfl,S,tv⟩
  exact⟨_,rfl,q _ _ (S2.trans S) tv⟩
theorem Qv (cO:mg "range"=none)
  {rJ:Addr}{rA:FuncData} (Nf:Fun K "turned" "turned" mO rJ rA) (M9:FnOk P w K mg base CX0 33 rJ rA ["tally"] (J5 K)) (Mw:Binds K rA ["tally"] []) (K9:mg "turned"=some (.ref rJ))
  (F:Fun K "_law_raised" "_law_raised" jf f fd):FnOk P w K mg base CX0 34 f fd ["_law_height","_law_tally"] (xO K):=by
 refine okQ F pK (fun vs H Q E h=>?_) (fun cdv A outer s H vs Q E hr h=>?_)
 ·obtain⟨h,a,ns,rfl,_⟩:=h
  rfl
 obtain⟨h,a,ns,rfl,hh,ha,hn,q⟩:=h
 refine⟨_,(au (yg PassesOwn.never rfl (mH rfl cO (aj (qv 0) ak)) (jU (i:=2) pK.nd rfl (Or.inl rfl)) (au (bA (i:=3) pK.nd rfl (Or.inl rfl) (aN M9 hr rfl K9 Nf.kp Mw .nil pass0 (aj (qv 1) ak)))
   (aB (bA (i:=1) pK.nd rfl (Or.inl rfl) (aW bh (aW bh (aW bh (aU (aj (aW op_add (cB cJ (qv 3) aD (fun _ _=>rfl)) aD) ak)) (cW eF (qv 3) (dI aD) (dI aD))) (aU (aj (aW op_add (cB cJ (qv 3) aD (fun _ _=>rfl)) aD) ak))) (cW eF (qv 3) (dI aD) eN))))))
   (aB (aR (qv 1)))),?_⟩
 refine⟨_,rfl,(h:Int),rfl,by lia,by lia,?_⟩
 refine vD (n:=h) (fun i σ' H'=>∃ (p:Addr) (o2 o3:Option V),σ'=[some (.int (h:Int)),some (.ref p),o2,o3]∧Same H H'∧SqT K H' p ((upN i ns).map nv)) ?_ ?_ ?_
 ·exact⟨a,_,_,rfl,Same.refl _,ha⟩
 ·rintro i σ' H' hi ⟨p,o2,o3,rfl,S,hp⟩
  dsimp only [gName]
  refine jm (fun v=>[some (.int (h:Int)),some (.ref p),some (.int (0+(i:Int))),some v]) (fun _=>rfl) (fun v H2=>∃ m,v=.ref m∧Same H' H2∧SqT K H2 m ((turnT (upN i ns)).map nv)) (fun R r=>⟨_,rfl,p,upN i ns,rfl,hp,OJ hn i,fun p3 H3 S3 h3=>r _ _ ⟨p3,rfl,S3,h3⟩⟩) (fun v3 H3 h3=>?_)
  obtain⟨m,rfl,S3,hm⟩:=h3
  have lt:=Cr (upN i ns)
  have hup:upN (i+1) ns=fC O_ (turnT (upN i ns)):=rfl
  generalize turnT (upN i ns)=ms at hm lt hup
  refine⟨_,rfl,m,_,_,_,rfl,rfl,hm,Uk (k:=0) (by lia),_,_,rfl,rfl,(by show 1≤sizeLine; decide),fun p1 g1=>?_⟩
  have S4:=same_new g1 (.tup [.int (((ms.getD 0 0:Nat):Int)+1)])
  refine⟨_,rfl,1,rfl,4,rfl,m,_,rfl,bW (.of S4) hm,fun p2 H5 S5 h5=>⟨p1,p2,_,_,rfl,rfl,SqT.of (S5 _ _ upd_same),h5,small (by have:=nJ (ms.map nv) (some 1) (some 4); rw [List.length_map] at this; show 1+_≤_; lia),fun p3 H6 S6 h6=>?_⟩⟩
  have S36:=S4.trans (S5.trans S6)
  refine⟨_,rfl,m,_,_,_,rfl,rfl,bW (.of S36) hm,Uk (k:=4) (by lia),_,_,rfl,rfl,(by show 1≤sizeLine; decide),fun p4 g4=>?_⟩
  have S7:=same_new g4 (.tup [.int (((ms.getD 4 0:Nat):Int)+1)])
  refine⟨p3,p4,_,_,rfl,rfl,bW (.of S7) h6,SqT.of upd_same,small (by have:=nJ (ms.map nv) (some 1) (some 4); rw [List.length_map] at this; rw [List.length_append]; show 1+_+1≤_; lia),fun p5 H8 S8 h8=>?_⟩
  have S38:=S36.trans (S7.trans S8)
  refine⟨_,rfl,5,rfl,m,_,rfl,bW (.of S38) hm,fun p6 H9 S9 h9=>⟨p5,p6,_,_,rfl,rfl,bW (.of S9) h8,h9,small (by have:=nJ (ms.map nv) (some 1) (some 4); have:=nJ (ms.map nv) (some 5) none; rw [List.length_map] at *; rw [List.length_append,List.length_append]; show 1+_+1+_≤_; lia),fun p7 H10 S10 h10=>⟨p7,_,_,rfl,S.trans (S3.trans (S38.trans (S9.trans S10))),?_⟩⟩⟩
  rw [hup]
  match ms,lt with
  | [a0,a1,a2,a3,a4,a5,a6,a7,a8,a9,a10,a11,a12,a13,a14],_ =>
   have e:[V.int ((a0:Int)+1)]++[nv a1,nv a2,nv a3]++[V.int ((a4:Int)+1)]++[nv a5,nv a6,nv a7,nv a8,nv a9,nv a10,nv a11,nv a12,nv a13,nv a14]=(fC O_ [a0,a1,a2,a3,a4,a5,a6,a7,a8,a9,a10,a11,a12,a13,a14]).map nv:=by
    show [V.int ((a0:Int)+1),nv a1,nv a2,nv a3,V.int ((a4:Int)+1),nv a5,nv a6,nv a7,nv a8,nv a9,nv a10,nv a11,nv a12,nv a13,nv a14]=[nv (1+a0),nv (0+a1),nv (0+a2),nv (0+a3),nv (1+a4),nv (0+a5),nv (0+a6),nv (0+a7),nv (0+a8),nv (0+a9),nv (0+a10),nv (0+a11),nv (0+a12),nv (0+a13),nv (0+a14)]
    rw [Nat.zero_add,Nat.zero_add,Nat.zero_add,Nat.zero_add,Nat.zero_add,Nat.zero_add,Nat.zero_add,Nat.zero_add,Nat.zero_add,Nat.zero_add,Nat.zero_add,Nat.zero_add,Nat.zero_add,show nv (1+a0)=V.int ((a0:Int)+1) from congrArg V.int (by lia),show nv (1+a4)=V.int ((a4:Int)+1) from congrArg V.int (by lia)]
   rw [← e]
   exact h10
 ·rintro σ' H' ⟨p,o2,o3,rfl,S,hp⟩
  exact⟨_,rfl,q _ _ S hp⟩
theorem Jp
  {jj:Addr}{jh:FuncData} (qP:Fun K "tower_tally" "tower_tally" g_ jj jh) (qO:FnOk P w K mg base CX0 49 jj jh ["height","tally"] (xO K)) (qN:Binds K jh ["height","tally"] []) (qL:mg "tower_tally"=some (.ref jj))
  {XJ:Addr}{Xf:FuncData} (ad0:Fun K "cost" "cost" xW XJ Xf) (adR:FnOk P w K mg base CX0 49 XJ Xf ["tally"] (acz K)) (adE:Binds K Xf ["tally"] []) (ada:mg "cost"=some (.ref XJ))
  {XH:Addr}{Xe:FuncData} (ajD:Fun K "gone" "gone" xV XH Xe) (ajz:FnOk P w K mg base CX0 49 XH Xe ["stand","budget"] (acw K)) (ajr:Binds K Xe ["stand","budget"] []) (aib:mg "gone"=some (.ref XH))
  {uL:Addr}{uD:FuncData} (Je:Fun K "tower" "tower" rP uL uD) (Jd:FnOk P w K mg base CX0 49 uL uD ["height","text"] (Bv K)) (Jb:Binds K uD ["height","text"] []) (IK:mg "tower"=some (.ref uL))
  {bU:Addr}{bR:FuncData} (gQ:Fun K "_law_first" "_law_first" eZ bU bR) (gP:FnOk P w K mg base CX0 49 bU bR ["_law_tree_here"] (tX K)) (gM:Binds K bR ["_law_tree_here"] []) (gK:mg "_law_first"=some (.ref bU))
  (F:Fun K "_law_run_alike" "_law_run_alike" eY f fd):FnOk P w K mg base CX0 50 f fd ["_law_height","_law_text_here","_law_tree_here","_law_tally","_law_due"] (ZM K):=by
 refine okQ F lE (fun vs H Q E h=>?_) (fun cdv A outer s H vs Q E hr h=>?_)
 ·obtain⟨h,xt,xx,xd,a,t,x,d,ns,se,rfl,_⟩:=h
  rfl
 obtain⟨h,xt,xx,xd,a,t,x,d,ns,se,rfl,hh,tt,tx,td,bt,ha,hn,hdd,sn,hw,aix,q⟩:=h
 have hE:=hr.un
 have hE:(A.deeper (envOfC "_law_run_alike" (defScope eY) s.heap.objs.size f cdv)).units+401<cLine:=by lia
 refine⟨_,(au (bA (i:=5) lE.nd rfl (Or.inl rfl) (aN qO hr rfl qL qP.kp qN .nil pass0 (aj (qv 0) (aj (qv 3) ak))))
   (au (bK (aV Im (aN adR hr rfl ada ad0.kp adE .nil pass0 (aj (qv 5) ak)) aD (nomark _)) (aB (aR zN)) bD)
   (au (Vq (aN ajz hr rfl aib ajD.kp ajr .nil pass0 (aj (aU (aj (aU (aj (aN Jd hr rfl IK Je.kp Jb .nil pass0 (aj (qv 0) (aj (qv 1) ak))) ak)) (aj (aU (aj (qv 2) ak)) ak))) (aj (aN adR hr rfl ada ad0.kp adE .nil pass0 (aj (qv 5) ak)) ak))) (Vr rfl (uf (jU (i:=6) lE.nd rfl (Or.inl rfl)) (uf (jU (i:=7) lE.nd rfl (Or.inl rfl)) Qe))))
   (aB (aR (acK (Ii (agp hE) (qv 7) (qv 5) (nomark _)) (acK (Ii (BJ hE) (cB cJ (qv 6) aD (fun _ _=>rfl)) (aU ak) (nomark _)) (ahA (Ii (BJ hE) (aN gP hr rfl gK gQ.kp gM .nil pass0 (aj (cB cJ (qv 6) aD (fun _ _=>rfl)) ak)) (qv 4) (nomark _)))))))))),?_⟩
 refine jm (fun v=>[some (.int (h:Int)),some xt,some xx,some (.ref a),some xd,some v,none,none]) (fun _=>rfl) (fun v H'=>∃ q5,v=.ref q5∧Same H H'∧SqT K H' q5 ((upN h ns).map nv)) (fun R r=>⟨_,rfl,_,rfl,h,a,ns,rfl,by lia,ha,hn,fun q5 H5 S5 h5=>r _ _ ⟨q5,rfl,S5,h5⟩⟩) (fun v5 H5 h5=>?_)
 obtain⟨q5,rfl,S5,h5⟩:=h5
 have lup:=OJ hn h
 refine⟨_,rfl,q5,upN h ns,rfl,h5,lup,fun H6 S6=>⟨_,_,rfl,rfl,_,rfl,ite2 (fun _=>q _ (S5.trans S6)) (fun _=>?_)⟩⟩
 dsimp only [tNext]
 have S56:=S5.trans S6
 refine⟨_,rfl,_,rfl,h,xt,t,rfl,by lia,tt.mono (.of S56),bt,fun y7 H7 S7 t7=>⟨(by show 1≤sizeLine; decide),fun p8 g8=>⟨_,rfl,(by show 1≤sizeLine; decide),fun p9 g9=>⟨(by show 2≤sizeLine; decide),fun p10 g10=>?_⟩⟩⟩⟩
 obtain⟨S8,t8⟩:=bN (K:=K) g8 (dO t7)
 obtain⟨S9,t9⟩:=bN (K:=K) g9 (dO (tx.mono (.of (S56.trans (S7.trans S8)))))
 obtain⟨S10,t10⟩:=bN (K:=K) g10 (pZ (t8.mono (.of S9)) t9)
 have ajv:=S6.trans (S7.trans (S8.trans (S9.trans S10)))
 refine⟨_,rfl,q5,upN h ns,rfl,bW (.of ajv) h5,lup,fun H11 S11=>?_⟩
 obtain⟨hgo,hsp⟩:=afS lup hw rfl (Nat.le_refl _)
 have hgo:goT (bC nU 0 (upN h ns)) [cQ h t] [x]=([],se,upN h ns):=hgo
 refine⟨_,[cQ h t],[x],bC nU 0 (upN h ns),(by rw [ado lup]; rfl),t10.mono (.of S11),sn _,fun q12 y12 c12 H12 S12 h1 h2 h3=>?_⟩
 rw [hgo] at h2 h3
 have bs:=(Sane.last _ _ _ (sn (bC nU 0 (upN h ns)))).2
 rw [hgo] at bs
 have bs:B 390 8000000 (.node se):=bs
 have afs:=ajv.trans (S11.trans S12)
 have aop:=bW (.of afs) h5
 refine⟨q12,[y12,.ref c12],rfl,h1,rfl,_,_,rfl,_,_,rfl,rfl,?_⟩
 refine⟨_,rfl,_,rfl,c12,q5,(upN h ns).map fun n:Nat=>(n:Int),(upN h ns).map fun n:Nat=>(n:Int),rfl,rfl,by rw [← BL]; exact h3,by rw [← BL]; exact aop,_,rfl,aeX (decide_eq_true rfl) ?_⟩
 refine⟨_,rfl,iV h2 0 rfl (fun v13 t13=>⟨Nat.zero_le _,fun p14 g14=>⟨.node [],leaf,t13.mono (.new g14),jx upd_same,by decide,_,rfl,aeX (T.rE _) ?_⟩⟩)⟩
 have S14:=same_new g14 (.tup [])
 refine⟨_,rfl,iV (h2.mono (.of S14)) 1 rfl (fun v15 t15=>⟨v15,.node se,rfl,t15,fun y16 H16 S16 t16=>⟨_,rfl,_,_,t16,td.mono (.of (S5.trans (afs.trans (S14.trans S16)))),?_,?_⟩⟩)⟩
 ·show (ats se 0).deep≤_
  rw [aix]; lia
 ·show Q (V.bl (T.beq (ats se 0) d)) _
  rw [aix,T.rE]
  exact q _ (S5.trans (afs.trans (S14.trans S16)))
end
section
variable {P:Program}{w:World}{K:PySem.W.Frag}{mg:Str→Option Value}{base:Heap}{f:Addr}{fd:FuncData}
theorem ok_law (cL:mg "tuple"=none) (cO:mg "range"=none)
  {Bm:Addr}{A_:FuncData} (Zi:Fun K "_law_deck" "_law_deck" jt Bm A_) (Zb:FnOk P w K mg base CX0 59 Bm A_ ["_law_script"] (acy K)) (Y0:Binds K A_ ["_law_script"] []) (YH:mg "_law_deck"=some (.ref Bm))
  {Bj:Addr}{Ax:FuncData} (lD:Fun K "_law_text" "_law_text" jr Bj Ax) (qJ:FnOk P w K mg base CX0 59 Bj Ax ["_law_deck_here","_law_deep","_law_many"] (Zw K 3)) (qI:Binds K Ax ["_law_deck_here","_law_deep","_law_many"] []) (qC:mg "_law_text"=some (.ref Bj))
  {cZ:Addr}{cY:FuncData} (dG:Fun K "_law_next" "_law_next" gD cZ cY) (dh:FnOk P w K mg base CX0 59 cZ cY ["_law_deck_here","_law_many"] Ft) (dF:Binds K cY ["_law_deck_here","_law_many"] []) (dB:mg "_law_next"=some (.ref cZ))
  {fY:Addr}{fX:FuncData} (fZ:Fun K "_law_tree" "_law_tree" gC fY fX) (iJ:FnOk P w K mg base CX0 59 fY fX ["_law_deck_here","_law_deep"] (Ni K 3)) (iI:Binds K fX ["_law_deck_here","_law_deep"] []) (iH:mg "_law_tree"=some (.ref fY))
  {uL:Addr}{uD:FuncData} (Je:Fun K "tower" "tower" rP uL uD) (Jd:FnOk P w K mg base CX0 59 uL uD ["height","text"] (Bv K)) (Jb:Binds K uD ["height","text"] []) (IK:mg "tower"=some (.ref uL))
  {zm:Addr}{yO:FuncData} (Yj:Fun K "_law_built" "_law_built" jE zm yO) (Yb:FnOk P w K mg base CX0 59 zm yO ["_law_height","_law_text_here"] (Bv K)) (Xv:Binds K yO ["_law_height","_law_text_here"] []) (V9:mg "_law_built"=some (.ref zm))
  {jj:Addr}{jh:FuncData} (qP:Fun K "tower_tally" "tower_tally" g_ jj jh) (qO:FnOk P w K mg base CX0 59 jj jh ["height","tally"] (xO K)) (qN:Binds K jh ["height","tally"] []) (qL:mg "tower_tally"=some (.ref jj))
  {wu:Addr}{vX:FuncData} (Ug:Fun K "_law_raised" "_law_raised" jf wu vX) (Uc:FnOk P w K mg base CX0 59 wu vX ["_law_height","_law_tally"] (xO K)) (T7:Binds K vX ["_law_height","_law_tally"] []) (TF:mg "_law_raised"=some (.ref wu))
  {wz:Addr}{vY:FuncData} (Uh:Fun K "_law_behind" "_law_behind" h_ wz vY) (Ud:FnOk P w K mg base CX0 59 wz vY ["_law_stand"] (R0 K)) (T9:Binds K vY ["_law_stand"] []) (TJ:mg "_law_behind"=some (.ref wz))
  {DY:Addr}{DG:FuncData} (abY:Fun K "tally_of" "tally_of" mQ DY DG) (abU:FnOk P w K mg base CX0 59 DY DG ["text","tree","budget"] (RZ K)) (abH:Binds K DG ["text","tree","budget"] []) (aa_:mg "tally_of"=some (.ref DY))
  {bU:Addr}{bR:FuncData} (gQ:Fun K "_law_first" "_law_first" eZ bU bR) (gP:FnOk P w K mg base CX0 59 bU bR ["_law_tree_here"] (tX K)) (gM:Binds K bR ["_law_tree_here"] []) (gK:mg "_law_first"=some (.ref bU))
  {rK:Addr}{rB:FuncData} (zE:Fun K "_law_run_alike" "_law_run_alike" eY rK rB) (zy:FnOk P w K mg base CX0 59 rK rB ["_law_height","_law_text_here","_law_tree_here","_law_tally","_law_due"] (ZM K)) (yZ:Binds K rB ["_law_height","_law_text_here","_law_tree_here","_law_tally","_law_due"] []) (yC:mg "_law_run_alike"=some (.ref rK))
  (F:Fun K "law" "law" sy f fd):FnOk P w K mg base CX0 60 f fd ["_law_script"] (spLaw K):=by
 refine okQ F lJ (fun vs H Q E h=>?_) (fun cdv A outer s H vs Q E hr h=>?_)
 ·obtain⟨a,ns,rfl,_⟩:=h
  rfl
 obtain⟨a,ns,rfl,hl,h63,q⟩:=h
 have hE:=hr.un
 have hE:(A.deeper (envOfC "law" (defScope sy) s.heap.objs.size f cdv)).units+401<cLine:=by lia
 refine⟨_,(au (bA (i:=1) lJ.nd rfl (Or.inr rfl) (aN Zb hr rfl YH Zi.kp Y0 .nil pass0 (aj (qv 0) ak)))
   (au (bA (i:=2) lJ.nd rfl (Or.inl rfl) (aN qJ hr rfl qC lD.kp qI .nil pass0 (aj (qv 1) (aj aD (aj aD ak)))))
   (au (bK (aV op_eq (aN dh hr rfl dB dG.kp dF .nil pass0 (aj (qv 1) (aj aD ak))) aD (nomark _)) (aB (bA (i:=2) lJ.nd rfl (Or.inl rfl) (aU ak))) bD)
   (au (bA (i:=3) lJ.nd rfl (Or.inl rfl) (aN iJ hr rfl iH fZ.kp iI .nil pass0 (aj (qv 1) (aj aD ak))))
   (au (bA (i:=4) lJ.nd rfl (Or.inl rfl) (aN dh hr rfl dB dG.kp dF .nil pass0 (aj (qv 1) (aj aD ak))))
   (au (bA (i:=5) lJ.nd rfl (Or.inl rfl) (iT fK rfl cL lB (aj (CP rfl (nH (fr:=["_law_deck_here"]) (js:=[1]) (sc:=defScope sy) rfl rfl rfl (by decide +kernel) (by decide +kernel) (by decide +kernel) (by decide +kernel) (by exact⟨⟨rfl,rfl,rfl⟩,trivial⟩) (by decide +kernel) (fun y hy=>cell_has hy)) (mH rfl cO (aj aD ak)) (fun _ _ _ _ _=>(aW yp (aN dh hr rfl dB dG.kp dF .nil pass0 (aj (qv 1) (aj (aW acP aD aD) ak))) (aN dh hr rfl dB dG.kp dF .nil pass0 (aj (qv 1) (aj (aW acP aD aD) ak)))))) ak)))
   (au (bK (QW.pt (afI (aV (wV hE) (aN Jd hr rfl IK Je.kp Jb .nil pass0 (aj (qv 4) (aj (qv 2) ak))) (aN Yb hr rfl V9 Yj.kp Xv .nil pass0 (aj (qv 4) (aj (qv 2) ak))) (nomark _)) (acH (aV (wV hE) (aN Jd hr rfl IK Je.kp Jb .nil pass0 (aj aD (aj (qv 2) ak))) (qv 2) (nomark _))))) (aB (aR zN)) bD)
   (au (bK (QW.pt (afI (aV (Z6 hE) (aN qO hr rfl qL qP.kp qN .nil pass0 (aj (qv 4) (aj (qv 5) ak))) (aN Uc hr rfl TF Ug.kp T7 .nil pass0 (aj (qv 4) (aj (qv 5) ak))) (nomark _)) (acH (aV (Z6 hE) (aN qO hr rfl qL qP.kp qN .nil pass0 (aj aD (aj (qv 5) ak))) (qv 5) (nomark _))))) (aB (aR zN)) bD)
   (au (bA (i:=6) lJ.nd rfl (Or.inl rfl) (aU (aj (aU (aj (qv 2) ak)) (aj (aU (aj (qv 3) ak)) ak))))
   (au (bA (i:=7) lJ.nd rfl (Or.inl rfl) aD)
   (au (ud PassesOwn.never (QW.pt (sG (aV (wV hE) (cB cJ (qv 6) aD (fun _ _=>rfl)) (aU ak) (nomark _)) (pO (aV aaP (qv 7) aD (nomark _))))) (au (bA (i:=6) lJ.nd rfl (Or.inl rfl) (aN Ud hr rfl TJ Uh.kp T9 .nil pass0 (aj (qv 6) ak)))
   (aB (bA (i:=7) lJ.nd rfl (Or.inl rfl) (aW op_add (qv 7) aD)))))
   (au (bK (aV (wV hE) (cB cJ (qv 6) aD (fun _ _=>rfl)) (aU ak) (nomark _)) (aB (aR zN)) bD)
   (au (bA (i:=8) lJ.nd rfl (Or.inl rfl) (aN abU hr rfl aa_ abY.kp abH .nil pass0 (aj (qv 2) (aj (qv 3) (aj aD ak)))))
   (au (bA (i:=9) lJ.nd rfl (Or.inl rfl) (aN gP hr rfl gK gQ.kp gM .nil pass0 (aj (cB cJ (qv 6) aD (fun _ _=>rfl)) ak)))
   (au (bK (QW.pt (sG (aV op_eq (qv 7) aD (nomark _)) (pO (Vo (oO (aN zy hr rfl yC zE.kp yZ .nil pass0 (aj aD (aj (qv 2) (aj (qv 3) (aj (qv 8) (aj (qv 9) ak))))))))))) (aB (aR zN)) bD)
   (aB (aR (aN zy hr rfl yC zE.kp yZ .nil pass0 (aj aD (aj (qv 2) (aj (qv 3) (aj (qv 8) (aj (qv 9) ak))))))))))))))))))))))),?_⟩
 refine jm (fun v=>[some (.ref a),some (v),none,none,none,none,none,none,none,none]) (fun _=>rfl) (fun v H'=>∃ p,v=.ref p∧wC H' p) (fun R r=>⟨_,rfl,a,ns,rfl,hl,h63,fun p H1 S1 hp0 hk=>r _ _ ⟨p,rfl,hk⟩⟩) (fun v1 H1 h1=>?_)
 obtain⟨p,rfl,hk⟩:=h1
 have q3:pbT 3=40:=rfl
 have pw1:pw5 1=422:=rfl
 refine jm (fun v=>[some (.ref a),some (.ref p),some (v),none,none,none,none,none,none,none]) (fun _=>rfl) (fun v H'=>∃ ws,Dr p H1 H'∧TR K H' (.node ws) v∧(∀ w∈ws,XQ 1 w)∧ws.length≤4) (fun R r=>⟨_,rfl,p,1,4,rfl,by decide,by decide,hk,fun y t H2 D2 ht hs hl2=>?_⟩) (fun v2 H2 h2=>?_)
 ·cases t with
  | node ws=>exact r _ _ ⟨ws,D2,ht,hs,hl2⟩
 obtain⟨ws0,D2,t2,aiq,air⟩:=h2
 refine Wu (fun σ' H'=>∃ (v:V) (ws:List T),σ'=[some (.ref a),some (.ref p),some (v),none,none,none,none,none,none,none]∧Dr p H1 H'∧TR K H' (.node ws) v∧(∀ w∈ws,XQ 1 w)∧ws.length≤4) (fun σ3 H3 h3=>?_) (fun N hN=>?_)
 rotate_left
 ·refine⟨_,rfl,p,4,rfl,by decide,D2.dH,fun i H3 i0 i1 D3=>⟨rfl,_,rfl,ite2 (fun _=>?_) (fun _=>?_)⟩⟩
  rotate_left
  ·exact hN _ _ ⟨v2,ws0,rfl,D2.trans D3,t2.mono (D3.kt D2.dH),aiq,air⟩
  refine⟨Nat.zero_le _,fun p1 g1=>?_⟩
  obtain⟨S1,t1⟩:=bN (K:=K) (ts:=[]) g1 (bJ.mpr rfl)
  exact hN _ _ ⟨_,[],rfl,(D2.trans D3).same S1,t1,(fun w hw=>by cases hw),by decide⟩
 obtain⟨v2',ws,rfl,D3,t3,hws,hwl⟩:=h3
 clear t2 D2 aiq air
 generalize v2'=v2 at t3
 refine jm (fun v=>[some (.ref a),some (.ref p),some (v2),some (v),none,none,none,none,none,none]) (fun _=>rfl) (fun v H'=>∃ its,Dr p H1 H'∧TR K H' (.node ws) v2∧TR K H' (.node its) v∧ShT 3 (.node its)) (fun R r=>⟨_,rfl,p,3,rfl,by decide,D3.dH,fun y t H4 D4 ht hs=>?_⟩) (fun v3 H4 h4=>?_)
 ·cases t with
  | node its=>exact r _ _ ⟨its,D3.trans D4,t3.mono (D4.kt D3.dH),ht,hs⟩
 obtain⟨its,D4,t24,t34,hts⟩:=h4
 refine jm (fun v=>[some (.ref a),some (.ref p),some (v2),some (v3),some (v),none,none,none,none,none]) (fun _=>rfl) (fun v H'=>∃ hh:Nat,v=.int (hh:Int)∧hh≤6∧Dr p H1 H'∧Kt H4 H') (fun R r=>⟨_,rfl,p,7,rfl,by decide,D4.dH,fun i H5 i0 i1 D5=>r _ _ ⟨i.toNat,congrArg V.int (by lia),by lia,D4.trans D5,D5.kt D4.dH⟩⟩) (fun v4 H5 h5=>?_)
 obtain⟨hh,rfl,hh6,D5,k5⟩:=h5
 have t25:=t24.mono k5
 have t35:=t34.mono k5
 refine jm (fun v=>[some (.ref a),some (.ref p),some (v2),some (v3),some (.int ((hh:Nat):Int)),some (v),none,none,none,none]) (fun _=>rfl) (fun v H'=>∃ ta ms,v=.ref ta∧Dr p H5 H'∧SqT K H' ta (List.map nv ms)∧ms.length=15) (fun R r=>?_) (fun v5 H6 h6=>?_)
 ·have q:∀ l ms H',Dr p H5 H'→SqT K H' l (List.map nv ms)→ms.length=15→R (.ref l) H':=fun l ms H' D hs hl=>r _ _ ⟨l,ms,rfl,D,hs,hl⟩
  have hd:=D5.dH
  clear D5 k5 t25 t35 D4 t24 t34
  generalize H5=H at q hd ⊢
  refine⟨15,rfl,by decide,by decide,?_⟩
  refine Gu (fun D i ys H'=>D≠p∧H D=none∧Dr p H H'∧H' D=some (.lst ys)∧ys.length=i∧∃ ns:List Nat,ys=ns.map nv) (by decide) (fun D hD=>?_) (fun D i ys H' j=>⟨j.2.2.2.1,j.2.2.2.2.1⟩) (fun D i ys H' R hi j hR=>?_) (fun D ys H' j=>?_)
  ·have hne:=akj hd hD
   exact⟨hne,hD,(Dr.refl hd).upd hD hne,upd_same,rfl,[],rfl⟩
  ·obtain⟨hne,hD,D1,h1,hl,ns,rfl⟩:=j
   refine⟨_,rfl,_,_,rfl,rfl,⟨by decide,by decide,by decide⟩,p,_,rfl,(by show (0:Int)<10 ^ 9; decide),D1.dH,fun i1 H2 a1 b1 D2=>?_⟩
   refine⟨_,rfl,_,_,rfl,rfl,⟨by decide,by decide,by decide⟩,p,_,rfl,(by show (0:Int)<10 ^ 9; decide),D2.dH,fun i2 H3 a2 b2 D3=>?_⟩
   have b1':i1<1000000000:=b1
   have z64:(2:Int) ^ 64=18446744073709551616:=by decide
   refine⟨_,_,rfl,rfl,.inl ⟨by lia,by lia⟩,?_⟩
   have h3:=(D2.trans D3).keep D _ hne h1
   show R (V.int (i1 * i2)) H3
   rw [show V.int (i1 * i2)=nv (i1.toNat * i2.toNat) from congrArg V.int (by rw [Int.natCast_mul,Int.toNat_of_nonneg a1,Int.toNat_of_nonneg a2])]
   refine hR _ H3 h3 ⟨hne,hD,(D1.trans (D2.trans D3)).upd hD hne,upd_same,by rw [List.length_append,hl]; rfl,ns++[i1.toNat * i2.toNat],by rw [List.map_append]; rfl⟩
  ·obtain⟨hne,hD,D1,h1,hl,ns,rfl⟩:=j
   refine⟨D,_,rfl,.inl ⟨SqL.of h1,fun l hl'=>q l ns _ (D1.same (same_new hl' _)) (SqT.of upd_same) (by rw [List.length_map] at hl; exact hl)⟩⟩
 obtain⟨ta,ms,rfl,D6,hta,hms⟩:=h6
 have k6:=D6.kt D5.dH
 have t26:=t25.mono k6
 have t36:=t35.mono k6
 have hwp:∀ w∈ws,w.parts≤422∧w.deep≤6:=fun w hw=>⟨by have:=(hws w hw).1.2; lia,(hws w hw).1.1⟩
 have hpw:T.aA ws≤4 * 422:=R7 hwl fun w hw=>(hwp w hw).1
 have hdw:T.bM ws≤7:=T.Ar fun w hw=>by have:=(hwp w hw).2; lia
 have bws:B 60 20000 (.node ws):=⟨by rw [T.aK]; lia,by rw [T.aG]; lia⟩
 have bto:=ab2 (n:=hh) bws hh6
 refine⟨_,rfl,_,rfl,hh,v2,.node ws,rfl,hh6,t26,bws,fun y7 H7 S7 t7=>?_⟩
 refine⟨_,rfl,_,rfl,hh,v2,.node ws,rfl,hh6,t26.mono (.of S7),bws,fun y8 H8 S8 t8=>⟨_,_,t7.mono (.of S8),t8,by have:=bto.1; lia,_,rfl,Ws (by rw [T.rE]; rfl) ?_⟩⟩
 have S78:=S7.trans S8
 refine⟨_,rfl,0,v2,.node ws,rfl,by decide,t26.mono (.of S78),bws,fun y9 H9 S9 t9=>?_⟩
 have S79:=S78.trans S9
 refine⟨_,rfl,_,_,t9,t26.mono (.of S79),by have:=bws.1; show (T.node ws).deep≤_; lia,_,rfl,Ws (by show (!T.beq (.node ws) (.node ws))=false; rw [T.rE]; rfl) ?_⟩
 dsimp only [tNext]
 have abn:=bW (.of S79) hta
 refine⟨_,rfl,_,rfl,hh,ta,ms,rfl,hh6,abn,hms,fun p10 H10 S10 h10=>?_⟩
 refine⟨_,rfl,_,rfl,hh,ta,ms,rfl,hh6,bW (.of S10) abn,hms,fun p11 H11 S11 h11=>?_⟩
 refine⟨p10,p11,_,_,rfl,rfl,by have:=bW (.of S11) h10; rw [BL] at this; exact this,by have:=h11; rw [BL] at this; exact this,_,rfl,Ws (by simp) ?_⟩
 have aju:=S10.trans S11
 refine⟨_,rfl,0,ta,ms,rfl,by decide,bW (.of aju) abn,hms,fun p12 H12 S12 h12=>?_⟩
 have afq:=aju.trans S12
 have h12:SqT K H12 p12 (ms.map nv):=h12
 refine⟨_,rfl,p12,ta,_,_,rfl,rfl,by have:=h12; rw [BL] at this; exact this,by have:=bW (.of afq) abn; rw [BL] at this; exact this,_,rfl,Ws (by simp) ?_⟩
 dsimp only [tNext]
 have ahl:=t26.mono (K:=K) (.of (S79.trans afq))
 have ahj:=t36.mono (K:=K) (.of (S79.trans afq))
 have hti:=hts.1
 have htp:=hts.2
 rw [T.aK] at hti
 rw [T.aG,q3] at htp
 have hd0:jR 40 ([.node ws],[.node its]):=⟨by show (T.node [.node ws]).deep≤40; rw [Ob]; lia,by show (T.node [.node its]).deep≤40; rw [Ob]; lia⟩
 have hg:uR 14 ([.node ws],[.node its]):=af4 hd0 (fun t ht w hw=>by rw [List.mem_singleton.mp ht] at hw; have:=(hwp w hw).1; lia) (by rw [Ik]; lia) (by rw [Ik]; lia)
 have hgt:GT [.node ws]:=fun t ht w hw=>by rw [List.mem_singleton.mp ht] at hw; exact (hws w hw).2
 have aok:Pot 41 0 [.node its]:=aj6 (by rw [Ik]; lia)
 refine jm (fun v=>[some (.ref a),some (.ref p),some (v2),some (v3),some (.int ((hh:Nat):Int)),some (.ref ta),some (v),none,none,none]) (fun _=>rfl) (fun v H'=>Same H12 H'∧TR K H' (.node [.node [.node ws],.node [.node its]]) v) (fun R r=>⟨_,rfl,(by show 1≤sizeLine; decide),fun p1 g1=>⟨_,rfl,(by show 1≤sizeLine; decide),fun p2 g2=>⟨(by show 2≤sizeLine; decide),fun p3 g3=>?_⟩⟩⟩) (fun v6 H13 h13=>?_)
 ·obtain⟨S1,t1⟩:=bN (K:=K) g1 (dO ahl)
  obtain⟨S2,t2⟩:=bN (K:=K) g2 (dO (ahj.mono (.of S1)))
  obtain⟨S3,t3⟩:=bN (K:=K) g3 (pZ (t1.mono (.of S2)) t2)
  exact r _ _ ⟨S1.trans (S2.trans S3),t3⟩
 obtain⟨S13,t6⟩:=h13
 refine jm (fun v=>[some (.ref a),some (.ref p),some (v2),some (v3),some (.int ((hh:Nat):Int)),some (.ref ta),some (v6),some (v),none,none]) (fun _=>rfl) (fun v H'=>v=.int ((0:Nat):Int)∧H'=H13) (fun R r=>r _ _ ⟨rfl,rfl⟩) (fun v7 H14 h14=>?_)
 obtain⟨rfl,rfl⟩:=h14
 have ahk:=ahl.mono (K:=K) (.of S13)
 have ahi:=ahj.mono (K:=K) (.of S13)
 refine⟨fun m σ H'=>∃ (v:V) (j:Nat),σ=[some (.ref a),some (.ref p),some (v2),some (v3),some (.int ((hh:Nat):Int)),some (.ref ta),some (v),some (.int ((j:Nat):Int)),none,none]∧j≤8∧m=8 - j∧Same H14 H'∧TR K H' (.node [.node (stN j ([.node ws],[.node its])).1,.node (stN j ([.node ws],[.node its])).2]) v∧∀ i,i<j→(stN i ([.node ws],[.node its])).1≠[],⟨_,v6,0,rfl,by decide,rfl,Same.refl _,t6,fun i hi=>by lia⟩,?_⟩
 rintro m σ H' ⟨v,j,rfl,hj,rfl,S,tv,hne⟩
 have hgj:=hg j (by lia)
 have okj:=agR hgj
 obtain⟨bx,bs⟩:=Ip (tx:=(stN j ([.node ws],[.node its])).1) (s:=(stN j ([.node ws],[.node its])).2) okj
 have dx:=bx.deep
 refine⟨_,rfl,iV tv 0 rfl (fun v0 t0=>⟨Nat.zero_le _,fun p1 g1=>⟨.node (stN j ([.node ws],[.node its])).1,leaf,t0.mono (.new g1),jx upd_same,by lia,_,rfl,?_⟩⟩)⟩
 have S1:=same_new g1 (.tup [])
 rw [yE]
 by_cases hnil:(stN j ([.node ws],[.node its])).1=[]
 rotate_left
 ·rw [decide_eq_false (show ¬ (T.node (stN j ([.node ws],[.node its])).1).kids=[] from hnil)]
  refine iteT ⟨_,rfl,_,_,rfl,rfl,_,rfl,ite2 (fun hlt=>?_) (fun hlt=>?_)⟩
  ·have hlt:(j:Int)<8:=of_decide_eq_true hlt
   refine⟨fun σ' H'=>∃ m',m'<8 - j∧∃ (v:V) (j:Nat),σ'=[some (.ref a),some (.ref p),some (v2),some (v3),some (.int ((hh:Nat):Int)),some (.ref ta),some (v),some (.int ((j:Nat):Int)),none,none]∧j≤8∧m'=8 - j∧Same H14 H'∧TR K H' (.node [.node (stN j ([.node ws],[.node its])).1,.node (stN j ([.node ws],[.node its])).2]) v∧∀ i,i<j→(stN i ([.node ws],[.node its])).1≠[],fun _ _ h=>h,?_⟩
   refine jm (fun v=>[some (.ref a),some (.ref p),some (v2),some (v3),some (.int ((hh:Nat):Int)),some (.ref ta),some (v),some (.int ((j:Nat):Int)),none,none]) (fun _=>rfl) (fun v H2=>Same H' H2∧TR K H2 (.node [.node (stN (j+1) ([.node ws],[.node its])).1,.node (stN (j+1) ([.node ws],[.node its])).2]) v) (fun R r=>⟨_,rfl,v,_,_,rfl,tv.mono (.new g1),hnil,bx,bs,fun y H2 S2 t2=>r _ _ ⟨S1.trans S2,t2⟩⟩) (fun vn H2 h2=>?_)
   obtain⟨S2,t2⟩:=h2
   refine⟨_,rfl,_,_,rfl,rfl,8 - (j+1),by lia,vn,j+1,?_,by lia,rfl,S.trans S2,t2,fun i hi=>?_⟩
   ·show [some (.ref a),some (.ref p),some (v2),some (v3),some (.int ((hh:Nat):Int)),some (.ref ta),some (vn),some (.int ((j:Int)+1)),none,none]=_
    rw [show (j:Int)+1=((j+1:Nat):Int) by lia]
   ·by_cases c:i<j
    ·exact hne i c
    ·rw [show i=j by lia]; exact hnil
  ·refine⟨_,rfl,iV (tv.mono (.new g1)) 0 rfl (fun v0' t0'=>⟨Nat.zero_le _,fun p2 g2=>⟨.node (stN j ([.node ws],[.node its])).1,leaf,t0'.mono (.new g2),jx upd_same,by lia,_,rfl,?_⟩⟩)⟩
   rw [yE,decide_eq_false (show ¬ (T.node (stN j ([.node ws],[.node its])).1).kids=[] from hnil)]
   exact iteT (q _)
 rw [decide_eq_true (show (T.node (stN j ([.node ws],[.node its])).1).kids=[] from hnil)]
 refine iteF (iteF ?_)
 refine⟨_,rfl,iV (tv.mono (.new g1)) 0 rfl (fun v0' t0'=>⟨Nat.zero_le _,fun p2 g2=>⟨.node (stN j ([.node ws],[.node its])).1,leaf,t0'.mono (.new g2),jx upd_same,by lia,_,rfl,?_⟩⟩)⟩
 rw [yE,decide_eq_true (show (T.node (stN j ([.node ws],[.node its])).1).kids=[] from hnil)]
 refine iteF ?_
 dsimp only [tNext]
 have S2:=S1.trans (same_new g2 (.tup []))
 have St:=S.trans S2
 have aiw:uR j ([.node ws],[.node its]):=fun i hi=>hg i (by lia)
 have ajK:=adi aiw hnil
 obtain⟨τ,hτ,wτ⟩:=Zo j 0 (st:=([.node ws],[.node its])) (by lia) aok hgt hne
 have hsum:∀ j,j≤8→aaC 0 j≤4000:=by decide
 have hτ':=hsum j hj
 obtain⟨hend,_⟩:=Zj wτ hnil 4000 (by lia)
 have hend:(goT 4000 [.node ws] [.node its]).1=[]:=hend
 have htl:=(JT wτ hnil 4000 hend).2
 have htl:(goT 4000 [.node ws] [.node its]).2.1=(stN j ([.node ws],[.node its])).2:=htl
 have w1:=aiA hend
 have l1:=Gy 4000 [.node ws] [.node its]
 rw [htl] at w1
 have afd:(ats (stN j ([.node ws],[.node its])).2 0).deep≤300:=by
  have z:=hgj.1.2
  rw [T.aK] at z
  have:=pW _ 0 z
  lia
 have ws1:j=1→ws=[]:=fun z=>by subst z; exact agA hnil
 have sn1:∀ b,Sane b [cQ 1 (.node ws)] [.node its]:=aci aiw hnil
 have hw1:=Pb l1 w1
 have sn2:j=1→∀ b,Sane b [cQ 2 (.node ws)] [.node its]:=fun z=>by
  have e:=ws1 z
  subst e
  exact ach (by lia) (by lia)
 have hw2:=afU l1 w1
 generalize hn1:(goT 4000 [.node ws] [.node its]).2.2=n1 at *
 refine jm (fun z=>[some (.ref a),some (.ref p),some (v2),some (v3),some (.int ((hh:Nat):Int)),some (.ref ta),some (v),some (.int ((j:Nat):Int)),some (z),none]) (fun _=>rfl) (fun z H2=>∃ q8,z=.ref q8∧Same H' H2∧SqT K H2 q8 (n1.map nv)) (fun R r=>⟨_,rfl,_,rfl,v2,v3,.node ws,.node its,4000,rfl,ahk.mono (.of St),ahi.mono (.of St),ajK _,fun q8 H3 S3 h3=>r _ _ ⟨q8,rfl,S2.trans S3,?_⟩⟩) (fun v8 H15 h15=>?_)
 ·rw [hn1] at h3
  exact h3
 obtain⟨q8,rfl,S15,h8⟩:=h15
 have aqs:=S.trans S15
 refine jm (fun z=>[some (.ref a),some (.ref p),some (v2),some (v3),some (.int ((hh:Nat):Int)),some (.ref ta),some (v),some (.int ((j:Nat):Int)),some (.ref q8),some (z)]) (fun _=>rfl) (fun z H2=>Same H15 H2∧TR K H2 (ats (stN j ([.node ws],[.node its])).2 0) z) (fun R r=>⟨_,rfl,iV (tv.mono (.of S15)) 1 rfl (fun v9 t9'=>⟨v9,_,rfl,t9',fun y H2 S2 t2=>r _ _ ⟨S2,t2⟩⟩)⟩) (fun v9 H16 h16=>?_)
 obtain⟨S16,t9'⟩:=h16
 have ajw:=aqs.trans S16
 have aee:=ahk.mono (K:=K) (.of ajw)
 have aed:=ahi.mono (K:=K) (.of ajw)
 have ae2:=bW (.of S16) h8
 by_cases j1:j=1
 ·refine⟨_,rfl,rfl,_,rfl,aeX (decide_eq_true (congrArg V.int (by lia))) ?_⟩
  refine⟨_,rfl,_,rfl,_,rfl,_,rfl,2,v2,v3,v9,q8,.node ws,.node its,_,n1,_,rfl,by decide,aee,aed,t9',bws,ae2,l1,afd,sn2 j1,hw2,rfl,fun H17 S17=>⟨_,rfl,iteF ?_⟩⟩
  exact⟨_,rfl,_,rfl,_,rfl,_,rfl,1,v2,v3,v9,q8,.node ws,.node its,_,n1,_,rfl,by decide,aee.mono (.of S17),aed.mono (.of S17),t9'.mono (.of S17),bws,bW (.of S17) ae2,l1,afd,sn1,hw1,rfl,fun H3 _=>q _⟩
 ·refine⟨_,rfl,rfl,_,rfl,Ws (decide_eq_false (fun z=>j1 (by have:=V.int.inj z; lia))) ?_⟩
  refine iteF ?_
  exact⟨_,rfl,_,rfl,_,rfl,_,rfl,1,v2,v3,v9,q8,.node ws,.node its,_,n1,_,rfl,by decide,aee,aed,t9',bws,ae2,l1,afd,sn1,hw1,rfl,fun H3 _=>q _⟩
end
abbrev gk:Stmt:=inClass (top 65) 0
abbrev iC:Stmt:=inClass (top 66) 0
abbrev iY:Stmt:=inClass (top 77) 0
abbrev gU:Stmt:=inClass (top 77) 1
abbrev iZ:Stmt:=inClass (top 78) 0
abbrev ju:Stmt:=inClass (top 78) 1
abbrev iD:Stmt:=inClass (top 79) 0
abbrev gH:Stmt:=inClass (top 80) 0
abbrev jT:Stmt:=inClass (top 80) 1
abbrev pN:Stmt:=inClass (top 80) 2
abbrev lK:Stmt:=inClass (top 80) 3
abbrev iQ:Stmt:=inClass (top 80) 4
abbrev nA:Stmt:=inClass (top 80) 5
abbrev nD:Stmt:=inClass (top 80) 6
theorem Es:FnScope ["self","item","behind"] ["self","item","behind"] (defScope gk):=⟨rfl,rfl,rfl,by decide +kernel,rfl,by decide +kernel,by decide +kernel⟩
theorem Jk:FnScope ["self","tree","place"] ["self","tree","place"] (defScope iC):=⟨rfl,rfl,rfl,by decide +kernel,rfl,by decide +kernel,by decide +kernel⟩
theorem Ka:FnScope ["self","tree"] ["self","tree"] (defScope iY):=⟨rfl,rfl,rfl,by decide +kernel,rfl,by decide +kernel,by decide +kernel⟩
theorem Fz:FnScope ["self"] ["self"] (defScope gU):=⟨rfl,rfl,rfl,by decide +kernel,rfl,by decide +kernel,by decide +kernel⟩
theorem Kd:FnScope ["self","tree"] ["self","tree"] (defScope iZ):=⟨rfl,rfl,rfl,by decide +kernel,rfl,by decide +kernel,by decide +kernel⟩
theorem Nr:FnScope ["self","place"] ["self","place"] (defScope ju):=⟨rfl,rfl,rfl,by decide +kernel,rfl,by decide +kernel,by decide +kernel⟩
theorem Jl:FnScope ["self","text"] ["self","text"] (defScope iD):=⟨rfl,rfl,rfl,by decide +kernel,rfl,by decide +kernel,by decide +kernel⟩
theorem Kc:FnScope ["self","stand","budget"] ["self","stand","budget"] (defScope gH):=⟨rfl,rfl,rfl,by decide +kernel,rfl,by decide +kernel,by decide +kernel⟩
theorem PN:FnScope ["self"] ["self"] (defScope jT):=⟨rfl,rfl,rfl,by decide +kernel,rfl,by decide +kernel,by decide +kernel⟩
theorem Yq:FnScope ["self"] ["self"] (defScope pN):=⟨rfl,rfl,rfl,by decide +kernel,rfl,by decide +kernel,by decide +kernel⟩
theorem Tc:FnScope ["self"] ["self"] (defScope lK):=⟨rfl,rfl,rfl,by decide +kernel,rfl,by decide +kernel,by decide +kernel⟩
theorem El:FnScope ["self","texts"] ["self"] (defScope iQ):=⟨rfl,rfl,rfl,by decide +kernel,rfl,by decide +kernel,by decide +kernel⟩
theorem oh:FnScope ["self","going","word","step","taken"] ["self"] (defScope nA):=⟨rfl,rfl,rfl,by decide +kernel,rfl,by decide +kernel,by decide +kernel⟩
theorem Vj:FnScope ["self","step","going","word"] ["self","step","going","word"] (defScope nD):=⟨rfl,rfl,rfl,by decide +kernel,rfl,by decide +kernel,by decide +kernel⟩
section
variable {P:Program}{w:World}{K:PySem.W.Frag}{mg:Str→Option Value}{base:Heap}{f:Addr}{fd:FuncData}{ao aF aJ aP aQ aM:Addr}
theorem Eu (O:Own K ao aF aJ aP aQ aM)
  (F:Fun K "__init__" "Fronted.__init__" gk f fd):FnOk P w K mg base CX0 31 f fd ["self","item","behind"] (U7 ao):=by
 refine okQ F Es (fun vs H Q E h=>?_) (fun cdv A outer s H vs Q E hr h=>?_)
 ·obtain⟨o,dx,y,z,rfl,_⟩:=h
  rfl
 obtain⟨o,dx,y,z,rfl,ho,q⟩:=h
 refine⟨_,(au (fM (qv 0) (qv 1) rfl)
   (aB (fM (qv 0) (qv 2) rfl))),?_⟩
 refine⟨_,rfl,_,rfl,o,ao,dx,_,rfl,ho,O.rF.cl,O.fi,by show 0<1000; decide,?_⟩
 refine⟨_,rfl,_,rfl,o,ao,dx,_,rfl,upd_same,O.rF.cl,O.fb,by show 1<1000; decide,?_⟩
 have e:upd (upd H o (.ins ao dx (putF "item" y []))) o (.ins ao dx (putF "behind" z (putF "item" y [])))=upd H o (.ins ao dx (fF y z)):=by
  rw [kZ,Nv (by decide +kernel)]
  rfl
 exact e ▸ q
theorem Jq (O:Own K ao aF aJ aP aQ aM)
  (F:Fun K "__init__" "Later.__init__" iC f fd):FnOk P w K mg base CX0 31 f fd ["self","tree","place"] (U5 aF):=by
 refine okQ F Jk (fun vs H Q E h=>?_) (fun cdv A outer s H vs Q E hr h=>?_)
 ·obtain⟨o,dx,v,p,rfl,_⟩:=h
  rfl
 obtain⟨o,dx,v,p,rfl,ho,q⟩:=h
 refine⟨_,(au (fM (qv 0) (qv 1) rfl)
   (aB (fM (qv 0) (qv 2) rfl))),?_⟩
 refine⟨_,rfl,_,rfl,o,aF,dx,_,rfl,ho,O.rL.cl,O.lt,by show 0<1000; decide,?_⟩
 refine⟨_,rfl,_,rfl,o,aF,dx,_,rfl,upd_same,O.rL.cl,O.lp,by show 1<1000; decide,?_⟩
 have e:upd (upd H o (.ins aF dx (putF "tree" v []))) o (.ins aF dx (putF "place" (.int (p:Int)) (putF "tree" v [])))=upd H o (.ins aF dx (fL v p)):=by
  rw [kZ,Nv (by decide +kernel)]
  rfl
 exact e ▸ q
theorem Jr (O:Own K ao aF aJ aP aQ aM)
  (F:Fun K "__init__" "Going.__init__" iD f fd):FnOk P w K mg base CX0 31 f fd ["self","text"] (J6 aQ):=by
 refine okQ F Jl (fun vs H Q E h=>?_) (fun cdv A outer s H vs Q E hr h=>?_)
 ·obtain⟨o,dx,a,rfl,_⟩:=h
  rfl
 obtain⟨o,dx,a,rfl,ho,q⟩:=h
 refine⟨_,(au (fM (qv 0) (qv 1) rfl)
   (aB (fM (qv 0) aD rfl))),?_⟩
 refine⟨_,rfl,_,rfl,o,aQ,dx,_,rfl,ho,O.yW,O.gt,by show 0<1000; decide,?_⟩
 refine⟨_,rfl,o,aQ,dx,_,rfl,upd_same,O.yW,O.gp,by show 1<1000; decide,?_⟩
 have e:upd (upd H o (.ins aQ dx (putF "text" (.ref a) []))) o (.ins aQ dx (putF "place" (.int 0) (putF "text" (.ref a) [])))=upd H o (.ins aQ dx (fG a 0)):=by
  rw [kZ,Nv (by decide +kernel)]
  rfl
 exact e ▸ q
theorem KH (O:Own K ao aF aJ aP aQ aM)
  (F:Fun K "__init__" "Text.__init__" iZ f fd):FnOk P w K mg base CX0 31 f fd ["self","tree"] (J4 aP):=by
 refine okQ F Kd (fun vs H Q E h=>?_) (fun cdv A outer s H vs Q E hr h=>?_)
 ·obtain⟨o,dx,v,rfl,_⟩:=h
  rfl
 obtain⟨o,dx,v,rfl,ho,q⟩:=h
 refine⟨_,(au (fM (qv 0) (qv 1) rfl)
   (aB (fM (qv 0) (oU ak) rfl))),?_⟩
 refine⟨_,rfl,_,rfl,o,aP,dx,_,rfl,ho,O.cText,O.tt,by show 0<1000; decide,?_⟩
 refine⟨Nat.zero_le _,fun W g=>⟨_,rfl,o,aP,dx,putF "tree" v [],rfl,?_,O.cText,O.tw,by show 1<1000; decide,?_⟩⟩
 ·have nW:o≠W:=ne_of_none (h:=upd_same) g
  rw [upd_ne nW,upd_same]
 ·have nW:o≠W:=ne_of_none (h:=upd_same) g
  have hW:H W=none:=by rw [upd_ne (Ne.symm nW)] at g; exact g
  have e:upd (upd (upd H o (.ins aP dx (putF "tree" v []))) W (.lst [])) o (.ins aP dx (putF "words" (.ref W) (putF "tree" v [])))=upd (upd H W (.lst [])) o (.ins aP dx (fT v W)):=by
   rw [akn nW (H:=H),kZ,Nv (by decide +kernel)]
   rfl
  exact e ▸ q W hW
theorem Yw (O:Own K ao aF aJ aP aQ aM) (cI:mg "isinstance"=none)
  {lY:Addr}{lW:FuncData} (Ck:Fun K "first" "first" nq lY lW) (Cj:FnOk P w K mg base CX0 31 lY lW ["tree"] (Ih K)) (Ce:Binds K lW ["tree"] []) (BR:mg "first"=some (.ref lY))
  (fu:mg "Fronted"=some (.ref ao))
  (jX:mg "Later"=some (.ref aF))
  (F:Fun K "first_of" "first_of" mR f fd):FnOk P w K mg base CX0 32 f fd ["row"] (R4 K ao aF aJ aP):=by
 refine okQ F Yp (fun vs H Q E h=>?_) (fun cdv A outer s H vs Q E hr h=>?_)
 ·obtain⟨x,t,M,H₀,rfl,_⟩:=h
  rfl
 obtain⟨x,t,M,H₀,rfl,g,hx,hd,q⟩:=h
 refine⟨_,(au (bK (oO (cX jL rfl cI ji (aj (qv 0) (aj (aY (v:=.ref ao) rfl fu rfl) ak)))) (aB (aR (bH (qv 0) rfl))) bD)
   (au (bK (oO (cX jL rfl cI ji (aj (qv 0) (aj (aY (v:=.ref aF) rfl jX rfl) ak)))) (aB (aR (cB cJ (bH (qv 0) rfl) (bH (qv 0) rfl) (fun _ _=>rfl)))) bD)
   (aB (aR (aN Cj hr rfl BR Ck.kp Ce .nil pass0 (aj (qv 0) ak)))))),?_⟩
 rcases hx.cases g with hu | ⟨a,dx,y,z,u,ts,rfl,ha,rfl,hy,hz⟩
 ·rcases hu with ht | ⟨a,dx,v,ts,p,rfl,ha,hv,hp,hl,rfl⟩
  ·obtain⟨b,ys,rfl,hb,_⟩:=rN ht
   refine⟨_,rfl,_,ao,false,rfl,.inr ⟨b,ys,rfl,hb,O.iTF⟩,_,rfl,iteF ?_⟩
   refine⟨_,rfl,_,aF,false,rfl,.inr ⟨b,ys,rfl,hb,O.iTL⟩,_,rfl,iteF ?_⟩
   exact⟨_,rfl,_,t,rfl,ht,hd,fun y H' S h=>q y H' S (.inl h)⟩
  ·refine⟨_,rfl,_,ao,false,rfl,.inl ⟨_,O.rL.ty ha,O.iLF⟩,_,rfl,iteF ?_⟩
   refine⟨_,rfl,_,aF,true,rfl,.inl ⟨_,O.rL.ty ha,O.iLL⟩,_,rfl,iteT ?_⟩
   obtain⟨b,ys,rfl,hb,hys⟩:=cF.mp hv
   obtain⟨w',ew⟩:∃ w',ts[p]?=some w':=⟨_,List.getElem?_eq_getElem hp⟩
   obtain⟨x',ex,tx'⟩:=hys.at ew
   refine⟨_,rfl,a,aF,dx,_,_,rfl,ha,O.rL.cl,O.lt,eU _ _ _,_,rfl,a,aF,dx,_,_,rfl,ha,O.rL.cl,O.lp,(cM (by decide +kernel) _ _).trans (eU _ _ _),b,ys,p,x',rfl,rfl,hb,atI_nat ex,q _ _ (Same.refl _) (.inl ?_)⟩
   have:ats (T.node (ts.drop p)).kids 0=w':=by
    show ((ts.drop p)[0]?).getD leaf=w'
    rw [List.getElem?_drop,Nat.add_zero,ew]
    rfl
   rw [this]
   exact tx'
 ·refine⟨_,rfl,_,ao,true,rfl,.inl ⟨_,O.rF.ty ha,O.iFF⟩,_,rfl,iteT ?_⟩
  exact⟨_,rfl,a,ao,dx,_,_,rfl,ha,O.rF.cl,O.fi,eU _ _ _,q _ _ (Same.refl _) hy⟩
theorem aeI (O:Own K ao aF aJ aP aQ aM) (dZ:mg "len"=none)
  (jX:mg "Later"=some (.ref aF))
  {iG:Addr}{yP:FuncData} (M5:Mk K aF iG) (M_:FnOk P w K mg base CX0 31 iG yP ["self","tree","place"] (U5 aF)) (rG:Binds K yP ["self","tree","place"] [])
  (F:Fun K "later" "later" t_ f fd):FnOk P w K mg base CX0 33 f fd ["tree","place"] (ZG K ao aF aJ aP):=by
 refine okQ F ael (fun vs H Q E h=>?_) (fun cdv A outer s H vs Q E hr h=>?_)
 ·obtain⟨x,ts,p,M,H₀,rfl,_⟩:=h
  rfl
 obtain⟨x,ts,p,M,H₀,rfl,g,ht,hl,q⟩:=h
 refine⟨_,(aB (aR (qQ (aV aaP (qv 1) (cX call_len_seq rfl dZ pD (aj (qv 0) ak)) (nomark _)) (jV M5 M_ hr rfl jX rG .nil pass0 (aj (qv 0) (aj (qv 1) ak))) (aU ak)))),?_⟩
 obtain⟨b,ys,rfl,hb,hys⟩:=cF.mp ht
 have hyl:=hys.length
 refine⟨_,rfl,_,rfl,b,ys,rfl,.inr hb,_,_,rfl,rfl,_,rfl,ite2 (fun h=>?_) (fun h=>?_)⟩
 ·have hp:p<ts.length:=by have:=of_decide_eq_true h; lia
  refine⟨_,rfl,_,rfl,fun o dx ho hd ne=>⟨o,dx,_,p,rfl,i_,?_⟩⟩
  have S:=jw (C:=aF) (fs:=fL (.ref b) p) ho hd ne
  have e:upd (mkO H o dx aF []) o (.ins aF dx (fL (.ref b) p))=mkO H o dx aF (fL (.ref b) p):=ac4
  have fin:Q (.ref o) (mkO H o dx aF (fL (.ref b) p)):=q _ (setM M o (.row (.node (ts.drop p)))) _ S (.role g S ho ⟨_,i_⟩ (.inr ⟨dx,_,ts,p,i_,ht.mono (.of S),hp,hl,rfl⟩)) (.inr ⟨o,rfl,eV⟩)
  exact⟨rfl,e ▸ fin⟩
 ·have hp:ts.length≤p:=by
   have:¬ ((p:Int)<(ys.length:Int)):=fun z=>h (decide_eq_true z)
   lia
  refine⟨Nat.zero_le _,fun p1 g1=>?_⟩
  obtain⟨S1,t1⟩:=bN (K:=K) (ts:=[]) g1 (bJ.mpr rfl)
  refine q _ M _ S1 (.grow g S1) (.inl ?_)
  rw [List.drop_eq_nil_of_le hp]
  exact t1
theorem aaT (O:Own K ao aF aJ aP aQ aM) (cI:mg "isinstance"=none)
  {Rx:Addr}{Rk:FuncData} (aao:Fun K "later" "later" t_ Rx Rk) (aan:FnOk P w K mg base CX0 33 Rx Rk ["tree","place"] (ZG K ao aF aJ aP)) (aai:Binds K Rk ["tree","place"] []) (Z9:mg "later"=some (.ref Rx))
  (fu:mg "Fronted"=some (.ref ao))
  (jX:mg "Later"=some (.ref aF))
  (F:Fun K "rest_of" "rest_of" oF f fd):FnOk P w K mg base CX0 34 f fd ["row"] (U0 K ao aF aJ aP):=by
 refine okQ F aaH (fun vs H Q E h=>?_) (fun cdv A outer s H vs Q E hr h=>?_)
 ·obtain⟨x,t,M,H₀,rfl,_⟩:=h
  rfl
 obtain⟨x,t,M,H₀,rfl,g,hx,hd,hk,q⟩:=h
 refine⟨_,(au (bK (oO (cX jL rfl cI ji (aj (qv 0) (aj (aY (v:=.ref ao) rfl fu rfl) ak)))) (aB (aR (bH (qv 0) rfl))) bD)
   (au (bK (oO (cX jL rfl cI ji (aj (qv 0) (aj (aY (v:=.ref aF) rfl jX rfl) ak)))) (aB (aR (aN aan hr rfl Z9 aao.kp aai .nil pass0 (aj (bH (qv 0) rfl) (aj (aW op_add (bH (qv 0) rfl) aD) ak))))) bD)
   (aB (aR (aN aan hr rfl Z9 aao.kp aai .nil pass0 (aj (qv 0) (aj aD ak))))))),?_⟩
 rcases hx.cases g with hu | ⟨a,dx,y,z,u,ts,rfl,ha,rfl,hy,hz⟩
 ·rcases hu with ht | ⟨a,dx,v,ts,p,rfl,ha,hv,hp,hl,rfl⟩
  ·obtain⟨b,ys,rfl,hb,_⟩:=rN ht
   refine⟨_,rfl,_,ao,false,rfl,.inr ⟨b,ys,rfl,hb,O.iTF⟩,_,rfl,iteF ?_⟩
   refine⟨_,rfl,_,aF,false,rfl,.inr ⟨b,ys,rfl,hb,O.iTL⟩,_,rfl,iteF ?_⟩
   exact⟨_,rfl,_,t.kids,1,M,H₀,rfl,g,mj ht,hk,fun y M' H' S G h=>q y M' H' S G h⟩
  ·refine⟨_,rfl,_,ao,false,rfl,.inl ⟨_,O.rL.ty ha,O.iLF⟩,_,rfl,iteF ?_⟩
   refine⟨_,rfl,_,aF,true,rfl,.inl ⟨_,O.rL.ty ha,O.iLL⟩,_,rfl,iteT ?_⟩
   refine⟨_,rfl,a,aF,dx,_,_,rfl,ha,O.rL.cl,O.lt,eU _ _ _,_,rfl,a,aF,dx,_,_,rfl,ha,O.rL.cl,O.lp,(cM (by decide +kernel) _ _).trans (eU _ _ _),_,_,rfl,rfl,v,ts,p+1,M,H₀,rfl,g,hv,hl,fun y M' H' S G h=>q y M' H' S G ?_⟩
   have:bf (T.node (ts.drop p))=.node (ts.drop (p+1)):=by
    show T.node ((ts.drop p).drop 1)=_
    rw [List.drop_drop]
   rw [this]
   exact h
 ·refine⟨_,rfl,_,ao,true,rfl,.inl ⟨_,O.rF.ty ha,O.iFF⟩,_,rfl,iteT ?_⟩
  exact⟨_,rfl,a,ao,dx,_,_,rfl,ha,O.rF.cl,O.fb,(cM (by decide +kernel) _ _).trans (eU _ _ _),q _ M _ (Same.refl _) (.refl g) hz⟩
theorem Vy (O:Own K ao aF aJ aP aQ aM) (cI:mg "isinstance"=none)
  (jX:mg "Later"=some (.ref aF))
  (F:Fun K "unfronted" "unfronted" jq f fd):FnOk P w K mg base CX0 31 f fd ["row"] (UL K aF):=by
 refine okQ F Vd (fun vs H Q E h=>?_) (fun cdv A outer s H vs Q E hr h=>?_)
 ·obtain⟨x,t,rfl,_⟩:=h
  rfl
 obtain⟨x,t,rfl,hu,q⟩:=h
 refine⟨_,(au (bK (oO (cX jL rfl cI ji (aj (qv 0) (aj (aY (v:=.ref aF) rfl jX rfl) ak)))) (aB (aR (cW eF (bH (qv 0) rfl) (dI (bH (qv 0) rfl)) eN))) bD)
   (aB (aR (qv 0)))),?_⟩
 rcases hu with ht | ⟨a,dx,v,ts,p,rfl,ha,hv,hp,hl,rfl⟩
 ·obtain⟨b,ys,rfl,hb,_⟩:=rN ht
  refine⟨_,rfl,_,aF,false,rfl,.inr ⟨b,ys,rfl,hb,O.iTL⟩,_,rfl,iteF ?_⟩
  exact⟨_,rfl,q _ _ (Same.refl _) ht⟩
 ·refine⟨_,rfl,_,aF,true,rfl,.inl ⟨_,O.rL.ty ha,O.iLL⟩,_,rfl,iteT ?_⟩
  obtain⟨b,ys,rfl,hb,hys⟩:=cF.mp hv
  refine⟨_,rfl,a,aF,dx,_,_,rfl,ha,O.rL.cl,O.lt,eU _ _ _,_,rfl,a,aF,dx,_,_,rfl,ha,O.rL.cl,O.lp,(cM (by decide +kernel) _ _).trans (eU _ _ _),(p:Int),rfl,b,ys,rfl,hb,fun p1 H1 S1 h1=>q _ _ S1 (uW h1 ?_)⟩
  rw [Mi]
  exact (hys.drop p).mono (.of S1)
theorem Nz (O:Own K ao aF aJ aP aQ aM) (cI:mg "isinstance"=none)
  {lC:Addr}{lA:FuncData} (Br:Fun K "unfronted" "unfronted" jq lC lA) (Bq:FnOk P w K mg base CX0 31 lC lA ["row"] (UL K aF)) (Bc:Binds K lA ["row"] []) (Ag:mg "unfronted"=some (.ref lC))
  (fu:mg "Fronted"=some (.ref ao))
  (F:Fun K "parts_within" "parts_within" iB f fd):FnOk P w K mg base CX0 32 f fd ["row","most"] (U3 K ao aF aJ aP):=by
 refine okQ F j7 (fun vs H Q E h=>?_) (fun cdv A outer s H vs Q E hr h=>?_)
 ·obtain⟨x,t,M,H₀,m,rfl,_⟩:=h
  rfl
 obtain⟨x,t,M,H₀,m,rfl,g,hx,hz,q⟩:=h
 refine⟨_,(au (bA (i:=2) j7.nd rfl (Or.inl rfl) (oU (aj (qv 0) ak)))
   (au (bA (i:=3) j7.nd rfl (Or.inl rfl) aD)
   (au (ud PassesOwn.never (QW.pt (sG (CN (qv 2) (fun _=>rfl)) (pO (aV akc (qv 3) (qv 1) (nomark _))))) (au (bA (i:=4) j7.nd rfl (Or.inl rfl) (qy PySem.F.plainAttrs_list PySem.F.slot_list_pop PySem.F.type_list_pop sI (qv 2)))
   (aB (bK (oO (cX jL rfl cI ji (aj (qv 4) (aj (aY (v:=.ref ao) rfl fu rfl) ak)))) (au (cR (gA PySem.F.plainAttrs_list PySem.F.slot_list_append PySem.F.type_list_append cP (qv 2) (aj (bH (qv 4) rfl) ak)))
   (aB (cR (gA PySem.F.plainAttrs_list PySem.F.slot_list_append PySem.F.type_list_append cP (qv 2) (aj (bH (qv 4) rfl) ak))))) (au (acI (i:=3) j7.nd rfl (Or.inl rfl) aD Gw)
   (aB (cR (gA PySem.F.plainAttrs_list PySem.F.slot_list_extend PySem.F.type_list_extend Z8 (qv 2) (aj (aN Bq hr rfl Ag Br.kp Bc .nil pass0 (aj (qv 4) ak)) ak)))))))))
   (aB (aR (qv 3)))))),?_⟩
 refine⟨_,rfl,(by show 1≤sizeLine; decide),fun p hp=>?_⟩
 refine⟨WPW K M H x m t.parts p,⟨_,[x],[t],0,none,rfl,same_new hp _,upd_same,aX.one (hx.mono (Kt.new hp) fun _ _ z=>z),by rw [T.aq,T.aO]; lia,rfl⟩,?_⟩
 rintro μ σ H' ⟨ys,ts,c,o,rfl,S,hl,ha,hc,rfl⟩
 refine⟨_,rfl,!ys.isEmpty,.inl ⟨ys,SqL.of hl,rfl⟩,ite2 (fun hb=>?_) (fun hb=>?_)⟩
 ·refine⟨_,rfl,_,rfl,_,_,rfl,rfl,_,rfl,ite2 (fun hle=>?_) (fun hle=>?_)⟩
  ·have hne:ys≠[]:=by rintro rfl; exact absurd hb (by decide)
   obtain⟨u,ts0,y,rfl,hy,ha0,hu⟩:=adH ha hne
   have hyl:=ha0.length
   rw [List.length_reverse] at hyl
   have hpp:=T.aq u ts0
   have hlp:=T.cV ts0
   have hup:=T.iU u
   refine⟨fun σ' H'=>∃ m',m'<2 * T.aA (u::ts0) - (u::ts0).length∧WPW K M H x m t.parts p m' σ' H',fun _ _ h=>h,?_⟩
   refine⟨_,rfl,.inl ⟨rfl,_,SqL.of hl⟩,p,ys,y,rfl,rfl,hl,hy,?_⟩
   have k1:=Ki.lst (o:=.lst ys.dropLast) hl
   have g1:=g.grow S
   rcases hu.cases g1 with hu | ⟨a,dx,y1,z1,u1,ts1,rfl,ha1,rfl,hy1,hz1⟩
   ·have hu1:=hu.mono k1
    refine⟨_,rfl,y,ao,false,rfl,hu1.ah7 O,_,rfl,iteF ?_⟩
    refine⟨_,rfl,_,_,rfl,rfl,?_⟩
    refine⟨_,rfl,.inl ⟨rfl,_,SqL.of upd_same⟩,_,rfl,y,u,rfl,hu1,fun y2 H2 S2 t2=>?_⟩
    obtain⟨b2,zs2,rfl,hb2,hz2⟩:=rN t2
    have hzl:=hz2.length
    have hk:=T.cG u
    have hlk:=T.cV u.kids
    have h2:=S2 _ _ (upd_same (H:=H') (a:=p) (o:=.lst ys.dropLast))
    refine⟨p,b2,ys.dropLast,zs2,rfl,rfl,h2,hb2,fV (by lia),?_⟩
    refine⟨_,?_,ys.dropLast++zs2,u.kids.reverse++ts0,c+1,_,rfl,?_,upd_same,?_,?_,rfl⟩
    ·rw [T.bV,CZ,List.length_append,List.length_reverse,hpp]
     show _<2 * _ - (ts0.length+1)
     lia
    ·exact eX ((eX S hp).trans S2) hp
    ·rw [List.reverse_append,List.reverse_reverse]
     exact aX.append (gW (k1.kt.trans ((Kt.of S2).trans (Kt.lst h2))) ha0) (gW (Kt.lst h2) (Pa hz2))
    ·rw [T.bV,CZ]
     lia
   ·refine⟨_,rfl,_,ao,true,rfl,.inl ⟨_,O.rF.ty (k1.ins _ _ _ _ ha1),O.iFF⟩,_,rfl,iteT ?_⟩
    refine⟨_,rfl,.inl ⟨rfl,_,SqL.of upd_same⟩,_,rfl,a,ao,dx,_,_,rfl,k1.ins _ _ _ _ ha1,O.rF.cl,O.fi,eU _ _ _,p,_,_,rfl,rfl,upd_same,gj (by lia),?_⟩
    rw [kZ]
    have k2:=Ki.lst (o:=.lst (ys.dropLast++[y1])) hl
    refine⟨_,rfl,.inl ⟨rfl,_,SqL.of upd_same⟩,_,rfl,a,ao,dx,_,_,rfl,k2.ins _ _ _ _ ha1,O.rF.cl,O.fb,(cM (by decide +kernel) _ _).trans (eU _ _ _),p,_,_,rfl,rfl,upd_same,gj (by rw [List.length_append,List.length_singleton]; lia),?_⟩
    rw [kZ]
    have k3:=Ki.lst (o:=.lst (ys.dropLast++[y1]++[z1])) hl
    have e1:=T.aG (u1::ts1)
    have e2:=T.aq u1 ts1
    have e3:=T.aG ts1
    refine⟨_,?_,ys.dropLast++[y1]++[z1],.node ts1::u1::ts0,c,_,rfl,eX S hp,upd_same,?_,?_,rfl⟩
    ·rw [T.aq,T.aq,hpp]
     show _ - (ts0.length+1+1)<_ - (ts0.length+1)
     lia
    ·rw [List.reverse_cons,List.reverse_cons]
     exact aX.append (aX.append (gW k3.kt ha0) (aX.one (hy1.mono k3.kt fun _ _ z=>z))) (aX.one (hz1.mono k3.kt fun _ _ z=>z))
    ·rw [T.aq,T.aq]
     lia
  ·have hle':m<c:=by
    have:¬ ((c:Int)≤(m:Int)):=fun z=>hle (decide_eq_true z)
    lia
   exact⟨_,rfl,q c _ S (fun z=>by lia) (fun _=>hle')⟩
 ·have hys:ys=[]:=by
   cases ys with
   | nil=>rfl
   | cons _ _=>exact absurd rfl hb
  subst hys
  have hts:=all_nil ha
  subst hts
  rw [T.aO] at hc
  exact iteF ⟨_,rfl,q c _ S (fun _=>by lia) (fun _=>by lia)⟩
theorem aaY (O:Own K ao aF aJ aP aQ aM) (cI:mg "isinstance"=none) (cL:mg "tuple"=none)
  {lC:Addr}{lA:FuncData} (Br:Fun K "unfronted" "unfronted" jq lC lA) (Bq:FnOk P w K mg base CX0 31 lC lA ["row"] (UL K aF)) (Bc:Binds K lA ["row"] []) (Ag:mg "unfronted"=some (.ref lC))
  (fu:mg "Fronted"=some (.ref ao))
  (F:Fun K "as_tree" "as_tree" oM f fd):FnOk P w K mg base CX0 32 f fd ["row"] (U8 K ao aF aJ aP):=by
 refine okQ F su (fun vs H Q E h=>?_) (fun cdv A outer s H vs Q E hr h=>?_)
 ·obtain⟨x,t,M,H₀,rfl,_⟩:=h
  rfl
 obtain⟨x,t,M,H₀,rfl,g,hx,hz,q⟩:=h
 refine⟨_,(au (bA (i:=1) su.nd rfl (Or.inl rfl) (oU (aj (qv 0) ak)))
   (au (bA (i:=2) su.nd rfl (Or.inl rfl) (oU (aj (oU ak) ak)))
   (aB (ud PassesOwn.never (oO zN) (au (bA (i:=3) su.nd rfl (Or.inl rfl) (cB ix_list (qv 1) (zM uY aD) (fun _ _=>rfl)))
   (au (bK (oO (cX jL rfl cI ji (aj (qv 3) (aj (aY (v:=.ref ao) rfl fu rfl) ak)))) (au (Vq (bH (qv 3) rfl) (ahz (qv 1) (zM uY aD) set_list))
   (au (cR (gA PySem.F.plainAttrs_list PySem.F.slot_list_append PySem.F.type_list_append cP (qv 1) (aj (bH (qv 3) rfl) ak)))
   (au (cR (gA PySem.F.plainAttrs_list PySem.F.slot_list_append PySem.F.type_list_append cP (qv 2) (aj (oU ak) ak)))
   (aB Yr)))) bD)
   (au (cR (qy PySem.F.plainAttrs_list PySem.F.slot_list_pop PySem.F.type_list_pop sI (qv 1)))
   (au (bA (i:=4) su.nd rfl (Or.inl rfl) (aW bh (iT fK rfl cL lB (aj (qy PySem.F.plainAttrs_list PySem.F.slot_list_pop PySem.F.type_list_pop sI (qv 2)) ak)) (aN Bq hr rfl Ag Br.kp Bc .nil pass0 (aj (qv 3) ak))))
   (au (bK (Vo (CN (qv 1) (fun _=>rfl))) (aB (aR (qv 4))) bD)
   (aB (cR (gA PySem.F.plainAttrs_list PySem.F.slot_list_append PySem.F.type_list_append cP (cB ix_list (qv 2) (zM uY aD) (fun _ _=>rfl)) (aj (qv 4) ak))))))))))))),?_⟩
 refine⟨_,rfl,(by show 1≤sizeLine; decide),fun pa ga=>?_⟩
 refine⟨Nat.zero_le _,fun pq gq=>⟨(by show 1≤sizeLine; decide),fun pt gt=>?_⟩⟩
 have Sa:=same_new ga (.lst [x])
 have Sq:=same_new gq (.lst [])
 have St:=same_new gt (.lst [V.ref pq])
 have n1:pa≠pq:=ne_of_none (h:=upd_same) gq
 have hpa:upd (upd H pa (.lst [x])) pq (.lst []) pa=some (.lst [x]):=by rw [upd_ne n1,upd_same]
 have n2:pa≠pt:=ne_of_none hpa gt
 have n3:pq≠pt:=ne_of_none (h:=upd_same) gt
 have a0:AsT K H (upd (upd (upd H pa (.lst [x])) pq (.lst [])) pt (.lst [V.ref pq])) pt pa [V.ref pq] [[]] [x]:=by
  have hq0:H pq=none:=Sa.free gq
  have ht0:H pt=none:=(Sa.trans Sq).free gt
  refine⟨⟨ht0,(Sa.trans Sq).trans St,upd_same,aX.one ⟨pq,[],rfl,hq0,by rw [upd_ne n3,upd_same],bJ.mpr rfl⟩,?_⟩,ga,by rw [upd_ne n2]; exact hpa,?_⟩
  ·simp [Ne.symm n3]
  ·simp [n1,n2]
 have S0:=(Sa.trans Sq).trans St
 generalize upd (upd (upd H pa (.lst [x])) pq (.lst [])) pt (.lst [V.ref pq])=Hs at a0 S0
 refine⟨fun μ σ H'=>∃ (ys zs:List V) (st:List (List T)) (as:List T) (o3 o4:Option V),σ=[some x,some (.ref pa),some (.ref pt),o3,o4]∧AsT K H H' pt pa ys st zs∧aX (RV K M H') as.reverse zs∧as≠[]∧st.length=as.length∧Cq st as=t∧T.aA as+(st.map List.length).sum≤t.parts∧μ=2 * T.aA as - as.length,⟨_,[.ref pq],[x],[[]],[t],none,none,rfl,a0,aX.one (hx.mono (.of S0) fun _ _ z=>z),by simp,rfl,by show T.node ([]++t.kids)=t; cases t; rfl,by rw [T.aq,T.aO]; show _+0≤_; lia,rfl⟩,?_⟩
 rintro μ σ H1 ⟨ys,zs,st,as,o3,o4,rfl,A1,ha,hne,hlen,hval,hsum,rfl⟩
 refine⟨_,rfl,iteT ?_⟩
 have aog:zs≠[]:=by
  rintro rfl
  exact hne (all_nil ha)
 obtain⟨u,as0,zs0,y,rfl,rfl,ha0,hu⟩:=mX ha aog
 have hzl:=ha0.length
 rw [List.length_reverse] at hzl
 have hpp:=T.aq u as0
 have hlp:=T.cV as0
 have hup:=T.iU u
 have g1:=g.grow A1.rows.same
 refine⟨fun σ' H'=>∃ m',m'<2 * T.aA (u::as0) - (u::as0).length∧∃ (ys zs:List V) (st:List (List T)) (as:List T) (o3 o4:Option V),σ'=[some x,some (.ref pa),some (.ref pt),o3,o4]∧AsT K H H' pt pa ys st zs∧aX (RV K M H') as.reverse zs∧as≠[]∧st.length=as.length∧Cq st as=t∧T.aA as+(st.map List.length).sum≤t.parts∧m'=2 * T.aA as - as.length,fun _ _ h=>h,?_⟩
 refine⟨_,rfl,1,rfl,pa,_,_,_,rfl,rfl,SqL.of A1.at_,Cg,?_⟩
 rcases hu.cases g1 with hu | ⟨a,dx,y1,z1,u1,ts1,rfl,ha1,rfl,hy1,hz1⟩
 ·refine⟨_,rfl,y,ao,false,rfl,hu.ah7 O,_,rfl,iteF ?_⟩
  have hk:=T.cG u
  refine⟨_,rfl,.inl ⟨rfl,_,SqL.of A1.at_⟩,pa,_,_,rfl,rfl,A1.at_,mJ _ _,?_⟩
  rw [mK]
  have k1:=Ki.lst (o:=.lst zs0) A1.at_
  have A2:AsT K H (upd H1 pa (.lst zs0)) pt pa ys st zs0:=A1.place
  generalize upd H1 pa (.lst zs0)=H2 at k1 A2
  have hu2:=hu.mono k1
  have ha2:=gW k1.kt ha0
  obtain⟨l,st0,rfl⟩:∃ l st0,st=l::st0:=by
   cases st with
   | nil=>exact absurd hlen (by simp)
   | cons l st0=>exact⟨l,st0,rfl⟩
  obtain⟨ys0,b,xs,rfl,nRb,hb,hxs,A3⟩:=A2.shut
  refine⟨_,rfl,.inl ⟨rfl,_,SqL.of A2.rows.at_⟩,pt,_,_,rfl,rfl,A2.rows.at_,mJ _ _,?_⟩
  rw [mK]
  have k3:=Ki.lst (o:=.lst ys0) A2.rows.at_
  have hb3:upd H2 pt (.lst ys0) b=some (.lst xs):=by rw [upd_ne (Ne.symm nRb)]; exact hb
  have aip:=hxs.mono k3.kt
  generalize upd H2 pt (.lst ys0)=H3 at k3 A3 hb3 aip
  refine⟨b,xs,rfl,.inl ⟨SqL.of hb3,fun p4 g4=>?_⟩⟩
  obtain⟨S4,t4⟩:=bN (K:=K) g4 aip
  have hu4:=(hu2.mono k3).mono (Ki.of S4)
  have hsl:(List.map List.length (l::st0)).sum=l.length+(List.map List.length st0).sum:=rfl
  refine⟨_,rfl,y,u,rfl,hu4,fun y5 H5 S5 t5=>?_⟩
  have t5':TR K H5 (.node u.kids) y5:=mj t5
  have hlk:=T.cV u.kids
  refine cH (t4.mono (.of S5)) t5' (fV (by lia)) (fun z6 H6 S6 t6=>?_)
  have S36:=S4.trans (S5.trans S6)
  have A6:=A3.grow S36
  refine⟨_,rfl,!zs0.isEmpty,.inl ⟨zs0,SqL.of A6.at_,rfl⟩,ite2 (fun he=>?_) (fun he=>?_)⟩
  ·have hz0:zs0=[]:=by
    cases zs0 with
    | nil=>rfl
    | cons _ _=>exact absurd he (by simp)
   subst hz0
   have:=all_nil ha0
   subst this
   have hs0:st0=[]:=by
    have:st0.length+1=0+1:=hlen
    exact List.length_eq_zero_iff.mp (by lia)
   subst hs0
   refine⟨_,rfl,q _ _ A6.rows.same ?_⟩
   rw [← hval]
   exact t6
  ·have hz0:zs0≠[]:=by rintro rfl; exact he rfl
   have ae1:as0≠[]:=by
    rintro rfl
    cases ha0
    exact hz0 rfl
   obtain⟨l',st1,rfl⟩:∃ l' st1,st0=l'::st1:=by
    cases st0 with
    | nil =>
     have h1:0+1=as0.length+1:=hlen
     exact absurd (List.length_eq_zero_iff.mp (by lia)) ae1
    | cons l' st1=>exact⟨l',st1,rfl⟩
   obtain⟨ys1,c,ws,rfl,hc,hwl,A7⟩:=A6.add t6
   have aqw:(List.map List.length (l'::st1)).sum=l'.length+(List.map List.length st1).sum:=rfl
   refine⟨_,rfl,1,rfl,pt,_,_,_,rfl,rfl,SqL.of A6.rows.at_,Cg,.inl ⟨rfl,_,SqL.of hc⟩,_,rfl,c,_,_,rfl,rfl,hc,gj (by lia),?_⟩
   refine⟨_,?_,_,zs0,_,as0,_,_,rfl,A7,?_,ae1,?_,?_,?_,rfl⟩
   ·rw [hpp]
    show _<_ - (as0.length+1)
    lia
   ·exact gW (k3.kt.trans ((Kt.of S36).trans (Kt.lst hc))) ha2
   ·have h1:st1.length+1+1=as0.length+1:=hlen
    show st1.length+1=as0.length
    lia
   ·rw [← hval]
    cases as0 with
    | nil=>exact absurd rfl ae1
    | cons _ _=>rw [Cq]
   ·show _+((l'++[_]).length+(List.map List.length st1).sum)≤_
    rw [List.length_append,List.length_singleton]
    lia
 ·have e1:=T.aG (u1::ts1)
  have e2:=T.aq u1 ts1
  have e3:=T.aG ts1
  refine⟨_,rfl,_,ao,true,rfl,.inl ⟨_,O.rF.ty ha1,O.iFF⟩,_,rfl,iteT ?_⟩
  refine⟨_,rfl,a,ao,dx,_,_,rfl,ha1,O.rF.cl,O.fb,(cM (by decide +kernel) _ _).trans (eU _ _ _),_,rfl,1,rfl,pa,_,-1,_,rfl,rfl,A1.at_,agN _ _,?_⟩
  rw [aeh]
  have k1:=Ki.lst (o:=.lst (zs0++[z1])) A1.at_
  have A2:AsT K H (upd H1 pa (.lst (zs0++[z1]))) pt pa ys st (zs0++[z1]):=A1.place
  generalize upd H1 pa (.lst (zs0++[z1]))=H2 at k1 A2
  refine⟨_,rfl,.inl ⟨rfl,_,SqL.of A2.at_⟩,_,rfl,a,ao,dx,_,_,rfl,k1.ins _ _ _ _ ha1,O.rF.cl,O.fi,eU _ _ _,pa,_,_,rfl,rfl,A2.at_,gj (by rw [List.length_append,List.length_singleton]; lia),?_⟩
  have k2:=Ki.lst (o:=.lst (zs0++[z1]++[y1])) A2.at_
  have A3:AsT K H (upd H2 pa (.lst (zs0++[z1]++[y1]))) pt pa ys st (zs0++[z1]++[y1]):=A2.place
  generalize upd H2 pa (.lst (zs0++[z1]++[y1]))=H3 at k2 A3
  refine⟨_,rfl,.inl ⟨rfl,_,SqL.of A3.rows.at_⟩,Nat.zero_le _,fun pn gn=>⟨pt,_,_,rfl,rfl,same_new gn _ _ _ A3.rows.at_,?_,?_⟩⟩
  ·have hyl:=A3.rows.rows.length
   rw [List.length_reverse] at hyl
   exact gj (by
    have h1:st.length=as0.length+1:=hlen
    lia)
  ·have A4:=A3.enter gn
   have k4:Kt H3 (upd (upd H3 pn (.lst [])) pt (.lst (ys++[.ref pn]))):=(Kt.new gn).trans (Kt.lst (same_new gn _ _ _ A3.rows.at_))
   have k:=k1.kt.trans (k2.kt.trans k4)
   obtain⟨l,st0,rfl⟩:∃ l st0,st=l::st0:=by
    cases st with
    | nil=>exact absurd hlen (by simp)
    | cons l st0=>exact⟨l,st0,rfl⟩
   refine⟨_,?_,_,_,_,u1::.node ts1::as0,_,_,rfl,A4,?_,by simp,?_,?_,?_,rfl⟩
   ·rw [T.aq,T.aq,hpp]
    show _ - (as0.length+1+1)<_ - (as0.length+1)
    lia
   ·rw [List.reverse_cons,List.reverse_cons]
    exact aX.append (aX.append (gW k ha0) (aX.one (hz1.mono k fun _ _ z=>z))) (aX.one (hy1.mono k fun _ _ z=>z))
   ·have h1:(l::st0).length=as0.length+1:=hlen
    show (l::st0).length+1=as0.length+1+1
    rw [h1]
   ·rw [ad7]
    exact hval
   ·have e9:(List.map List.length ([]::l::st0)).sum=(List.map List.length (l::st0)).sum:=by simp
    rw [T.aq,T.aq,e9]
    lia
end
section
variable {P:Program}{w:World}{K:PySem.W.Frag}{mg:Str→Option Value}{base:Heap}{f:Addr}{fd:FuncData}{ao aF aJ aP aQ aM:Addr}
theorem Yv (O:Own K ao aF aJ aP aQ aM) {j6:Value} (m_:mg "FORK"=some j6) (kh:RelV (.int 7) j6) {mC:Value} (rW:mg "FORK_NO"=some mC) (mF:RelV (.int 8) mC) {j5:Value} (pR:mg "FORK_YES"=some j5) (j_:RelV (.int 7) j5) {eE:Value} (fU:mg "WHILE"=some eE) (eG:RelV (.int 8) eE) {nY:Value} (yD:mg "WHILE_PAST"=some nY) (oN:RelV (.int 10) nY) {iK:Value} (lR:mg "WHILE_INTO"=some iK) (iR:RelV (.int 9) iK) {j4:Value} (pQ:mg "NAMELESS"=some j4) (j9:RelV (.int 9) j4) {u6:Value} (Gm:mg "NO_WORD"=some u6) (vo:RelV (.int 11) u6)
  (F:Fun K "place_of" "place_of" j8 f fd):FnOk P w K mg base CX0 31 f fd ["sort","top"] (ZD K ao aF aJ aP):=by
 refine okQ F Yo (fun vs H Q E h=>?_) (fun cdv A outer s H vs Q E hr h=>?_)
 ·obtain⟨k,x,t,M,H₀,rfl,_⟩:=h
  rfl
 obtain⟨k,x,t,M,H₀,rfl,g,hx,hd,q⟩:=h
 have hE:=hr.un
 have hE:(A.deeper (envOfC "place_of" (defScope j8) s.heap.objs.size f cdv)).units+401<cLine:=by lia
 refine⟨_,(au (bK (aV op_eq (qv 0) (aY (v:=.int 7) rfl m_ kh) (nomark _)) (aB (aR (qQ (aV (Vw hE) (qv 1) (aU ak) (nomark _)) (aY (v:=.int 8) rfl rW mF) (aY (v:=.int 7) rfl pR j_)))) bD)
   (au (bK (aV op_eq (qv 0) (aY (v:=.int 8) rfl fU eG) (nomark _)) (aB (aR (qQ (aV (Vw hE) (qv 1) (aU ak) (nomark _)) (aY (v:=.int 10) rfl yD oN) (aY (v:=.int 9) rfl lR iR)))) bD)
   (aB (aR (qQ (aV op_eq (qv 0) (aY (v:=.int 9) rfl pQ j9) (nomark _)) (aY (v:=.int 11) rfl Gm vo) (qv 0)))))),?_⟩
 refine⟨_,rfl,rfl,_,rfl,ite2 (fun h7=>?_) (fun h7=>?_)⟩
 ·have h7:k=7:=by have:=V.int.inj (of_decide_eq_true h7); lia
  refine⟨_,rfl,Nat.zero_le _,fun p gp=>aad O g hx (by lia) gp ⟨_,rfl,ite2 (fun he=>?_) (fun he=>?_)⟩⟩
  ·have:=q _ (same_new gp (.tup []))
   rw [sH,if_pos h7,if_pos (of_decide_eq_true he)] at this
   exact this
  ·have:=q _ (same_new gp (.tup []))
   rw [sH,if_pos h7,if_neg (fun z=>he (decide_eq_true z))] at this
   exact this
 have h7:¬ k=7:=fun z=>h7 (decide_eq_true (by rw [z]; rfl))
 refine⟨_,rfl,rfl,_,rfl,ite2 (fun h8=>?_) (fun h8=>?_)⟩
 ·have h8:k=8:=by have:=V.int.inj (of_decide_eq_true h8); lia
  refine⟨_,rfl,Nat.zero_le _,fun p gp=>aad O g hx (by lia) gp ⟨_,rfl,ite2 (fun he=>?_) (fun he=>?_)⟩⟩
  ·have:=q _ (same_new gp (.tup []))
   rw [sH,if_neg h7,if_pos h8,if_pos (of_decide_eq_true he)] at this
   exact this
  ·have:=q _ (same_new gp (.tup []))
   rw [sH,if_neg h7,if_pos h8,if_neg (fun z=>he (decide_eq_true z))] at this
   exact this
 have h8:¬ k=8:=fun z=>h8 (decide_eq_true (by rw [z]; rfl))
 refine⟨_,rfl,rfl,_,rfl,ite2 (fun h9=>?_) (fun h9=>?_)⟩
 ·have h9:k=9:=by have:=V.int.inj (of_decide_eq_true h9); lia
  have:=q _ (Same.refl H)
  rw [sH,if_neg h7,if_neg h8,if_pos h9] at this
  exact this
 ·have h9:¬ k=9:=fun z=>h9 (decide_eq_true (by rw [z]; rfl))
  have:=q _ (Same.refl H)
  rw [sH,if_neg h7,if_neg h8,if_neg h9] at this
  exact⟨_,rfl,this⟩
theorem KC (O:Own K ao aF aJ aP aQ aM) {j6:Value} (m_:mg "FORK"=some j6) (kh:RelV (.int 7) j6) {eE:Value} (fU:mg "WHILE"=some eE) (eG:RelV (.int 8) eE)
  {Hw:Addr}{GX:FuncData} (adV:Fun K "sort_of" "sort_of" oE Hw GX) (adM:FnOk P w K mg base CX0 33 Hw GX ["word"] (Zz K)) (adz:Binds K GX ["word"] []) (ac6:mg "sort_of"=some (.ref Hw))
  {Hz:Addr}{G_:FuncData} (adY:Fun K "load_of" "load_of" oH Hz G_) (adP:FnOk P w K mg base CX0 33 Hz G_ ["word"] (Fq K)) (adC:Binds K G_ ["word"] []) (ac9:mg "load_of"=some (.ref Hz))
  {lY:Addr}{lW:FuncData} (Ck:Fun K "first" "first" nq lY lW) (Cj:FnOk P w K mg base CX0 33 lY lW ["tree"] (Ih K)) (Ce:Binds K lW ["tree"] []) (BR:mg "first"=some (.ref lY))
  {zf:Addr}{yM:FuncData} (Yh:Fun K "rest" "rest" vh zf yM) (X8:FnOk P w K mg base CX0 33 zf yM ["tree"] (Fq K)) (Xr:Binds K yM ["tree"] []) (V6:mg "rest"=some (.ref zf))
  (vC:mg "Text"=some (.ref aP))
  {d7:Addr}{kO:FuncData} (rY:Mk K aP d7) (kY:FnOk P w K mg base CX0 32 d7 kO ["self","tree"] (J4 aP)) (fQ:Binds K kO ["self","tree"] [])
  (F:Fun K "__init__" "Word.__init__" iY f fd):FnOk P w K mg base CX0 34 f fd ["self","tree"] (UJ K ao aF aJ aP):=by
 refine okQ F Ka (fun vs H Q E h=>?_) (fun cdv A outer s H vs Q E hr h=>?_)
 ·obtain⟨o,dx,x,w',M,H₀,rfl,_⟩:=h
  rfl
 obtain⟨o,dx,x,w',M,H₀,rfl,g,hm,ho,hx,hd,q⟩:=h
 refine⟨_,(au (fM (qv 0) (aN adM hr rfl ac6 adV.kp adz .nil pass0 (aj (qv 1) ak)) rfl)
   (au (fM (qv 0) (aN adP hr rfl ac9 adY.kp adC .nil pass0 (aj (qv 1) ak)) rfl)
   (au (fM (qv 0) yh rfl)
   (au (fM (qv 0) yh rfl)
   (au (fM (qv 0) yh rfl)
   (au (fM (qv 0) yh rfl)
   (au (bK (aV op_eq (bH (qv 0) rfl) (aY (v:=.int 7) rfl m_ kh) (nomark _)) (au (fM (qv 0) (jV rY kY hr rfl vC fQ .nil pass0 (aj (aN Cj hr rfl BR Ck.kp Ce .nil pass0 (aj (bH (qv 0) rfl) ak)) ak)) rfl)
   (aB (fM (qv 0) (jV rY kY hr rfl vC fQ .nil pass0 (aj (aN X8 hr rfl V6 Yh.kp Xr .nil pass0 (aj (bH (qv 0) rfl) ak)) ak)) rfl))) bD)
   (aB (bK (aV op_eq (bH (qv 0) rfl) (aY (v:=.int 8) rfl fU eG) (nomark _)) (aB (fM (qv 0) (jV rY kY hr rfl vC fQ .nil pass0 (aj (bH (qv 0) rfl) ak)) rfl)) bD))))))))),?_⟩
 refine⟨_,rfl,x,w',rfl,hx,hd,fun H1 S1=>⟨_,rfl,o,aJ,dx,[],rfl,S1 _ _ ho,O.gB,O.wk,by show 0<1000; decide,?_⟩⟩
 rw [pd1]
 have kt {u:HO}{Ha:Hp}{fs:List (Str×V)} (h:Ha o=some (.ins aJ dx fs)):Kt Ha (upd Ha o u):=Kt.ins h
 have G1:Go K ao aF aJ aP (fun a=>a=o) M M H₀ H (upd H1 o (.ins aJ dx (d1 (.int (aH w':Nat))))):=Go.oX (.grow g S1) hm rfl (kt (S1 _ _ ho))
 have O1:∀ c u,H c=some u→c≠o→upd H1 o (.ins aJ dx (d1 (.int (aH w':Nat)))) c=some u:=fun c u h n=>by rw [upd_ne n]; exact S1 _ _ h
 have h1:upd H1 o (.ins aJ dx (d1 (.int (aH w':Nat)))) o=some (.ins aJ dx (d1 (.int (aH w':Nat)))):=upd_same
 generalize upd H1 o (.ins aJ dx (d1 (.int (aH w':Nat))))=H2 at G1 O1 h1
 refine⟨_,rfl,x,w',rfl,hx.mono G1.kt,fun v H3 S3 tv=>⟨_,rfl,o,aJ,dx,_,rfl,S3 _ _ h1,O.gB,O.wl,by show 1<1000; decide,?_⟩⟩
 rw [pd2]
 have G3:Go K ao aF aJ aP (fun a=>a=o) M M H₀ H (upd H3 o (.ins aJ dx (d2 (.int (aH w':Nat)) v))):=Go.oX (G1.trans (.grow G1.gh S3)) hm rfl (kt (S3 _ _ h1))
 have O3:∀ c u,H c=some u→c≠o→upd H3 o (.ins aJ dx (d2 (.int (aH w':Nat)) v)) c=some u:=fun c u h n=>by rw [upd_ne n]; exact S3 _ _ (O1 c u h n)
 have tv3:TR K (upd H3 o (.ins aJ dx (d2 (.int (aH w':Nat)) v))) (bf w') v:=tv.mono (kt (S3 _ _ h1))
 have h3:upd H3 o (.ins aJ dx (d2 (.int (aH w':Nat)) v)) o=some (.ins aJ dx (d2 (.int (aH w':Nat)) v)):=upd_same
 generalize upd H3 o (.ins aJ dx (d2 (.int (aH w':Nat)) v))=H4 at G3 O3 tv3 h3
 refine⟨_,rfl,o,aJ,dx,_,rfl,h3,O.gB,O.wy,by show 2<1000; decide,?_⟩
 rw [pd3]
 refine⟨_,rfl,o,aJ,dx,_,rfl,upd_same,O.gB,O.wn,by show 3<1000; decide,?_⟩
 rw [pd4,kZ]
 refine⟨_,rfl,o,aJ,dx,_,rfl,upd_same,O.gB,O.wb,by show 4<1000; decide,?_⟩
 rw [pd5,kZ]
 refine⟨_,rfl,o,aJ,dx,_,rfl,upd_same,O.gB,O.ws,by show 5<1000; decide,?_⟩
 rw [pd6,kZ]
 have G5:Go K ao aF aJ aP (fun a=>a=o) M M H₀ H (upd H4 o (.ins aJ dx (fD (aH w') v .non .non .non .non))):=Go.oX G3 hm rfl (kt h3)
 have O5:∀ c u,H c=some u→c≠o→upd H4 o (.ins aJ dx (fD (aH w') v .non .non .non .non)) c=some u:=fun c u h n=>by rw [upd_ne n]; exact O3 c u h n
 have tv5:TR K (upd H4 o (.ins aJ dx (fD (aH w') v .non .non .non .non))) (bf w') v:=tv3.mono (kt h3)
 have h5:upd H4 o (.ins aJ dx (fD (aH w') v .non .non .non .non)) o=some (.ins aJ dx (fD (aH w') v .non .non .non .non)):=upd_same
 generalize upd H4 o (.ins aJ dx (fD (aH w') v .non .non .non .non))=H5 at G5 O5 tv5 h5
 have hdl:(bf w').deep≤400:=Nat.le_trans (adn w') hd
 dsimp only
 refine abm (fun σ' H'=>σ'=[some (.ref o),some x]∧∃ M' y n,Go K ao aF aJ aP (fun a=>a=o) M M' H₀ H H'∧(∀ c u,H c=some u→c≠o→H' c=some u)∧H' o=some (.ins aJ dx (fD (aH w') v y n .non .non))∧TR K H' (bf w') v∧W7 M' w' y n) (fun σ' H6 h6=>?_) (fun A' B' hA hB=>⟨_,rfl,o,aJ,dx,_,_,rfl,h5,O.gB,O.wk,ldK,rfl,_,rfl,ite2 (fun h=>hA _ fun N hN=>?_) (fun h=>hB _ ⟨rfl,M,.non,.non,G5,O5,h5,tv5,fun z=>absurd (decide_eq_true (by rw [z]; rfl)) h⟩)⟩)
 rotate_left
 ·refine⟨_,rfl,o,aJ,dx,_,_,rfl,h5,O.gB,O.wl,ldL,v,bf w',rfl,tv5,hdl,fun y1 H6 S6 t6=>fun a da ha hda ne=>⟨a,da,y1,rfl,i_,fun W hW=>⟨rfl,_,rfl,o,aJ,dx,fD (aH w') v .non .non .non .non,rfl,?_,O.gB,O.wy,by show 6<1000; decide,?_⟩⟩⟩
  ·obtain⟨_,S7,_⟩:=Go.newText (X:=fun a=>a=o) (G5.trans (.grow G5.gh S6)).gh t6 ha hda ne hW
   exact S7 _ _ (S6 _ _ h5)
  obtain⟨G7,S7,tx7⟩:=Go.newText (X:=fun a=>a=o) (G5.trans (.grow G5.gh S6)).gh t6 ha hda ne hW
  have h7:=S7 _ _ (S6 _ _ h5)
  have tv7:=tv5.mono (.of (S6.trans S7))
  have O7:∀ c u,H c=some u→c≠o→_:=fun c u h n=>S7 _ _ (S6 _ _ (O5 c u h n))
  have G7':=(G5.trans (.grow G5.gh S6)).trans G7
  generalize setM (setM M W (.words (ats (bf w').kids 0))) a (.text (ats (bf w').kids 0) W)=M7 at G7' tx7
  generalize upd (upd (mkO H6 a da aP []) W (.lst [])) a (.ins aP da (fT y1 W))=H7 at S7 h7 tv7 O7 G7'
  rw [pdY]
  have hm7:=G7'.ext _ _ hm
  have G8:=G7'.oX (u:=.ins aJ dx (fD (aH w') v (.ref a) .non .non .non)) hm7 rfl (kt h7)
  have O8:∀ c u,H c=some u→c≠o→upd H7 o (.ins aJ dx (fD (aH w') v (.ref a) .non .non .non)) c=some u:=fun c u h n=>by rw [upd_ne n]; exact O7 c u h n
  have tv8:=tv7.mono (kt (u:=.ins aJ dx (fD (aH w') v (.ref a) .non .non .non)) h7)
  have h8:upd H7 o (.ins aJ dx (fD (aH w') v (.ref a) .non .non .non)) o=some (.ins aJ dx (fD (aH w') v (.ref a) .non .non .non)):=upd_same
  generalize upd H7 o (.ins aJ dx (fD (aH w') v (.ref a) .non .non .non))=H8 at G8 O8 tv8 h8
  refine⟨_,rfl,o,aJ,dx,_,_,rfl,h8,O.gB,O.wl,ldL,v,bf w',rfl,tv8,fun y9 H9 S9 t9=>fun c dc hc hdc ne9=>⟨c,dc,y9,rfl,i_,fun W9 hW9=>⟨rfl,_,rfl,o,aJ,dx,fD (aH w') v (.ref a) .non .non .non,rfl,?_,O.gB,O.wn,by show 6<1000; decide,?_⟩⟩⟩
  ·obtain⟨_,S10,_⟩:=Go.newText (X:=fun a=>a=o) (G8.trans (.grow G8.gh S9)).gh t9 hc hdc ne9 hW9
   exact S10 _ _ (S9 _ _ h8)
  obtain⟨G10,S10,akp⟩:=Go.newText (X:=fun a=>a=o) (G8.trans (.grow G8.gh S9)).gh t9 hc hdc ne9 hW9
  have h10:=S10 _ _ (S9 _ _ h8)
  have akq:=tv8.mono (.of (S9.trans S10))
  have ajA:=(G8.trans (.grow G8.gh S9)).trans G10
  have ako:=tx7.ext G10
  rw [pdN]
  refine hN _ _ ⟨rfl,_,.ref a,.ref c,ajA.oX (ajA.ext _ _ hm) rfl (kt h10),fun c u h n=>by rw [upd_ne n]; exact S10 _ _ (S9 _ _ (O8 c u h n)),upd_same,akq.mono (kt h10),fun _=>⟨a,c,rfl,rfl,ako,akp⟩⟩
 obtain⟨rfl,M6,y6,n6,G6,O6,h6,tv6,w7⟩:=h6
 refine⟨_,rfl,o,aJ,dx,_,_,rfl,h6,O.gB,O.wk,ldK,rfl,_,rfl,ite2 (fun h=>?_) (fun h=>?_)⟩
 ·refine⟨_,rfl,o,aJ,dx,_,_,rfl,h6,O.gB,O.wl,ldL,fun a da ha hda ne=>⟨a,da,v,rfl,i_,fun W hW=>⟨rfl,_,rfl,o,aJ,dx,fD (aH w') v y6 n6 .non .non,rfl,?_,O.gB,O.wb,by show 6<1000; decide,?_⟩⟩⟩
  ·obtain⟨_,S7,_⟩:=Go.newText (X:=fun a=>a=o) G6.gh tv6 ha hda ne hW
   exact S7 _ _ h6
  obtain⟨G7,S7,tx7⟩:=Go.newText (X:=fun a=>a=o) G6.gh tv6 ha hda ne hW
  have h7:=S7 _ _ h6
  have G7':=G6.trans G7
  rw [pdB]
  exact q _ _ v y6 n6 (.ref a) (G7'.oX (G7'.ext _ _ hm) rfl (kt h7)) (fun c u h n=>by rw [upd_ne n]; exact S7 _ _ (O6 c u h n)) upd_same ((tv6.mono (.of S7)).mono (kt h7)) (fun z=>by
   obtain⟨ay,an,e1,e2,e3,e4⟩:=w7 z
   exact⟨ay,an,e1,e2,e3.ext G7,e4.ext G7⟩) (fun _=>⟨a,rfl,tx7⟩)
 ·exact q M6 H6 v y6 n6 .non G6 O6 h6 tv6 w7 (fun z=>absurd (decide_eq_true (by rw [z]; rfl)) h)
theorem Gf (O:Own K ao aF aJ aP aQ aM)
  {Rw:Addr}{Rj:FuncData} (ag8:Fun K "parts" "parts" tZ Rw Rj) (ag6:FnOk P w K mg base CX0 32 Rw Rj ["tree"] (U4 K)) (ag2:Binds K Rj ["tree"] []) (agC:mg "parts"=some (.ref Rw))
  (F:Fun K "body_parts" "Word.body_parts" gU f fd):FnOk P w K mg base CX0 33 f fd ["self"] (ZJ K ao aF aJ aP):=by
 refine okQ F Fz (fun vs H Q E h=>?_) (fun cdv A outer s H vs Q E hr h=>?_)
 ·obtain⟨b,w',M,H₀,rfl,_⟩:=h
  rfl
 obtain⟨b,w',M,H₀,rfl,g,hm,hz,q⟩:=h
 refine⟨_,(au (bK (aV acQ (bH (qv 0) rfl) yh (nomark _)) (aB (fM (qv 0) (aN ag6 hr rfl agC ag8.kp ag2 .nil pass0 (aj (bH (qv 0) rfl) ak)) rfl)) bD)
   (aB (aR (bH (qv 0) rfl)))),?_⟩
 obtain⟨dx,v,y,n,bd,sz,hb,tv,c7,c8,hs⟩:=g.ok b _ hm
 have fin:∀ H' sz',Go K ao aF aJ aP (fun _=>False) M M H₀ H H'→H' b=some (.ins aJ dx (fD (aH w') v y n bd sz'))→sz'=.int ((bf w').parts:Nat)→tRet (tFld K (tVar 0) "size") { nx:=fun x H'=>Q .non H',rt:=Q,bk:=fun _ _=>False,ct:=fun _ _=>False } [some (.ref b)] H':=fun H' sz' G hb' e=>by
  subst e
  exact⟨_,rfl,b,aJ,dx,_,_,rfl,hb',O.gB,O.ws,ldS,q _ G⟩
 refine⟨_,rfl,b,aJ,dx,_,_,rfl,hb,O.gB,O.ws,ldS,rfl,_,rfl,ite2 (fun h=>?_) (fun h=>?_)⟩
 ·refine⟨_,rfl,b,aJ,dx,_,_,rfl,hb,O.gB,O.wl,ldL,v,bf w',rfl,tv,hz,fun H1 S1=>⟨_,rfl,b,aJ,dx,_,rfl,S1 _ _ hb,O.gB,O.ws,by show 6<1000; decide,?_⟩⟩
  rw [pdS]
  have k1:Kt H1 (upd H1 b (.ins aJ dx (fD (aH w') v y n bd (.int ((bf w').parts:Nat))))):=Kt.ins (S1 _ _ hb)
  have g1:=g.grow S1
  have g2:=g1.put hm k1 ⟨dx,v,y,n,bd,_,upd_same,(tv.mono (.of S1)).mono k1,c7,c8,.inr rfl⟩
  refine fin _ _ ⟨fun _ _ z=>z,fun a ha _=>?_,(Kt.of S1).trans k1,g2,fun W t ws h1 h2=>⟨ws,?_,Nat.le_refl _⟩⟩ upd_same rfl
  ·have:a≠b:=fun z=>by rw [z,hm] at ha; cases ha
   rw [upd_ne this]
   obtain⟨u,e⟩:=g.has a _ ha
   exact (S1 _ _ e).trans e.symm
  ·have:W≠b:=fun z=>by rw [z,hm] at h1; cases h1
   rw [upd_ne this]
   exact S1 _ _ h2
 ·rcases hs with hs | hs
  ·exact absurd (by rw [hs]; rfl) h
  ·exact fin _ _ (.refl g) hb hs
theorem NK (O:Own K ao aF aJ aP aQ aM) (dZ:mg "len"=none)
  (V_:mg "Word"=some (.ref aJ))
  {jc:Addr}{zQ:FuncData} (RJ:Mk K aJ jc) (Ol:FnOk P w K mg base CX0 34 jc zQ ["self","tree"] (UJ K ao aF aJ aP)) (tO:Binds K zQ ["self","tree"] [])
  (F:Fun K "word_at" "Text.word_at" ju f fd):FnOk P w K mg base CX0 36 f fd ["self","place"] (Uz K ao aF aJ aP):=by
 refine okQ F Nr (fun vs H Q E h=>?_) (fun cdv A outer s H vs Q E hr h=>?_)
 ·obtain⟨a,t,W,p,M,H₀,ws,rfl,_⟩:=h
  rfl
 obtain⟨a,t,W,p,M,H₀,ws,rfl,g,hm,hW,hpw,aqy,hd,hkl,q0,q⟩:=h
 refine⟨_,(au (bK (aV op_eq (qv 1) (cX call_len_seq rfl dZ pD (aj (bH (qv 0) rfl) ak)) (nomark _)) (aB (aR yh)) bD)
   (au (bK (aV op_eq (qv 1) (cX call_len_seq rfl dZ pD (aj (bH (qv 0) rfl) ak)) (nomark _)) (aB (cR (gA PySem.F.plainAttrs_list PySem.F.slot_list_append PySem.F.type_list_append cP (bH (qv 0) rfl) (aj (jV RJ Ol hr rfl V_ tO .nil pass0 (aj (cB cJ (bH (qv 0) rfl) (qv 1) (fun _ _=>rfl)) ak)) ak)))) bD)
   (aB (aR (cB ix_list (bH (qv 0) rfl) (qv 1) (fun _ _=>rfl)))))),?_⟩
 obtain⟨dx,v,ha,tv,hMW⟩:=g.ok a _ hm
 obtain⟨bt,ys,rfl,hbt,hys⟩:=rN tv
 have hyl:=hys.length
 obtain⟨xs0,hW0,hl0,hit⟩:=g.ok W _ hMW
 have e0:xs0=ws:=by rw [hW] at hW0; cases hW0; rfl
 subst e0
 refine⟨_,rfl,_,rfl,a,aP,dx,_,_,rfl,ha,O.cText,O.tt,eU _ _ _,bt,ys,rfl,.inr hbt,rfl,_,rfl,ite2 (fun h=>?_) (fun h=>?_)⟩
 ·have h:=V.int.inj (of_decide_eq_true h)
  exact q0 (by lia)
 have hpk:p≠t.kids.length:=fun z=>h (decide_eq_true (by rw [z,← hyl]))
 obtain⟨w',ew⟩:∃ w',t.kids[p]?=some w':=⟨_,List.getElem?_eq_getElem (by lia)⟩
 obtain⟨x',ex,tx'⟩:=hys.at ew
 have lw:List.lookup ("words":Str) (fT (.ref bt) W)=some (.ref W):=(cM (by decide +kernel) _ _).trans (eU _ _ _)
 dsimp only [tNext]
 refine abm (fun σ' H'=>σ'=[some (.ref a),some (.int (p:Int))]∧∃ M' b ws',Go K ao aF aJ aP (fun _=>False) M M' H₀ H H'∧M' b=some (.word w')∧H' a=some (.ins aP dx (fT (.ref bt) W))∧H' W=some (.lst ws')∧ws'[p]?=some (.ref b)) (fun σ' H6 h6=>?_) (fun A' B' hA hB=>⟨_,rfl,_,rfl,a,aP,dx,_,_,rfl,ha,O.cText,O.tw,lw,W,xs0,rfl,.inl (SqL.of hW),rfl,_,rfl,ite2 (fun h=>hA _ fun N hN=>?_) (fun h=>hB _ ⟨rfl,?_⟩)⟩)
 ·obtain⟨rfl,M',b,ws',G,hb,ha',hW',hb'⟩:=h6
  refine⟨_,rfl,a,aP,dx,_,_,rfl,ha',O.cText,O.tw,lw,_,rfl,W,ws',p,.ref b,rfl,rfl,SqL.of hW',atI_nat hb',q w' ew b M' H6 G hb fun ws2 e2=>?_⟩
  rw [hW'] at e2
  cases e2
  exact (List.getElem?_eq_some_iff.mp hb').1
 ·have hpl:p=xs0.length:=by have:=V.int.inj (of_decide_eq_true h); lia
  have dw':w'.deep≤400:=by have:=afc ew; lia
  refine⟨_,rfl,a,aP,dx,_,_,rfl,ha,O.cText,O.tw,lw,.inl ⟨rfl,_,SqL.of hW⟩,_,rfl,a,aP,dx,_,_,rfl,ha,O.cText,O.tt,eU _ _ _,_,rfl,bt,ys,p,x',rfl,rfl,hbt,atI_nat ex,fun b db hb hdb ne=>?_⟩
  have G1:=Go.made (X:=fun _=>False) (C:=aJ) (fs:=[]) g hb hdb ne
  have S1:=jw (C:=aJ) (fs:=[]) hb hdb ne
  refine⟨b,db,x',w',setM M b .mine,H₀,rfl,G1.gh,eV,i_,tx'.mono (.of S1),dw',fun M' H' v1 y n bd G2 O2 h2 tv2 c7 c8=>⟨rfl,W,xs0,_,rfl,rfl,?_,gj (by lia),?_⟩⟩
  ·exact O2 W _ (S1 _ _ hW) (ne_of_none hW hb)
  have hbM:M' b=some .mine:=G2.ext _ _ eV
  have nbW:W≠b:=ne_of_none hW hb
  have hW2:=O2 W _ (S1 _ _ hW) nbW
  have ha2:=O2 a _ (S1 _ _ ha) (ne_of_none ha hb)
  have aoo:M' W=some (.words t):=G2.ext _ _ (G1.ext _ _ hMW)
  have nba:∀ c r,M c=some r→c≠b:=fun c r hc z=>by
   obtain⟨u,e⟩:=g.has c r hc
   rw [z,hb] at e
   cases e
  have ext':∀ c r,r≠.mine→M' c=some r→setM M' b (.word w') c=some r:=fun c r hr hc=>by
   rw [iy (fun z=>by rw [z,hbM] at hc; cases hc; exact hr rfl)]
   exact hc
  have g3:Gh K ao aF aJ aP (setM M' b (.word w')) H₀ H':=G2.gh.role (.inr hbM) (G2.gh.new _ _ hbM) ⟨_,h2⟩ ⟨db,v1,y,n,bd,.non,h2,tv2,fun z=>by
   obtain⟨ay,an,e1,e2,⟨W1,e3⟩,W2,e4⟩:=c7 z
   exact⟨ay,an,e1,e2,⟨W1,ext' _ _ (by simp) e3⟩,W2,ext' _ _ (by simp) e4⟩,fun z=>by
   obtain⟨ab,e1,W1,e2⟩:=c8 z
   exact⟨ab,e1,W1,ext' _ _ (by simp) e2⟩,.inl rfl⟩
  have k4:Kt H' (upd H' W (.lst (xs0++[.ref b]))):=Kt.lst hW2
  have g4:=g3.put (ext' _ _ (by simp) aoo) k4 ⟨xs0++[.ref b],upd_same,by rw [List.length_append,List.length_singleton]; lia,fun j z hz=>by
   by_cases hj:j<xs0.length
   ·rw [List.getElem?_append_left hj] at hz
    obtain⟨c,w2,e1,e2,e3⟩:=hit j z hz
    exact⟨c,w2,e1,e2,ext' _ _ (by simp) (G2.ext _ _ (G1.ext _ _ e3))⟩
   ·have hj2:j<(xs0++[V.ref b]).length:=(List.getElem?_eq_some_iff.mp hz).1
    rw [List.length_append,List.length_singleton] at hj2
    have hj3:j=xs0.length:=by lia
    subst hj3
    rw [List.getElem?_append_right (Nat.le_refl _),Nat.sub_self] at hz
    cases hz
    exact⟨b,w',rfl,by rw [← hpl]; exact ew,eV⟩⟩
  refine hN _ _ ⟨rfl,setM M' b (.word w'),b,xs0++[.ref b],⟨fun c r hc=>?_,fun c hc _=>?_,(Kt.of S1).trans (G2.kt.trans k4),g4,fun W' t' ws' e1 e2=>?_⟩,eV,by rw [upd_ne (fun z=>by rw [z,hW] at ha; cases ha)]; exact ha2,upd_same,by rw [hpl]; simp⟩
  ·rw [iy (nba c r hc)]
   exact G2.ext _ _ (G1.ext _ _ hc)
  ·obtain⟨u,e⟩:=g.has c _ hc
   have ncW:c≠W:=fun z=>by rw [z,hMW] at hc; cases hc
   rw [upd_ne ncW,O2 c u (S1 _ _ e) (nba c _ hc)]
   exact e.symm
  ·have e3:=O2 W' _ (S1 _ _ e2) (nba W' _ e1)
   by_cases hWW:W'=W
   ·subst hWW
    rw [hW] at e2
    cases e2
    exact⟨_,upd_same,by rw [List.length_append,List.length_singleton]; lia⟩
   ·exact⟨ws',by rw [upd_ne hWW]; exact e3,Nat.le_refl _⟩
 ·have hpl:p≠xs0.length:=fun z=>h (decide_eq_true (by rw [z]))
  obtain⟨z,ez⟩:∃ z,xs0[p]?=some z:=⟨_,List.getElem?_eq_getElem (by lia)⟩
  obtain⟨b,w2,rfl,e2,e3⟩:=hit p z ez
  rw [ew] at e2
  cases e2
  exact⟨M,b,xs0,.refl g,e3,ha,hW,ez⟩
end
section
variable {P:Program}{w:World}{K:PySem.W.Frag}{mg:Str→Option Value}{base:Heap}{f:Addr}{fd:FuncData}{ao aF aJ aP aQ aM:Addr}
theorem ags (O:Own K ao aF aJ aP aQ aM) {zJ:Value} (IW:mg "LAY"=some zJ) (zL:RelV (.int 0) zJ) {Fl:Value} (Wh:mg "DROP"=some Fl) (FZ:RelV (.int 1) Fl) {nZ:Value} (qD:mg "TWIN"=some nZ) (mY:RelV (.int 2) nZ) {Fg:Value} (Wc:mg "SWAP"=some Fg) (FN:RelV (.int 3) Fg) {rO:Value} (wX:mg "FRONT"=some rO) (rR:RelV (.int 4) rO) {Fi:Value} (Wd:mg "PART"=some Fi) (FQ:RelV (.int 5) Fi) {Fe:Value} (Wb:mg "TURN"=some Fe) (FJ:RelV (.int 6) Fe)
  {Hx:Addr}{GZ:FuncData} (adW:Fun K "rest_of" "rest_of" oF Hx GZ) (adN:FnOk P w K mg base CX0 35 Hx GZ ["row"] (U0 K ao aF aJ aP)) (adA:Binds K GZ ["row"] []) (ac7:mg "rest_of"=some (.ref Hx))
  {Eb:Addr}{DP:FuncData} (ab1:Fun K "first_of" "first_of" mR Eb DP) (abX:FnOk P w K mg base CX0 35 Eb DP ["row"] (R4 K ao aF aJ aP)) (abK:Binds K DP ["row"] []) (abf:mg "first_of"=some (.ref Eb))
  (fu:mg "Fronted"=some (.ref ao))
  {gw:Addr}{vG:FuncData} (Eh:Mk K ao gw) (HX:FnOk P w K mg base CX0 34 gw vG ["self","item","behind"] (U7 ao)) (pF:Binds K vG ["self","item","behind"] [])
  (F:Fun K "work" "work" xT f fd):FnOk P w K mg base CX0 36 f fd ["step","load","stack"] (acs K ao aF aJ aP):=by
 refine okQ F PL (fun vs H Q E h=>?_) (fun cdv A outer s H vs Q E hr h=>?_)
 ·obtain⟨k,y,S,l,sk,rows,M,H₀,rfl,_⟩:=h
  rfl
 obtain⟨k,y,S,l,sk,rows,M,H₀,rfl,g,hm,hS,hrs,hy,hlk,hb,hkl,q⟩:=h
 refine⟨_,(aB (bK (aV op_eq (qv 0) (aY (v:=.int 0) rfl IW zL) (nomark _)) (aB (cR (gA PySem.F.plainAttrs_list PySem.F.slot_list_append PySem.F.type_list_append cP (qv 2) (aj (qv 1) ak)))) (aB (bK (aV op_eq (qv 0) (aY (v:=.int 1) rfl Wh FZ) (nomark _)) (aB (cR (qy PySem.F.plainAttrs_list PySem.F.slot_list_pop PySem.F.type_list_pop sI (qv 2)))) (aB (bK (aV op_eq (qv 0) (aY (v:=.int 2) rfl qD mY) (nomark _)) (aB (cR (gA PySem.F.plainAttrs_list PySem.F.slot_list_append PySem.F.type_list_append cP (qv 2) (aj (cB ix_list (qv 2) (zM uY aD) (fun _ _=>rfl)) ak)))) (aB (bK (aV op_eq (qv 0) (aY (v:=.int 3) rfl Wc FN) (nomark _)) (aB (cR (gA PySem.F.plainAttrs_list PySem.F.slot_list_append PySem.F.type_list_append cP (qv 2) (aj (gA PySem.F.plainAttrs_list PySem.F.slot_list_pop PySem.F.type_list_pop K5 (qv 2) (aj (zM uY aD) ak)) ak)))) (aB (bK (aV op_eq (qv 0) (aY (v:=.int 4) rfl wX rR) (nomark _)) (au (bA (i:=3) PL.nd rfl (Or.inl rfl) (qy PySem.F.plainAttrs_list PySem.F.slot_list_pop PySem.F.type_list_pop sI (qv 2)))
   (aB (cR (gA PySem.F.plainAttrs_list PySem.F.slot_list_append PySem.F.type_list_append cP (qv 2) (aj (jV Eh HX hr rfl fu pF .nil pass0 (aj (qv 3) (aj (qy PySem.F.plainAttrs_list PySem.F.slot_list_pop PySem.F.type_list_pop sI (qv 2)) ak))) ak))))) (aB (bK (aV op_eq (qv 0) (aY (v:=.int 5) rfl Wd FQ) (nomark _)) (au (bA (i:=4) PL.nd rfl (Or.inl rfl) (qy PySem.F.plainAttrs_list PySem.F.slot_list_pop PySem.F.type_list_pop sI (qv 2)))
   (au (cR (gA PySem.F.plainAttrs_list PySem.F.slot_list_append PySem.F.type_list_append cP (qv 2) (aj (aN adN hr rfl ac7 adW.kp adA .nil pass0 (aj (qv 4) ak)) ak)))
   (aB (cR (gA PySem.F.plainAttrs_list PySem.F.slot_list_append PySem.F.type_list_append cP (qv 2) (aj (aN abX hr rfl abf ab1.kp abK .nil pass0 (aj (qv 4) ak)) ak)))))) (aB (bK (aV op_eq (qv 0) (aY (v:=.int 6) rfl Wb FJ) (nomark _)) (aB (cR (gA PySem.F.plainAttrs_list PySem.F.slot_list_append PySem.F.type_list_append cP (qv 2) (aj (gA PySem.F.plainAttrs_list PySem.F.slot_list_pop PySem.F.type_list_pop K5 (qv 2) (aj (zM uY aD) ak)) ak)))) bD)))))))))))))),?_⟩
 have hrl:=hrs.length
 rw [List.length_reverse] at hrl
 have hsl:sk.length≤8000010:=by
  have h1:=hb.2
  rw [T.aG] at h1
  have:=T.cV sk
  lia
 refine⟨_,rfl,rfl,_,rfl,ite2 (fun h=>?_) (fun h0=>?_)⟩
 ·have h:k=0:=by have:=V.int.inj (of_decide_eq_true h); lia
  subst h
  refine⟨_,rfl,.inl ⟨rfl,_,SqL.of hS⟩,_,rfl,S,rows,y,rfl,rfl,hS,gj (by lia),q M _ _ (Go.list g hm hS) upd_same ?_⟩
  show aX _ (l::sk).reverse _
  rw [List.reverse_cons]
  exact aX.append (gW (Kt.lst hS) hrs) (aX.one (.inl (hy.mono (Kt.lst hS))))
 have h0:¬ k=0:=fun z=>h0 (decide_eq_true (by rw [z]; rfl))
 refine⟨_,rfl,rfl,_,rfl,ite2 (fun h=>?_) (fun h1=>?_)⟩
 ·have h:k=1:=by have:=V.int.inj (of_decide_eq_true h); lia
  subst h
  obtain⟨a,sk0,r0,ya,rfl,rfl,h0,ha⟩:=mX hrs (by rintro rfl; have h1:1≤sk.length:=hlk; simp at hrl; lia)
  refine⟨_,rfl,.inl ⟨rfl,_,SqL.of hS⟩,S,_,_,rfl,rfl,hS,mJ _ _,?_⟩
  rw [mK]
  exact q M _ _ (Go.list g hm hS) upd_same (gW (Kt.lst hS) h0)
 have h1:¬ k=1:=fun z=>h1 (decide_eq_true (by rw [z]; rfl))
 refine⟨_,rfl,rfl,_,rfl,ite2 (fun h=>?_) (fun h2=>?_)⟩
 ·have h:k=2:=by have:=V.int.inj (of_decide_eq_true h); lia
  subst h
  obtain⟨a,sk0,r0,ya,rfl,rfl,h0,ha⟩:=mX hrs (by rintro rfl; have h1:1≤sk.length:=hlk; simp at hrl; lia)
  refine⟨_,rfl,.inl ⟨rfl,_,SqL.of hS⟩,_,rfl,1,rfl,S,_,_,_,rfl,rfl,SqL.of hS,Cg,S,_,ya,rfl,rfl,hS,gj (by lia),q M _ _ (Go.list g hm hS) upd_same ?_⟩
  show aX _ (a::a::sk0).reverse _
  rw [List.reverse_cons]
  exact aX.append (gW (Kt.lst hS) hrs) (aX.one (ha.mono (Kt.lst hS) fun _ _ z=>z))
 have h2:¬ k=2:=fun z=>h2 (decide_eq_true (by rw [z]; rfl))
 refine⟨_,rfl,rfl,_,rfl,ite2 (fun h=>?_) (fun h3=>?_)⟩
 ·have h:k=3:=by have:=V.int.inj (of_decide_eq_true h); lia
  subst h
  obtain⟨a,c,sk0,r0,ya,yc,rfl,rfl,h0,ha,hc⟩:=Hu hrs hlk
  refine⟨_,rfl,.inl ⟨rfl,_,SqL.of hS⟩,_,rfl,.inl ⟨rfl,_,SqL.of hS⟩,2,rfl,S,_,-2,_,_,rfl,rfl,hS,by decide,by decide,si2 _ _ _,gt2 _ _ _,?_⟩
  rw [er2]
  refine⟨S,_,yc,rfl,rfl,upd_same,gj (by simp only [List.length_append,List.length_singleton] at hrl ⊢; lia),?_⟩
  rw [kZ]
  refine q M _ _ (Go.list g hm hS) upd_same ?_
  have k:=Kt.lst (o:=.lst (r0++[ya]++[yc])) hS
  show aX _ (c::a::sk0).reverse _
  rw [List.reverse_cons,List.reverse_cons]
  exact aX.append (aX.append (gW k h0) (aX.one (ha.mono k fun _ _ z=>z))) (aX.one (hc.mono k fun _ _ z=>z))
 have h3:¬ k=3:=fun z=>h3 (decide_eq_true (by rw [z]; rfl))
 refine⟨_,rfl,rfl,_,rfl,ite2 (fun h=>?_) (fun h4=>?_)⟩
 ·have h:k=4:=by have:=V.int.inj (of_decide_eq_true h); lia
  subst h
  obtain⟨a,c,sk0,r0,ya,yc,rfl,rfl,h0,ha,hc⟩:=Hu hrs hlk
  refine⟨_,rfl,.inl ⟨rfl,_,SqL.of hS⟩,S,_,_,rfl,rfl,hS,mJ _ _,?_⟩
  rw [mK]
  refine⟨_,rfl,.inl ⟨rfl,_,SqL.of upd_same⟩,_,rfl,_,rfl,.inl ⟨rfl,_,SqL.of upd_same⟩,S,_,_,rfl,rfl,upd_same,mJ _ _,?_⟩
  rw [mK,kZ]
  have G1:=Go.list (ys:=r0) g hm hS
  have k1:=Kt.lst (o:=.lst r0) hS
  have hS1:upd H S (.lst r0) S=some (.lst r0):=upd_same
  have h01:=gW k1 h0
  have ha1:=ha.mono (M':=M) k1 fun _ _ z=>z
  have hc1:=hc.mono (M':=M) k1 fun _ _ z=>z
  generalize upd H S (.lst r0)=H1 at G1 k1 hS1 h01 ha1 hc1
  refine fun o dx ho hd ne=>⟨o,dx,ya,yc,rfl,i_,⟨rfl,S,r0,_,rfl,rfl,?_,gj (by simp only [List.length_append,List.length_singleton] at hrl; lia),?_⟩⟩
  ·rw [upd_ne (ne_of_none hS1 ho)]
   exact jw (C:=ao) (fs:=[]) ho hd ne _ _ hS1
  rw [ac4]
  have S2:=jw (C:=ao) (fs:=fF ya yc) ho hd ne
  have nSo:S≠o:=ne_of_none hS1 ho
  have ro:∀ p t,M p=some (.row t)→setM M o (.row (.node (a::c.kids))) p=some (.row t):=fun p t e=>by
   rw [iy (fun z=>by rw [z,G1.gh.fresh ho] at e; cases e)]
   exact e
  have G2:Go K ao aF aJ aP (fun a=>a=S) M (setM M o (.row (.node (a::c.kids)))) H₀ H1 (mkO H1 o dx ao (fF ya yc)) :=
   Go.role G1.gh S2 ho ⟨_,i_⟩ (.inl ⟨dx,ya,yc,a,c.kids,i_,rfl,ha1.mono (.of S2) ro,by cases c; exact hc1.mono (.of S2) ro⟩)
  have hS2:=S2 _ _ hS1
  have h02:=h01.imp fun _ _ z=>z.mono (.of S2) ro
  have hm2:setM M o (.row (.node (a::c.kids))) S=some .mine:=by rw [iy nSo]; exact hm
  have hMo:setM M o (.row (.node (a::c.kids))) o=some (.row (.node (a::c.kids))):=eV
  generalize setM M o (.row (.node (a::c.kids)))=M2 at G2 h02 hm2 hMo
  generalize mkO H1 o dx ao (fF ya yc)=H2 at G2 hS2 h02
  refine q M2 _ _ ((G1.trans G2).oX hm2 rfl (Kt.lst hS2)) upd_same ?_
  show aX _ (T.node (a::c.kids)::sk0).reverse _
  rw [List.reverse_cons]
  exact aX.append (gW (Kt.lst hS2) h02) (aX.one (.inr ⟨o,rfl,hMo⟩))
 have h4:¬ k=4:=fun z=>h4 (decide_eq_true (by rw [z]; rfl))
 refine⟨_,rfl,rfl,_,rfl,ite2 (fun h=>?_) (fun h5=>?_)⟩
 ·have h:k=5:=by have:=V.int.inj (of_decide_eq_true h); lia
  subst h
  obtain⟨a,sk0,r0,ya,rfl,rfl,h0,ha⟩:=mX hrs (by rintro rfl; have h1:1≤sk.length:=hlk; simp at hrl; lia)
  have da:a.deep≤400:=by
   have h1:=hb.1
   rw [T.aK,T.aL] at h1
   lia
  have ka:a.kids.length≤8000000:=hkl a (by simp)
  refine⟨_,rfl,.inl ⟨rfl,_,SqL.of hS⟩,S,_,_,rfl,rfl,hS,mJ _ _,?_⟩
  rw [mK]
  have G1:=Go.list (ys:=r0) g hm hS
  have k1:=Kt.lst (o:=.lst r0) hS
  have hS1:upd H S (.lst r0) S=some (.lst r0):=upd_same
  have h01:=gW k1 h0
  have ha1:=ha.mono (M':=M) k1 fun _ _ z=>z
  generalize upd H S (.lst r0)=H1 at G1 k1 hS1 h01 ha1
  refine⟨_,rfl,.inl ⟨rfl,_,SqL.of hS1⟩,_,rfl,ya,a,M,H₀,rfl,G1.gh,ha1,da,ka,fun y2 M2 H2 S2 G2 r2=>?_⟩
  have hS2:=S2 _ _ hS1
  have hm2:=G2.ext _ _ hm
  have h02:=h01.imp fun _ _ z=>G2.rv z
  have ha2:=G2.rv ha1
  have G2':=G1.trans (G2.weak fun _ z=>z.elim)
  refine⟨S,r0,y2,rfl,rfl,hS2,gj (by simp only [List.length_append,List.length_singleton] at hrl; lia),?_⟩
  have G3:=G2'.oX (u:=.lst (r0++[y2])) hm2 rfl (Kt.lst hS2)
  have k3:=Kt.lst (o:=.lst (r0++[y2])) hS2
  have hS3:upd H2 S (.lst (r0++[y2])) S=some (.lst (r0++[y2])):=upd_same
  have h03:=gW k3 h02
  have ha3:=ha2.mono (M':=M2) k3 fun _ _ z=>z
  have r3:=r2.mono (M':=M2) k3 fun _ _ z=>z
  generalize upd H2 S (.lst (r0++[y2]))=H3 at G3 k3 hS3 h03 ha3 r3
  refine⟨_,rfl,.inl ⟨rfl,_,SqL.of hS3⟩,_,rfl,ya,a,M2,H₀,rfl,G3.gh,ha3,da,fun y4 H4 S4 r4=>?_⟩
  have hS4:=S4 _ _ hS3
  refine⟨S,_,y4,rfl,rfl,hS4,gj (by simp only [List.length_append,List.length_singleton] at hrl ⊢; lia),?_⟩
  have G4:=G3.trans (.grow G3.gh S4)
  have k5:=Kt.lst (o:=.lst (r0++[y2]++[y4])) hS4
  refine q M2 _ _ (G4.oX hm2 rfl (Kt.lst hS4)) upd_same ?_
  show aX _ (ats a.kids 0::bf a::sk0).reverse _
  rw [List.reverse_cons,List.reverse_cons]
  exact aX.append (aX.append (gW ((Kt.of S4).trans k5) h03) (aX.one (r3.mono ((Kt.of S4).trans k5) fun _ _ z=>z))) (aX.one (r4.mono k5 fun _ _ z=>z))
 have h5:¬ k=5:=fun z=>h5 (decide_eq_true (by rw [z]; rfl))
 refine⟨_,rfl,rfl,_,rfl,ite2 (fun h=>?_) (fun h6=>?_)⟩
 ·have h:k=6:=by have:=V.int.inj (of_decide_eq_true h); lia
  subst h
  obtain⟨a,c,e,sk0,r0,ya,yc,ye,rfl,rfl,h0,ha,hc,he⟩:=adI hrs hlk
  refine⟨_,rfl,.inl ⟨rfl,_,SqL.of hS⟩,_,rfl,.inl ⟨rfl,_,SqL.of hS⟩,3,rfl,S,_,-3,_,_,rfl,rfl,hS,by decide,by decide,si3 _ _ _ _,gt3 _ _ _ _,?_⟩
  rw [er3]
  refine⟨S,_,ye,rfl,rfl,upd_same,gj (by simp only [List.length_append,List.length_singleton] at hrl ⊢; lia),?_⟩
  rw [kZ]
  refine q M _ _ (Go.list g hm hS) upd_same ?_
  have k:=Kt.lst (o:=.lst (r0++[yc]++[ya]++[ye])) hS
  show aX _ (e::a::c::sk0).reverse _
  rw [List.reverse_cons,List.reverse_cons,List.reverse_cons]
  exact aX.append (aX.append (aX.append (gW k h0) (aX.one (hc.mono k fun _ _ z=>z))) (aX.one (ha.mono k fun _ _ z=>z))) (aX.one (he.mono k fun _ _ z=>z))
 have h6:¬ k=6:=fun z=>h6 (decide_eq_true (by rw [z]; rfl))
 refine q M H rows (.refl g) hS ?_
 rw [Bt (show 7≤k by lia)]
 exact hrs
end
section
variable {P:Program}{w:World}{K:PySem.W.Frag}{mg:Str→Option Value}{base:Heap}{f:Addr}{fd:FuncData}{ao aF aJ aP aQ aM:Addr}
theorem Qx (O:Own K ao aF aJ aP aQ aM)
  (F:Fun K "at_end" "Walk.at_end" jT f fd):FnOk P w K mg base CX0 31 f fd ["self"] (ZL K ao aF aJ aP aQ aM):=by
 refine okQ F PN (fun vs H Q E h=>?_) (fun cdv A outer s H vs Q E hr h=>?_)
 ·obtain⟨o,M,H₀,tx,sk,num,b,rfl,_⟩:=h
  rfl
 obtain⟨o,M,H₀,tx,sk,num,b,rfl,w',q⟩:=h
 refine⟨_,(aB (aR (aga (bH (qv 0) rfl)))),?_⟩
 obtain⟨dx,G,S,N,gs,rows,w'⟩:=w'
 have hgl:=w'.gos.length
 rw [List.length_reverse] at hgl
 refine⟨_,rfl,o,aM,dx,_,_,rfl,w'.ob,O.dD,O.kg,lwG,!gs.isEmpty,.inl ⟨gs,SqL.of w'.hG,rfl⟩,?_⟩
 have e:(!(!gs.isEmpty))=decide (tx=[]):=by
  rw [Bool.not_not]
  cases tx with
  | nil =>
   have:gs=[]:=List.length_eq_zero_iff.mp (by simpa using hgl)
   rw [this]
   rfl
  | cons t r =>
   cases gs with
   | nil=>simp at hgl
   | cons _ _=>rfl
 rw [e]
 exact q
theorem Yx (O:Own K ao aF aJ aP aQ aM)
  (F:Fun K "top" "Walk.top" pN f fd):FnOk P w K mg base CX0 31 f fd ["self"] (afG K ao aF aJ aP aQ aM):=by
 refine okQ F Yq (fun vs H Q E h=>?_) (fun cdv A outer s H vs Q E hr h=>?_)
 ·obtain⟨o,M,H₀,tx,sk,num,b,rfl,_⟩:=h
  rfl
 obtain⟨o,M,H₀,tx,sk,num,b,rfl,w',q⟩:=h
 refine⟨_,(aB (aR (qQ (CN (bH (qv 0) rfl) (fun _=>rfl)) (cB ix_list (bH (qv 0) rfl) (zM uY aD) (fun _ _=>rfl)) (aU ak)))),?_⟩
 obtain⟨dx,G,S,N,gs,rows,w'⟩:=w'
 refine⟨_,rfl,o,aM,dx,_,_,rfl,w'.ob,O.dD,O.ks,lwS,!rows.isEmpty,.inl ⟨rows,SqL.of w'.hS,rfl⟩,ite2 (fun h=>?_) (fun h=>?_)⟩
 ·have hne:rows≠[]:=by rintro rfl; exact absurd h (by decide)
  obtain⟨a,sk0,r0,ya,rfl,rfl,h0,ha⟩:=mX w'.sts hne
  exact⟨_,rfl,o,aM,dx,_,_,rfl,w'.ob,O.dD,O.ks,lwS,1,rfl,S,_,_,_,rfl,rfl,SqL.of w'.hS,Cg,q _ _ (Same.refl _) ha⟩
 ·have hr:rows=[]:=by
   cases rows with
   | nil=>rfl
   | cons _ _=>exact absurd rfl h
  subst hr
  have:=all_nil w'.sts
  subst this
  refine⟨Nat.zero_le _,fun p1 g1=>?_⟩
  obtain⟨S1,t1⟩:=bN (K:=K) (ts:=[]) g1 (bJ.mpr rfl)
  exact q _ _ S1 (.inl t1)
theorem Tq (O:Own K ao aF aJ aP aQ aM) (cL:mg "tuple"=none)
  (F:Fun K "tally" "Walk.tally" lK f fd):FnOk P w K mg base CX0 31 f fd ["self"] (Px K ao aF aJ aP aQ aM):=by
 refine okQ F Tc (fun vs H Q E h=>?_) (fun cdv A outer s H vs Q E hr h=>?_)
 ·obtain⟨o,M,H₀,tx,sk,num,b,rfl,_⟩:=h
  rfl
 obtain⟨o,M,H₀,tx,sk,num,b,rfl,w',q⟩:=h
 refine⟨_,(aB (aR (iT fK rfl cL lB (aj (bH (qv 0) rfl) ak)))),?_⟩
 obtain⟨dx,G,S,N,gs,rows,w'⟩:=w'
 exact⟨_,rfl,o,aM,dx,_,_,rfl,w'.ob,O.dD,O.kn,lwN,N,_,rfl,.inl ⟨SqL.of w'.hN,fun l hl=>q _ _ (same_new hl _) (SqT.of upd_same)⟩⟩
theorem Tr (O:Own K ao aF aJ aP aQ aM) (gJ:mg "reversed"=none) (cL:mg "tuple"=none)
  {HF:Addr}{Hh:FuncData} (ad2:Fun K "as_tree" "as_tree" oM HF Hh) (adT:FnOk P w K mg base CX0 32 HF Hh ["row"] (U8 K ao aF aJ aP)) (adG:Binds K Hh ["row"] []) (ade:mg "as_tree"=some (.ref HF))
  (F:Fun K "stand" "Walk.stand" iQ f fd):FnOk P w K mg base CX0 33 f fd ["self"] (Zy K ao aF aJ aP aQ aM):=by
 refine okQ F El (fun vs H Q E h=>?_) (fun cdv A outer s H vs Q E hr h=>?_)
 ·obtain⟨o,M,H₀,tx,sk,num,b,rfl,_⟩:=h
  rfl
 obtain⟨o,M,H₀,tx,sk,num,b,rfl,w',bx,bs,q⟩:=h
 refine⟨_,(au (Vp (i:=1) El.nd rfl (Or.inl rfl) rfl (nH (fr:=[]) (js:=[]) (sc:=defScope iQ) rfl rfl rfl (by decide +kernel) (by decide +kernel) (by decide +kernel) (by decide +kernel) (by exact trivial) (by decide +kernel) (fun y hy=>cell_has hy)) (Z1 rfl gJ (bH (qv 0) rfl)) (fun _ _ _ _ _=>(cW (aeg (K:=K) rfl) (Qf (K:=K) rfl (Qf (K:=K) rfl (qv 0) rfl) rfl) (dI (Qf (K:=K) rfl (qv 0) rfl)) eN)))
   (aB (aR (aU (aj (iT fK rfl cL lB (aj (qv 1) ak)) (aj (iT fK rfl cL lB (aj (CP rfl (nH (fr:=[]) (js:=[]) (sc:=defScope iQ) rfl rfl rfl (by decide +kernel) (by decide +kernel) (by decide +kernel) (by decide +kernel) (by exact trivial) (by decide +kernel) (fun y hy=>cell_has hy)) (Z1 rfl gJ (bH (qv 0) rfl)) (fun _ _ _ _ _=>(aN adT hr rfl ade ad2.kp adG .nil pass0 (aj (qv 0) ak)))) ak)) ak)))))),?_⟩
 obtain⟨dx,G,S,N,gs,rows,w'⟩:=w'
 have hgl:=w'.gos.length
 rw [List.length_reverse] at hgl
 have hrl:=w'.sts.length
 rw [List.length_reverse] at hrl
 have hsl:sk.length≤8000000:=by
  have h1:=bs.2
  rw [T.aG] at h1
  have:=T.cV sk
  lia
 refine jm (fun v=>[some (.ref o),some v]) (fun _=>rfl) (fun v H'=>Same H H'∧∃ D ys,v=.ref D∧H' D=some (.lst ys)∧TRs K H' tx ys) (fun R r=>⟨_,rfl,o,aM,dx,_,_,rfl,w'.ob,O.dD,O.kg,lwG,G,gs,rfl,SqL.of w'.hG,Wj (ts:=tx) (by lia) (fV (by have:=bx.1; lia)) (SqL.of w'.hG) (fun i x t H1 R1 hx ht S1 r1=>?_) (fun D ys H1 S1 h1 t1=>r _ _ ⟨S1,D,ys,rfl,h1,t1⟩)⟩) (fun v1 H1 h1=>?_)
 ·obtain⟨t',et,hg⟩:=(aal w'.gos).get hx
  rw [ht] at et
  cases et
  obtain⟨g,dg,a,W,p,tt,rfl,h1,h2,h3,h4,⟨ws,h5,h6⟩,rfl,h8⟩:=hg.go (.grow w'.gh S1) (fun _ _=>id) w'.gh
  obtain⟨da,v,h9,tv,_⟩:=(w'.gh.grow S1).ok a _ h3
  obtain⟨b,ys,rfl,hb,hys⟩:=rN tv
  refine⟨_,rfl,g,aQ,dg,_,_,rfl,h2,O.yW,O.gt,lgT,a,aP,da,_,_,rfl,h9,O.cText,O.tt,ltT,_,rfl,g,aQ,dg,_,_,rfl,h2,O.yW,O.gp,lgP,(p:Int),rfl,b,ys,rfl,hb,fun p1 H2 S2 h=>r1 _ _ S2 (uW h ?_)⟩
  rw [Mi]
  exact (hys.drop p).mono (.of S2)
 obtain⟨S1,D,ys,rfl,hD,tys⟩:=h1
 have w1:=w'.grow S1
 refine⟨_,rfl,D,ys,rfl,.inl ⟨SqL.of hD,fun p2 g2=>?_⟩⟩
 obtain⟨S2,t2⟩:=bN (K:=K) g2 tys
 have w2:=w1.grow S2
 refine⟨_,rfl,o,aM,dx,_,_,rfl,w2.ob,O.dD,O.ks,lwS,S,rows,rfl,SqL.of w2.hS,Wj (K:=K) (ts:=sk) (by lia) (fV (by lia)) (SqL.of w2.hS) (fun i x t H3 R3 hx ht S3 r3=>?_) (fun D3 ys3 H3 S3 h3 t3=>⟨D3,ys3,rfl,.inl ⟨SqL.of h3,fun p4 g4=>⟨(by show 2≤sizeLine; decide),fun p5 g5=>?_⟩⟩⟩)⟩
 ·obtain⟨t',et,hg⟩:=(aal w2.sts).get hx
  rw [ht] at et
  cases et
  have hm:t∈sk:=List.mem_of_getElem? ht
  have hp:t.parts≤8000000:=by
   have h1:=bs.2
   rw [T.aG] at h1
   have:=T.iu hm
   lia
  exact⟨_,rfl,x,t,M,H₀,rfl,w2.gh.grow S3,hg.mono (.of S3) (fun _ _ z=>z),hp,fun y H4 S4 t4=>r3 y H4 S4 t4⟩
 ·obtain⟨S4,t4⟩:=bN (K:=K) g4 t3
  have t2':=t2.mono (.of (S3.trans S4))
  obtain⟨S5,t5⟩:=bN (K:=K) g5 (pZ t2' t4)
  exact q _ _ (S1.trans (S2.trans (S3.trans (S4.trans S5)))) t5
end
section
variable {P:Program}{w:World}{K:PySem.W.Frag}{mg:Str→Option Value}{base:Heap}{f:Addr}{fd:FuncData}{ao aF aJ aP aQ aM:Addr}
theorem KD (O:Own K ao aF aJ aP aQ aM) (gJ:mg "reversed"=none) (V7:mg "list"=none) {xJ:Value} (Lb:mg "PLACES"=some xJ) (xZ:RelV (.int 15) xJ)
  (rT:mg "Going"=some (.ref aQ))
  (vC:mg "Text"=some (.ref aP))
  {dJ:Addr}{jK:FuncData} (pH:Mk K aQ dJ) (jQ:FnOk P w K mg base CX0 31 dJ jK ["self","text"] (J6 aQ)) (fB:Binds K jK ["self","text"] [])
  {d7:Addr}{kO:FuncData} (rY:Mk K aP d7) (kY:FnOk P w K mg base CX0 31 d7 kO ["self","tree"] (J4 aP)) (fQ:Binds K kO ["self","tree"] [])
  (F:Fun K "__init__" "Walk.__init__" gH f fd):FnOk P w K mg base CX0 33 f fd ["self","stand","budget"] (UG K ao aF aJ aP aQ aM):=by
 refine okQ F Kc (fun vs H Q E h=>?_) (fun cdv A outer s H vs Q E hr h=>?_)
 ·obtain⟨o,dx,x,tx,sk,b,M,H₀,rfl,_⟩:=h
  rfl
 obtain⟨o,dx,x,tx,sk,b,M,H₀,rfl,g,hm,ho,hx,bx,bs,q⟩:=h
 refine⟨_,(au (fM (qv 0) (CP rfl (nH (fr:=[]) (js:=[]) (sc:=defScope gH) rfl rfl rfl (by decide +kernel) (by decide +kernel) (by decide +kernel) (by decide +kernel) (by exact trivial) (by decide +kernel) (fun y hy=>cell_has hy)) (af9 rfl gJ (cB cJ (qv 1) aD (fun _ _=>rfl))) (fun _ _ _ _ _=>(jV pH jQ hr rfl rT fB .nil pass0 (aj (jV rY kY hr rfl vC fQ .nil pass0 (aj (qv 0) ak)) ak)))) rfl)
   (au (fM (qv 0) (aaL rfl rfl V7 gJ rfl (cB cJ (qv 1) aD (fun _ _=>rfl))) rfl)
   (au (fM (qv 0) (aW ahW (oU (aj aD ak)) (aY (v:=.int 15) rfl Lb xZ)) rfl)
   (aB (fM (qv 0) (qv 2) rfl))))),?_⟩
 obtain⟨ax,xs,rfl,hax,hxs⟩:=cF.mp hx
 obtain⟨x0,r0,rfl,t0,hr⟩:=cN.mp hxs
 obtain⟨x1,r1,rfl,t1,hr1⟩:=cN.mp hr
 obtain⟨a0,ys0,rfl,h0,hy0⟩:=cF.mp t0
 obtain⟨a1,ys1,rfl,h1,hy1⟩:=cF.mp t1
 have l0:=hy0.length
 have l1:=hy1.length
 have hsl:sk.length≤8000000:=by
  have h1:=bs.2
  rw [T.aG] at h1
  have:=T.cV sk
  lia
 refine⟨_,rfl,ax,_,0,_,rfl,rfl,hax,atI_nat (j:=0) rfl,a0,ys0,rfl,h0,agG (fun D i ys H'=>H D=none∧∃ M',Go K ao aF aJ aP (fun _=>False) M M' H₀ H H'∧M' D=some .mine∧H' D=some (.lst ys)∧ys.length=i∧aX (pI aQ M' H') (tx.reverse.take i) ys∧ys.Nodup) (fV (by have:=bx.1; lia)) (fun D hD=>⟨hD,setM M D .mine,Go.QF g hD,eV,upd_same,rfl,by rw [List.take_zero]; exact .nil,List.nodup_nil⟩) (fun D i ys H' j=>⟨j.2.choose_spec.2.2.1,j.2.choose_spec.2.2.2.1,bW j.2.choose_spec.1.kt h0⟩) (fun D i x ys H1 R hxi j hR=>?_) (fun D gs H1 j=>?_)⟩
 ·obtain⟨hD,M1,G1,mD,h1D,hyl,hgo,nd⟩:=j
  obtain⟨t,et,ht⟩:=af5 hy0 hxi
  have hbt:B 389 8000000 t:=bx.2 t (by have:=List.mem_of_getElem? et; rw [List.mem_reverse] at this; exact this)
  refine⟨_,rfl,fun a da ha hda ne=>⟨a,da,x,rfl,i_,fun W hW=>⟨rfl,fun gg dg hg hdg ne2=>⟨gg,dg,a,rfl,i_,⟨rfl,?_⟩⟩⟩⟩⟩
  obtain⟨G2,S2,tx2⟩:=Go.newText (X:=fun _=>False) G1.gh (ht.mono G1.kt) ha hda ne hW
  generalize setM (setM M1 W (.words t)) a (.text t W)=M2 at G2 tx2
  generalize upd (upd (mkO H1 a da aP []) W (.lst [])) a (.ins aP da (fT x W))=H2 at G2 S2 hg hdg
  rw [kZ,← (show mkO H2 gg dg aQ (fG a 0)=upd (upd H2 dg (.own gg)) gg (.ins aQ dg (fG a 0)) from rfl)]
  have G3:Go K ao aF aJ aP (fun _=>False) M2 (setM M2 gg .mine) H₀ H2 (mkO H2 gg dg aQ (fG a 0)):=Go.made G2.gh hg hdg ne2
  have S3:=jw (C:=aQ) (fs:=fG a 0) hg hdg ne2
  have gn:=pI.new (CG:=aQ) G2.gh tx2 hbt hg hdg ne2
  have hD3:=S3 _ _ (S2 _ _ h1D)
  have mD3:=G3.ext _ _ (G2.ext _ _ mD)
  have hnew:(.ref gg:V) ∉ ys:=fun z=>by
   obtain⟨k,hk⟩:=List.mem_iff_getElem?.mp z
   obtain⟨t',_,g',_,_,_,_,_,e,_,h2,_⟩:=hgo.get hk
   cases e
   have:=S2 _ _ h2
   rw [hg] at this
   cases this
  generalize mkO H2 gg dg aQ (fG a 0)=H3 at G3 S3 gn hD3
  generalize setM M2 gg .mine=M3 at G3 gn mD3
  have Gl:Go K ao aF aJ aP (fun c=>c=D) M3 M3 H₀ H3 (upd H3 D (.lst (ys++[.ref gg]))):=.list G3.gh mD3 hD3
  have Gs:Go K ao aF aJ aP (fun c=>c=D) M1 M3 H₀ H1 (upd H3 D (.lst (ys++[.ref gg]))):=((G2.trans G3).weak fun _ z=>z.elim).trans Gl
  refine hR _ _ hD3 ⟨hD,M3,((G1.trans G2).trans G3).anm mD3 (by rw [g.fresh hD]; simp) (Kt.lst hD3),mD3,upd_same,by rw [List.length_append,hyl]; rfl,?_,?_⟩
  ·rw [Uv et]
   exact aX.append (hgo.imp fun _ _ z=>z.go Gs (z.nl h1D) G1.gh) (aX.one (gn.go Gl (gn.nl hD3) G3.gh))
  ·refine List.nodup_append.mpr ⟨nd,by simp,fun c hc e he=>?_⟩
   rw [List.mem_singleton.mp he]
   exact fun z=>hnew (z ▸ hc)
 obtain⟨hD,M1,G1,mD,h1D,hyl,hgo,nd⟩:=j
 rw [List.take_of_length_le (by rw [List.length_reverse]; lia)] at hgo
 have ho1:H1 o=some (.ins aM dx []):=(G1.mine o hm id).trans ho
 have noD:o≠D:=ne_of_none ho hD
 have kt {u:HO}{Ha:Hp}{fs:List (Str×V)} (h:Ha o=some (.ins aM dx fs)):Kt Ha (upd Ha o u):=Kt.ins h
 refine⟨_,rfl,o,aM,dx,[],rfl,ho1,O.dD,O.kg,by show 0<1000; decide,?_⟩
 rw [pw1]
 have G2:=(G1.weak (Y:=fun c=>c=o) fun _ z=>z.elim).oX (u:=.ins aM dx (w1 D)) (G1.ext _ _ hm) rfl (kt ho1)
 have Gq:Go K ao aF aJ aP (fun c=>c=o) M1 M1 H₀ H1 (upd H1 o (.ins aM dx (w1 D))):=Go.oX (.refl G1.gh) (G1.ext _ _ hm) rfl (kt ho1)
 have aiv:=hgo.imp fun t x z=>z.go Gq (fun gx e z2=>by
  obtain⟨g',_,_,_,_,_,e',_,h2,_⟩:=z
  rw [e] at e'
  cases e'
  rw [z2,ho1] at h2
  have h3:=(HO.ins.inj (Option.some.inj h2)).2.2
  exact absurd (congrArg List.length h3) (by simp [fG])) G1.gh
 have h2D:upd H1 o (.ins aM dx (w1 D)) D=some (.lst gs):=by rw [upd_ne (Ne.symm noD)]; exact h1D
 have h2o:upd H1 o (.ins aM dx (w1 D)) o=some (.ins aM dx (w1 D)):=upd_same
 generalize upd H1 o (.ins aM dx (w1 D))=H2 at G2 aiv h2D h2o
 have hm1:=G1.ext _ _ hm
 refine⟨_,rfl,ax,_,1,_,rfl,rfl,bW G2.kt hax,atI_nat (j:=1) rfl,a1,ys1,rfl,bW G2.kt h1,fun l hl=>⟨_,rfl,o,aM,dx,w1 D,rfl,?_,O.dD,O.ks,by show 1<1000; decide,?_⟩⟩
 ·rw [upd_ne (ne_of_none h2o hl)]; exact h2o
 rw [pw2]
 have aoj:aX (RV K M1 H2) sk.reverse ys1.reverse:=(Pa (hy1.mono G2.kt)).rev
 have G3a:Go K ao aF aJ aP (fun c=>c=o) M1 (setM M1 l .mine) H₀ H2 (upd H2 l (.lst ys1.reverse)):=Go.QF G2.gh hl
 have h3o:upd H2 l (.lst ys1.reverse) o=some (.ins aM dx (w1 D)):=by rw [upd_ne (ne_of_none h2o hl)]; exact h2o
 have h3D:upd H2 l (.lst ys1.reverse) D=some (.lst gs):=by rw [upd_ne (ne_of_none h2D hl)]; exact h2D
 have nDl:D≠l:=ne_of_none h2D hl
 have h3l:upd H2 l (.lst ys1.reverse) l=some (.lst ys1.reverse):=upd_same
 have m3l:setM M1 l .mine l=some .mine:=eV
 generalize upd H2 l (.lst ys1.reverse)=H3 at G3a h3o h3D h3l
 generalize setM M1 l .mine=M3 at G3a m3l
 have hm3:=G3a.ext _ _ hm1
 have G3:=G3a.oX (u:=.ins aM dx (w2 D l)) hm3 rfl (kt h3o)
 have nlo:l≠o:=fun z=>by rw [z,h3o] at h3l; cases h3l
 have nog:∀ {Ma:Mp}{Ha:Hp}{fs:List (Str×V)}{t:T}{x:V},Ha o=some (.ins aM dx fs)→(∀ a p,fs≠fG a p)→pI aQ Ma Ha t x→∀ gx,x=.ref gx→¬ gx=o:=fun hh hne z gx e z2=>by
  obtain⟨g',_,_,_,_,_,e',_,h2,_⟩:=z
  rw [e] at e'
  cases e'
  rw [z2,hh] at h2
  exact hne _ _ (HO.ins.inj (Option.some.inj h2)).2.2
 have n1:∀ a p,w1 D≠fG a p:=fun a p z=>absurd (congrArg List.length z) (by simp [fG,w1])
 have aiu:=aiv.imp fun t x z=>z.go G3 (nog h2o n1 z) G2.gh
 have afN:=aoj.imp fun _ _ z=>G3.rv z
 have h4D:upd H3 o (.ins aM dx (w2 D l)) D=some (.lst gs):=by rw [upd_ne (Ne.symm noD)]; exact h3D
 have h4l:upd H3 o (.ins aM dx (w2 D l)) l=some (.lst ys1.reverse):=by rw [upd_ne nlo]; exact h3l
 have h4o:upd H3 o (.ins aM dx (w2 D l)) o=some (.ins aM dx (w2 D l)):=upd_same
 generalize upd H3 o (.ins aM dx (w2 D l))=H4 at G3 aiu afN h4D h4l h4o
 have z63:(2:Int) ^ 63=9223372036854775808:=by decide
 refine⟨(by show 1≤sizeLine; decide),fun p5 g5=>⟨p5,15,[.int 0],rfl,rfl,upd_same,by lia,by lia,(by show 1 * 15≤sizeLine; decide),fun n g6=>?_⟩⟩
 have e0:(List.replicate (15:Int).toNat [V.int 0]).flatten=iw.map nv:=rfl
 rw [e0]
 have S5:=same_new g5 (.lst [V.int 0])
 have G5:Go K ao aF aJ aP (fun c=>c=o) M3 M3 H₀ H4 (upd H4 p5 (.lst [V.int 0])):=.grow G3.gh S5
 have G6a:Go K ao aF aJ aP (fun c=>c=o) M3 (setM M3 n .mine) H₀ (upd H4 p5 (.lst [V.int 0])) (upd (upd H4 p5 (.lst [V.int 0])) n (.lst (iw.map nv))):=Go.QF G5.gh g6
 have S6:=S5.trans (same_new g6 (.lst (iw.map nv)))
 have h6n:upd (upd H4 p5 (.lst [V.int 0])) n (.lst (iw.map nv)) n=some (.lst (iw.map nv)):=upd_same
 have m6n:setM M3 n .mine n=some .mine:=eV
 have n4:H4 n=none:=S5.free g6
 have G6:=G5.trans G6a
 generalize upd (upd H4 p5 (.lst [V.int 0])) n (.lst (iw.map nv))=H6 at G6 G6a S6 h6n
 generalize setM M3 n .mine=M6 at G6 G6a m6n
 have h6o:=S6 _ _ h4o
 refine⟨_,rfl,o,aM,dx,w2 D l,rfl,h6o,O.dD,O.kn,by show 2<1000; decide,?_⟩
 rw [pw3]
 refine⟨_,rfl,_,rfl,o,aM,dx,w3 D l n,rfl,upd_same,O.dD,O.kl,by show 3<1000; decide,?_⟩
 rw [pw4,kZ]
 have hm6:=G6.ext _ _ hm3
 have G7:=G6.oX (u:=.ins aM dx (fW D l n b)) hm6 rfl (kt h6o)
 have n2:∀ a p,w2 D l≠fG a p:=fun a p z=>by
  have h1:((Str.ofString "goings",V.ref D):Str×V)=(Str.ofString "text",V.ref a):=(List.cons.inj z).1
  have h2:Str.ofString "goings"=Str.ofString "text":=congrArg Prod.fst h1
  exact absurd h2 (by decide +kernel)
 have aom:=aiu.imp fun t x z=>z.go G7 (nog h4o n2 z) G3.gh
 have akh:=afN.imp fun _ _ z=>G7.rv z
 have nno:n≠o:=fun z=>by rw [z,h6o] at h6n; cases h6n
 have mD6:=G6.ext _ _ (G3a.ext _ _ mD)
 exact q M6 _ ⟨dx,D,l,n,gs,ys1.reverse,G7.gh,upd_same,hm6,mD6,G6.ext _ _ m3l,m6n,by rw [upd_ne (Ne.symm noD)]; exact S6 _ _ h4D,by rw [upd_ne nlo]; exact S6 _ _ h4l,by rw [upd_ne nno]; exact h6n,aom,akh,rfl,nDl,ne_of_none h4D n4,ne_of_none h4l n4,nd⟩
end
section
variable {P:Program}{w:World}{K:PySem.W.Frag}{mg:Str→Option Value}{base:Heap}{f:Addr}{fd:FuncData}{ao aF aJ aP aQ aM:Addr}
theorem VL (O:Own K ao aF aJ aP aQ aM) {uZ:Value} (BW:mg "SHUT"=some uZ) (vm:RelV (.int 12) uZ) {iK:Value} (lR:mg "WHILE_INTO"=some iK) (iR:RelV (.int 9) iK) {xM:Value} (Ld:mg "BODIES"=some xM) (yd:RelV (.int 14) xM) {j5:Value} (pR:mg "FORK_YES"=some j5) (j_:RelV (.int 7) j5) {mC:Value} (rW:mg "FORK_NO"=some mC) (mF:RelV (.int 8) mC)
  {XD:Addr}{Xc:FuncData} (ajB:Fun K "work" "work" xT XD Xc) (ajx:FnOk P w K mg base CX0 36 XD Xc ["step","load","stack"] (acs K ao aF aJ aP)) (ajp:Binds K Xc ["step","load","stack"] []) (ah_:mg "work"=some (.ref XD))
  (rT:mg "Going"=some (.ref aQ))
  {gY:Addr}{wD:FuncData} (ql:Meth K aJ "body_parts" gY) (JK:FnOk P w K mg base CX0 36 gY wD ["self"] (ZJ K ao aF aJ aP)) (qj:Binds K wD ["self"] [])
  {dJ:Addr}{jK:FuncData} (pH:Mk K aQ dJ) (jQ:FnOk P w K mg base CX0 35 dJ jK ["self","text"] (J6 aQ)) (fB:Binds K jK ["self","text"] [])
  (F:Fun K "move" "Walk.move" nD f fd):FnOk P w K mg base CX0 37 f fd ["self","step","going","word"] (acu K ao aF aJ aP aQ aM):=by
 refine okQ F Vj (fun vs H Q E h=>?_) (fun cdv A outer s H vs Q E hr h=>?_)
 ·obtain⟨o,dx,G,S,N,gs0,g,rows,p,rest,sp,num,b,k,wv,M,H₀,rfl,_⟩:=h
  rfl
 obtain⟨o,dx,G,S,N,gs0,g,rows,p,rest,sp,num,b,k,wv,M,H₀,rfl,w0,hlk,hb,hkl,hrest,h⟩:=h
 refine⟨_,(au (bK (aV op_eq (qv 1) (aY (v:=.int 12) rfl BW vm) (nomark _)) (au (cR (qy PySem.F.plainAttrs_list PySem.F.slot_list_pop PySem.F.type_list_pop sI (bH (qv 0) rfl)))
   (aB Z0)) bD)
   (au (bK (aV op_eq (qv 1) (aY (v:=.int 9) rfl lR iR) (nomark _)) (au (Qd (bH (qv 0) rfl) (aY (v:=.int 14) rfl Ld yd) Lw (oR (qv 3) O.gB ql JK hr qj .nil pass0) Gw set_list)
   (au (cR (gA PySem.F.plainAttrs_list PySem.F.slot_list_append PySem.F.type_list_append cP (bH (qv 0) rfl) (aj (jV pH jQ hr rfl rT fB .nil pass0 (aj (bH (qv 3) rfl) ak)) ak)))
   (aB Z0))) bD)
   (au (R6 (qv 2) aD ail)
   (aB (bK (aV op_eq (qv 1) (aY (v:=.int 7) rfl pR j_) (nomark _)) (aB (cR (gA PySem.F.plainAttrs_list PySem.F.slot_list_append PySem.F.type_list_append cP (bH (qv 0) rfl) (aj (jV pH jQ hr rfl rT fB .nil pass0 (aj (bH (qv 3) rfl) ak)) ak)))) (aB (bK (aV op_eq (qv 1) (aY (v:=.int 8) rfl rW mF) (nomark _)) (aB (cR (gA PySem.F.plainAttrs_list PySem.F.slot_list_append PySem.F.type_list_append cP (bH (qv 0) rfl) (aj (jV pH jQ hr rfl rT fB .nil pass0 (aj (bH (qv 3) rfl) ak)) ak)))) (aB (cR (aN ajx hr rfl ah_ ajB.kp ajp .nil pass0 (aj (qv 1) (aj (bH (qv 3) rfl) (aj (bH (qv 0) rfl) ak))))))))))))),?_⟩
 have hgl:=w0.gos.length
 rw [List.length_reverse,List.length_cons,List.length_append,List.length_singleton] at hgl
 rcases h with⟨rfl,q⟩ | ⟨w',ws,bw,tx',s',lO,rfl,rfl,hbw,rdy,mv,bx',hz,q⟩
 ·refine⟨_,rfl,rfl,_,rfl,ite2 (fun _=>?_) (fun h=>absurd (by decide) h)⟩
  have hgo:=w0.gos
  rw [List.reverse_cons] at hgo
  obtain⟨gs1,y,e1,hg0,_⟩:=aX.snoc hgo
  obtain⟨rfl,_⟩:=List.append_inj' e1 rfl
  refine⟨_,rfl,o,aM,dx,_,_,rfl,w0.ob,O.dD,O.kg,lwG,.inl ⟨rfl,_,SqL.of w0.hG⟩,G,_,_,rfl,rfl,w0.hG,mJ _ _,?_⟩
  rw [mK]
  exact q M _ ⟨dx,G,S,N,gs0,rows,w0.setG hg0 (List.nodup_append.mp w0.nd).1⟩
 have hw:=w0.gh.ok bw _ hbw
 have n12:¬ k=12:=fun z=>by
  rcases mv with⟨h,_⟩ | ⟨h,_⟩ | ⟨h,_⟩ | ⟨h,_⟩ <;> lia
 refine⟨_,rfl,rfl,_,rfl,ite2 (fun h=>absurd (by have:=V.int.inj (of_decide_eq_true h); lia) n12) (fun _=>?_)⟩
 dsimp only [tNext]
 rcases mv with⟨rfl,s8,rfl,rfl,rfl⟩ | mv
 ·refine⟨_,rfl,rfl,_,rfl,ite2 (fun _=>?_) (fun h=>absurd (by decide) h)⟩
  obtain⟨dw,v,y,n,bd,sz,hw1,tv,c7,c8,hs⟩:=hw
  refine⟨_,rfl,o,aM,dx,_,_,rfl,w0.ob,O.dD,O.kn,lwN,N,_,_,_,rfl,rfl,SqL.of w0.hN,abL (k:=14) w0.n15 (by lia),_,rfl,bw,dw,_,rfl,hw1,anp (by decide +kernel) (by decide +kernel) (by decide +kernel) (by decide +kernel) (by decide +kernel) (by decide +kernel),bw,w',M,H₀,rfl,w0.gh,hbw,hz,fun H1 G1=>⟨_,_,rfl,rfl,N,_,_,14,rfl,rfl,(w0.go G1).hN,Q7 (j:=14) (by rw [List.length_map,w0.n15]; lia),?_⟩⟩
  rw [PK]
  have w1:=(w0.go G1).aei (lO:=num.set 14 (num.getD 14 0+(bf w').parts)) (by rw [List.length_set]; exact w0.n15)
  generalize upd H1 N (.lst ((num.set 14 (num.getD 14 0+(bf w').parts)).map nv))=H2 at w1
  obtain⟨dw,v,y,n,bd,sz,hw1,tv,c7,c8,hs⟩:=w1.gh.ok bw _ hbw
  obtain⟨ab,rfl,htx⟩:=c8 s8
  refine⟨_,rfl,o,aM,dx,_,_,rfl,w1.ob,O.dD,O.kg,lwG,.inl ⟨rfl,_,SqL.of w1.hG⟩,_,rfl,bw,aJ,dw,_,_,rfl,hw1,O.gB,O.wb,ldB,fun gg dg hg hdg ne=>⟨gg,dg,ab,rfl,i_,⟨rfl,G,gs0++[.ref g],_,rfl,rfl,?_,?_,?_⟩⟩⟩
  ·rw [kZ]
   exact jw (C:=aQ) (fs:=fG ab 0) hg hdg ne _ _ w1.hG
  ·exact gj (by simp only [List.length_append,List.length_singleton]; lia)
  rw [kZ,← (show mkO H2 gg dg aQ (fG ab 0)=upd (upd H2 dg (.own gg)) gg (.ins aQ dg (fG ab 0)) from rfl)]
  obtain⟨k1,k2,k3⟩:=w1.newG htx (bx'.2 _ (by simp)) hg hdg ne
  exact q _ _ ⟨dx,G,S,N,_,rows,k1.push k2 k3⟩
 have n9:¬ k=9:=fun z=>by
  rcases mv with⟨h,_⟩ | ⟨h,_⟩ | ⟨h,_⟩ <;> lia
 refine⟨_,rfl,rfl,_,rfl,ite2 (fun h=>absurd (by have:=V.int.inj (of_decide_eq_true h); lia) n9) (fun _=>?_)⟩
 dsimp only [tNext]
 obtain⟨dg,a,W,j,tt,wl,mg,hg,ma,hW,hj,hdr,hbt⟩:=rdy
 refine⟨_,rfl,g,aQ,dg,_,_,rfl,hg,O.yW,O.gp,lgP,_,_,rfl,rfl,dg,_,hg,by show 2<1000; decide,?_⟩
 rw [show putF "place" (.int ((j:Int)+1)) (fG a j)=fG a (j+1) from pgP (q:=j+1)]
 have w1:=w0.onto mg hg ma hW hj hdr hbt
 generalize upd H g (.ins aQ dg (fG a (j+1)))=H1 at w1
 obtain⟨dw,v,y,n,bd,sz,hw1,tv,c7,c8,hs⟩:=w1.gh.ok bw _ hbw
 rcases mv with⟨rfl,s7,rfl,rfl,rfl⟩ | ⟨rfl,s7,rfl,rfl,rfl⟩ | ⟨hk,rfl,rfl,rfl⟩
 ·refine⟨_,rfl,rfl,_,rfl,ite2 (fun _=>?_) (fun h=>absurd (by decide) h)⟩
  obtain⟨ay,an,rfl,rfl,hty,htn⟩:=c7 s7
  refine⟨_,rfl,o,aM,dx,_,_,rfl,w1.ob,O.dD,O.kg,lwG,.inl ⟨rfl,_,SqL.of w1.hG⟩,_,rfl,bw,aJ,dw,_,_,rfl,hw1,O.gB,O.wy,ldY,fun gg dg hg hdg ne=>⟨gg,dg,ay,rfl,i_,⟨rfl,G,gs0++[.ref g],_,rfl,rfl,?_,?_,?_⟩⟩⟩
  ·rw [kZ]
   exact jw (C:=aQ) (fs:=fG ay 0) hg hdg ne _ _ w1.hG
  ·exact gj (by simp only [List.length_append,List.length_singleton]; lia)
  rw [kZ,← (show mkO H1 gg dg aQ (fG ay 0)=upd (upd H1 dg (.own gg)) gg (.ins aQ dg (fG ay 0)) from rfl)]
  obtain⟨k1,k2,k3⟩:=w1.newG hty (bx'.2 _ (by simp)) hg hdg ne
  exact q _ _ ⟨dx,G,S,N,_,rows,k1.push k2 k3⟩
 ·refine⟨_,rfl,rfl,_,rfl,ite2 (fun h=>absurd h (by decide)) (fun _=>?_)⟩
  refine⟨_,rfl,rfl,_,rfl,ite2 (fun _=>?_) (fun h=>absurd (by decide) h)⟩
  obtain⟨ay,an,rfl,rfl,hty,htn⟩:=c7 s7
  refine⟨_,rfl,o,aM,dx,_,_,rfl,w1.ob,O.dD,O.kg,lwG,.inl ⟨rfl,_,SqL.of w1.hG⟩,_,rfl,bw,aJ,dw,_,_,rfl,hw1,O.gB,O.wn,ldN,fun gg dg hg hdg ne=>⟨gg,dg,an,rfl,i_,⟨rfl,G,gs0++[.ref g],_,rfl,rfl,?_,?_,?_⟩⟩⟩
  ·rw [kZ]
   exact jw (C:=aQ) (fs:=fG an 0) hg hdg ne _ _ w1.hG
  ·exact gj (by simp only [List.length_append,List.length_singleton]; lia)
  rw [kZ,← (show mkO H1 gg dg aQ (fG an 0)=upd (upd H1 dg (.own gg)) gg (.ins aQ dg (fG an 0)) from rfl)]
  obtain⟨k1,k2,k3⟩:=w1.newG htn (bx'.2 _ (by simp)) hg hdg ne
  exact q _ _ ⟨dx,G,S,N,_,rows,k1.push k2 k3⟩
 ·refine⟨_,rfl,rfl,_,rfl,ite2 (fun h=>absurd (show k=7 by have:=V.int.inj (of_decide_eq_true h); lia) (by lia)) (fun _=>?_)⟩
  refine⟨_,rfl,rfl,_,rfl,ite2 (fun h=>absurd (show k=8 by have:=V.int.inj (of_decide_eq_true h); lia) (by lia)) (fun _=>?_)⟩
  exact⟨_,rfl,_,rfl,bw,aJ,dw,_,_,rfl,hw1,O.gB,O.wl,ldL,_,rfl,o,aM,dx,_,_,rfl,w1.ob,O.dD,O.ks,lwS,k,v,S,bf w',sp,rows,M,H₀,rfl,w1.gh,w1.mS,w1.hS,w1.sts,tv,hlk,hb,hkl,fun M' H' rows' G' hS' hr'=>q M' H' ⟨dx,G,S,N,_,rows',w1.ahp G' hS' hr'⟩⟩
end
section
variable {P:Program}{w:World}{K:PySem.W.Frag}{mg:Str→Option Value}{base:Heap}{f:Addr}{fd:FuncData}{ao aF aJ aP aQ aM:Addr}
theorem VJ (O:Own K ao aF aJ aP aQ aM) (dZ:mg "len"=none) {uZ:Value} (BW:mg "SHUT"=some uZ) (vm:RelV (.int 12) uZ) {nZ:Value} (qD:mg "TWIN"=some nZ) (mY:RelV (.int 2) nZ) {n8:Value} (qT:mg "COPIED"=some n8) (mU:RelV (.int 13) n8) {uP:Addr} (QM:mg "LOOKS"=some (.ref uP)) (Qh:∀ H,SqT K H uP [.int 0,.int 1,.int 1,.int 2,.int 2,.int 1,.int 3,.int 1,.int 1,.int 1,.int 1,.int 0,.int 0])
  {D_:Addr}{DK:FuncData} (abZ:Fun K "place_of" "place_of" j8 D_ DK) (abV:FnOk P w K mg base CX0 37 D_ DK ["sort","top"] (ZD K ao aF aJ aP)) (abI:Binds K DK ["sort","top"] []) (abd:mg "place_of"=some (.ref D_))
  {uN:Addr}{uF:FuncData} (RT:Fun K "parts_within" "parts_within" iB uN uF) (RM:FnOk P w K mg base CX0 37 uN uF ["row","most"] (U3 K ao aF aJ aP)) (Rt:Binds K uF ["row","most"] []) (QJ:mg "parts_within"=some (.ref uN))
  {jz:Addr}{Ca:FuncData} (uQ:Meth K aP "word_at" jz) (RP:FnOk P w K mg base CX0 37 jz Ca ["self","place"] (Uz K ao aF aJ aP)) (uJ:Binds K Ca ["self","place"] [])
  {pX:Addr}{Oc:FuncData} (wQ:Meth K aM "top" pX) (Om:FnOk P w K mg base CX0 37 pX Oc ["self"] (afG K ao aF aJ aP aQ aM)) (wO:Binds K Oc ["self"] [])
  {nP:Addr}{JM:FuncData} (Bp:Meth K aM "move" nP) (Zd:FnOk P w K mg base CX0 37 nP JM ["self","step","going","word"] (acu K ao aF aJ aP aQ aM)) (Bf:Binds K JM ["self","step","going","word"] [])
  (F:Fun K "step" "Walk.step" nA f fd):FnOk P w K mg base CX0 38 f fd ["self"] (Zx K ao aF aJ aP aQ aM):=by
 refine okQ F oh (fun vs H Q E h=>?_) (fun cdv A outer s H vs Q E hr h=>?_)
 ·obtain⟨o,M,H₀,tx,sk,num,b,rfl,_⟩:=h
  rfl
 obtain⟨o,M,H₀,tx,sk,num,b,rfl,w0,hne,bx,bs,hnx,qf,qt⟩:=h
 refine⟨_,(au (bA (i:=1) oh.nd rfl (Or.inl rfl) (cB ix_list (bH (qv 0) rfl) (zM uY aD) (fun _ _=>rfl)))
   (au (bA (i:=2) oh.nd rfl (Or.inl rfl) (Z4 (bH (qv 1) rfl) O.cText uQ RP hr uJ .nil pass0 (aj (bH (qv 1) rfl) ak)))
   (au (bA (i:=3) oh.nd rfl (Or.inl rfl) (qQ (aV acQ (qv 2) yh (nomark _)) (aY (v:=.int 12) rfl BW vm) (aN abV hr rfl abd abZ.kp abI .nil pass0 (aj (bH (qv 2) rfl) (aj (oR (qv 0) O.dD wQ Om hr wO .nil pass0) ak)))))
   (au (bA (i:=4) oh.nd rfl (Or.inl rfl) (qQ (aV op_eq (qv 3) (aY (v:=.int 2) rfl qD mY) (nomark _)) (aN RM hr rfl QJ RT.kp Rt .nil pass0 (aj (oR (qv 0) O.dD wQ Om hr wO .nil pass0) (aj (bH (qv 0) rfl) ak))) aD))
   (au (bK (aV Im (qv 4) (bH (qv 0) rfl) (nomark _)) (aB (aR zN)) bD)
   (au (R6 (qv 0) (qv 4) aik)
   (au (Qd (bH (qv 0) rfl) (qv 3) Lw aD Gw set_list)
   (au (bK (aV op_eq (qv 3) (aY (v:=.int 2) rfl qD mY) (nomark _)) (aB (Qd (bH (qv 0) rfl) (aY (v:=.int 13) rfl qT mU) Lw (qv 4) Gw set_list)) bD)
   (au (ud PassesOwn.never (aV aaP (cX call_len_seq rfl dZ pD (aj (bH (qv 0) rfl) ak)) (cB cJ (aY (v:=.ref uP) rfl QM rfl) (qv 3) (fun _ _=>rfl)) (nomark _)) (aB (cR (gA PySem.F.plainAttrs_list PySem.F.slot_list_insert PySem.F.type_list_insert aa7 (bH (qv 0) rfl) (aj aD (aj (aU ak) ak))))))
   (au (cR (Z4 (qv 0) O.dD Bp Zd hr Bf .nil pass0 (aj (qv 3) (aj (qv 1) (aj (qv 2) ak)))))
   (aB (aR zN)))))))))))),?_⟩
 obtain⟨dx,G,S,N,gs,rows,w0⟩:=w0
 obtain⟨p,rest,rfl⟩:∃ p rest,tx=p::rest:=by
  cases tx with
  | nil=>exact absurd rfl hne
  | cons p rest=>exact⟨p,rest,rfl⟩
 have hgo:=w0.gos
 rw [List.reverse_cons] at hgo
 obtain⟨gs0,y,rfl,hg0,hgp⟩:=aX.snoc hgo
 obtain⟨g,dg,a,W,j,tt,rfl,mg,hg,ma,hjk,⟨wl,hW,hjw⟩,rfl,hbt⟩:=hgp
 have h12:=Ig (tx:=T.node (tt.kids.drop j)::rest) (s:=sk)
 have htl:tt.kids.length≤8000000:=by
  have h1:=hbt.2
  have h2:=T.cG tt
  have h3:=T.cV tt.kids
  lia
 have hsp:T.aA sk≤7999999:=by
  have h1:=bs.2
  rw [T.aG] at h1
  lia
 have hsl:=T.cV sk
 have aqx:rest.length+1≤8000000:=bx.1
 have bt0:=jo bs 0
 refine jm (fun v=>[some (.ref o),some v,none,none,none]) (fun _=>rfl) (fun v H'=>v=.ref g∧H'=H) (fun R r=>⟨_,rfl,o,aM,dx,_,_,rfl,w0.ob,O.dD,O.kg,lwG,1,rfl,G,_,_,_,rfl,rfl,SqL.of w0.hG,Cg,r _ _ ⟨rfl,rfl⟩⟩) (fun v1 H1 h1=>?_)
 obtain⟨rfl,rfl⟩:=h1
 refine jm (fun v=>[some (.ref o),some (.ref g),some v,none,none]) (fun _=>rfl) (fun v H'=>∃ M',WkX K ao aF aJ aP aQ aM M' H₀ H' o dx G S N (gs0++[.ref g]) rows (T.node (tt.kids.drop j)::rest) sk num b∧((v=.non∧tt.kids.drop j=[])∨∃ w' ws' bw,v=.ref bw∧M' bw=some (.word w')∧Rdy aQ M' H' g w' ws'∧tt.kids.drop j=w'::ws')) (fun R r=>?_) (fun v2 H2 h2=>?_)
 ·obtain⟨da,va,ha,_,_⟩:=w0.gh.ok a _ ma
  refine⟨_,rfl,g,aQ,dg,_,_,rfl,hg,O.yW,O.gt,lgT,a,da,_,rfl,ha,ano (by decide +kernel) (by decide +kernel),_,rfl,g,aQ,dg,_,_,rfl,hg,O.yW,O.gp,lgP,a,tt,W,j,M,H₀,wl,rfl,w0.gh,ma,hW,hjw,hjk,by have:=hbt.1; lia,htl,fun e=>r _ _ ⟨M,w0,.inl ⟨rfl,by rw [e]; exact List.drop_length⟩⟩,fun w' ew bw M' H' G' hb' hl'=>?_⟩
  obtain⟨_,_,_,_,hMW⟩:=w0.gh.ok a _ ma
  obtain⟨wl',e1,e2⟩:=G'.wds W _ wl hMW hW
  exact r _ _ ⟨M',w0.go G',.inr ⟨w',tt.kids.drop (j+1),bw,rfl,hb',⟨dg,a,W,j,tt,wl',G'.ext _ _ mg,(G'.mine g mg id).trans hg,G'.ext _ _ ma,e1,hl' wl' e1,drop_cons ew,hbt⟩,drop_cons ew⟩⟩
 obtain⟨M2,w2,hv⟩:=h2
 refine jm (fun v=>[some (.ref o),some (.ref g),some v2,some v,none]) (fun _=>rfl) (fun v H'=>v=.int (stepT (T.node (tt.kids.drop j)::rest) sk:Nat)∧Same H2 H') (fun R r=>?_) (fun v3 H3 h3=>?_)
 ·rcases hv with⟨rfl,he⟩ | ⟨w',ws',bw,rfl,hbw,rdy,he⟩
  ·refine⟨_,rfl,rfl,_,rfl,iteT (r _ _ ⟨?_,Same.refl _⟩)⟩
   rw [Uy (show (ats (T.node (tt.kids.drop j)::rest) 0).kids=[] from he)]
   rfl
  ·obtain⟨dw,v,y,n,bd,sz,hw1,tv,c7,c8,hs⟩:=w2.gh.ok bw _ hbw
   refine⟨_,rfl,rfl,_,rfl,iteF ⟨_,rfl,bw,aJ,dw,_,_,rfl,hw1,O.gB,O.wk,ldK,_,rfl,o,dx,_,rfl,w2.ob,Gp (by decide +kernel) (by decide +kernel) (by decide +kernel) (by decide +kernel),o,M2,H₀,_,_,_,_,rfl,⟨dx,G,S,N,_,_,w2⟩,fun x H3 S3 hx=>⟨_,x,ats sk 0,M2,H₀,rfl,w2.gh.grow S3,hx,by have:=bt0.1; lia,fun H4 S4=>r _ _ ⟨?_,S3.trans S4⟩⟩⟩⟩
   rw [aaE (show (T.node (tt.kids.drop j)).kids=w'::ws' from he)]
 obtain⟨rfl,S3⟩:=h3
 have w3:=w2.grow S3
 have hv3:(v2=.non∧tt.kids.drop j=[])∨∃ w' ws' bw,v2=.ref bw∧M2 bw=some (.word w')∧Rdy aQ M2 H3 g w' ws'∧tt.kids.drop j=w'::ws':=by
  rcases hv with hv | ⟨w',ws',bw,e1,e2,e3,e4⟩
  ·exact .inl hv
  ·exact .inr ⟨w',ws',bw,e1,e2,e3.go (.grow w2.gh S3:Go K ao aF aJ aP (fun _=>False) M2 M2 H₀ H2 H3) id w2.gh,e4⟩
 refine jm (fun v=>[some (.ref o),some (.ref g),some v2,some (.int (stepT (T.node (tt.kids.drop j)::rest) sk:Nat)),some v]) (fun _=>rfl) (fun v H'=>Same H3 H'∧∃ c:Nat,v=.int (c:Int)∧(bL (T.node (tt.kids.drop j)::rest) sk≤b→c=bL (T.node (tt.kids.drop j)::rest) sk)∧(b<bL (T.node (tt.kids.drop j)::rest) sk→b<c)) (fun R r=>?_) (fun v4 H4 h4=>?_)
 ·refine⟨_,rfl,rfl,_,rfl,ite2 (fun h=>?_) (fun h=>?_)⟩
  ·have h2:stepT (T.node (tt.kids.drop j)::rest) sk=2:=by have:=V.int.inj (of_decide_eq_true h); lia
   have hc:bL (T.node (tt.kids.drop j)::rest) sk=(ats sk 0).parts:=by unfold bL; rw [if_pos h2]
   refine⟨_,rfl,o,dx,_,rfl,w3.ob,Gp (by decide +kernel) (by decide +kernel) (by decide +kernel) (by decide +kernel),o,M2,H₀,_,_,_,_,rfl,⟨dx,G,S,N,_,_,w3⟩,fun x H4 S4 hx=>⟨_,rfl,o,aM,dx,_,_,rfl,(w3.grow S4).ob,O.dD,O.kl,lwL,x,ats sk 0,M2,H₀,b,rfl,w3.gh.grow S4,hx,by have:=bt0.2; lia,fun c H5 S5 c1 c2=>r _ _ ⟨S4.trans S5,c,rfl,by rw [hc]; exact c1,by rw [hc]; exact c2⟩⟩⟩
  ·have h2:¬ stepT (T.node (tt.kids.drop j)::rest) sk=2:=fun z=>h (decide_eq_true (by rw [z]; rfl))
   have hc:bL (T.node (tt.kids.drop j)::rest) sk=1:=by unfold bL; rw [if_neg h2]
   exact r _ _ ⟨Same.refl _,1,rfl,fun _=>hc.symm,fun z=>by rw [hc] at z; exact z⟩
 obtain⟨S4,c,rfl,c1,c2⟩:=h4
 have w4:=w3.grow S4
 have hv4:(v2=.non∧tt.kids.drop j=[])∨∃ w' ws' bw,v2=.ref bw∧M2 bw=some (.word w')∧Rdy aQ M2 H4 g w' ws'∧tt.kids.drop j=w'::ws':=by
  rcases hv3 with hv | ⟨w',ws',bw,e1,e2,e3,e4⟩
  ·exact .inl hv
  ·exact .inr ⟨w',ws',bw,e1,e2,e3.go (.grow w3.gh S4:Go K ao aF aJ aP (fun _=>False) M2 M2 H₀ H3 H4) id w3.gh,e4⟩
 refine⟨_,rfl,_,rfl,o,aM,dx,_,_,rfl,w4.ob,O.dD,O.kl,lwL,_,_,rfl,rfl,_,rfl,ite2 (fun h=>?_) (fun h=>?_)⟩
 ·have hbc:b<c:=by have:=of_decide_eq_true h; lia
  have hb:b<bL (T.node (tt.kids.drop j)::rest) sk:=by
   rcases Nat.lt_or_ge b (bL (T.node (tt.kids.drop j)::rest) sk) with z | z
   ·exact z
   ·have:=c1 z; lia
  exact qf hb M2 H4 ⟨dx,G,S,N,_,_,w4⟩
 have hcb:c≤b:=by
  have:¬ ((b:Int)<(c:Int)):=fun z=>h (decide_eq_true z)
  lia
 have abq:bL (T.node (tt.kids.drop j)::rest) sk≤b:=by
  rcases Nat.lt_or_ge b (bL (T.node (tt.kids.drop j)::rest) sk) with z | z
  ·have:=c2 z; lia
  ·exact z
 have hc:=c1 abq
 obtain⟨bx2,bs2⟩:=hnx abq
 have q:=qt abq
 have ae4:∀ {Ma:Mp}{Ha:Hp}{lO:List Nat}{rows':List V}{s':List T}{b':Nat},WkX K ao aF aJ aP aQ aM Ma H₀ Ha o dx G S N (gs0++[.ref g]) rows' (T.node (tt.kids.drop j)::rest) s' lO b'→pI aQ Ma Ha (T.node (tt.kids.drop j)) (.ref g):=fun wa=>by
  have hgo:=wa.gos
  rw [List.reverse_cons] at hgo
  obtain⟨gs1,y,e1,_,hy⟩:=aX.snoc hgo
  have:=(List.append_inj' e1 rfl).2
  cases this
  exact hy
 dsimp only [tNext]
 refine⟨_,rfl,o,aM,dx,_,_,rfl,w4.ob,O.dD,O.kl,lwL,_,rfl,_,_,rfl,rfl,dx,_,w4.ob,by show 4<1000; decide,?_⟩
 rw [show (V.int ((b:Int) - (c:Int)):V)=.int ((b - c:Nat):Int) by congr 1; lia,pwL]
 have w5:=w4.alb (b - c)
 have G5:Go K ao aF aJ aP (fun a=>a=o) M2 M2 H₀ H4 (upd H4 o (.ins aM dx (fW G S N (b - c)))):=Go.oX (.refl w4.gh) w4.mo rfl (Kt.ins w4.ob)
 have ngo:¬ g=o:=by
  obtain⟨g',_,_,_,_,_,e,_,h2,_⟩:=ae4 w4
  cases e
  intro z
  rw [z,w4.ob] at h2
  have h3:=(HO.ins.inj (Option.some.inj h2)).2.2
  exact absurd (congrArg List.length h3) (by simp [fG,fW])
 have hv5:(v2=.non∧tt.kids.drop j=[])∨∃ w' ws' bw,v2=.ref bw∧M2 bw=some (.word w')∧Rdy aQ M2 (upd H4 o (.ins aM dx (fW G S N (b - c)))) g w' ws'∧tt.kids.drop j=w'::ws':=by
  rcases hv4 with hv | ⟨w',ws',bw,e1,e2,e3,e4⟩
  ·exact .inl hv
  ·exact .inr ⟨w',ws',bw,e1,e2,e3.go G5 ngo w4.gh,e4⟩
 generalize upd H4 o (.ins aM dx (fW G S N (b - c)))=H5 at w5 hv5
 have mgg:M2 g=some .mine:=by
  obtain⟨g',_,_,_,_,_,e,h2,_⟩:=ae4 w4
  cases e
  exact h2
 have gnl:∀ {Ha:Hp}{lO:List Nat}{rows':List V}{s':List T}{b':Nat}{q:Addr}{l:List V},WkX K ao aF aJ aP aQ aM M2 H₀ Ha o dx G S N (gs0++[.ref g]) rows' (T.node (tt.kids.drop j)::rest) s' lO b'→Ha q=some (.lst l)→¬ g=q:=fun wa hq z=>by
  obtain⟨g',_,_,_,_,_,e,_,h2,_⟩:=ae4 wa
  cases e
  rw [z,hq] at h2
  cases h2
 generalize hK:stepT (T.node (tt.kids.drop j)::rest) sk=k at *
 refine⟨_,rfl,o,aM,dx,_,_,rfl,w5.ob,O.dD,O.kn,lwN,_,rfl,N,_,_,_,rfl,rfl,SqL.of w5.hN,abL (k:=k) w5.n15 (by lia),_,_,rfl,rfl,N,_,_,k,rfl,rfl,w5.hN,Q7 (j:=k) (by rw [List.length_map,w5.n15]; lia),?_⟩
 rw [show (V.int ((num.getD k 0:Int)+1):V)=V.int ((num.getD k 0:Int)+((1:Nat):Int)) from rfl,PK]
 have w6:=w5.aei (lO:=num.set k (num.getD k 0+1)) (by rw [List.length_set]; exact w5.n15)
 have G6:Go K ao aF aJ aP (fun a=>a=N) M2 M2 H₀ H5 (upd H5 N (.lst ((num.set k (num.getD k 0+1)).map nv))):=.list w5.gh w5.mN w5.hN
 have hv6:(v2=.non∧tt.kids.drop j=[])∨∃ w' ws' bw,v2=.ref bw∧M2 bw=some (.word w')∧Rdy aQ M2 (upd H5 N (.lst ((num.set k (num.getD k 0+1)).map nv))) g w' ws'∧tt.kids.drop j=w'::ws':=by
  rcases hv5 with hv | ⟨w',ws',bw,e1,e2,e3,e4⟩
  ·exact .inl hv
  ·exact .inr ⟨w',ws',bw,e1,e2,e3.go G6 (gnl w5 w5.hN) w5.gh,e4⟩
 generalize upd H5 N (.lst ((num.set k (num.getD k 0+1)).map nv))=H6 at w6 hv6
 dsimp only
 refine abm (fun σ' H'=>σ'=[some (.ref o),some (.ref g),some v2,some (.int (k:Int)),some (.int (c:Int))]∧WkX K ao aF aJ aP aQ aM M2 H₀ H' o dx G S N (gs0++[.ref g]) rows (T.node (tt.kids.drop j)::rest) sk (Df k c num) (b - c)∧((v2=.non∧tt.kids.drop j=[])∨∃ w' ws' bw,v2=.ref bw∧M2 bw=some (.word w')∧Rdy aQ M2 H' g w' ws'∧tt.kids.drop j=w'::ws')) (fun σ' H7 h7=>?_) (fun A' B' hA hB=>⟨_,rfl,rfl,_,rfl,ite2 (fun h=>hA _ fun N' hN'=>?_) (fun h=>hB _ ⟨rfl,?_,hv6⟩)⟩)
 rotate_left
 ·have h2:k=2:=by have:=V.int.inj (of_decide_eq_true h); lia
  subst h2
  refine⟨_,rfl,o,aM,dx,_,_,rfl,w6.ob,O.dD,O.kn,lwN,N,_,_,_,rfl,rfl,SqL.of w6.hN,abL (k:=13) w6.n15 (by lia),_,rfl,_,_,rfl,rfl,N,_,_,13,rfl,rfl,w6.hN,Q7 (j:=13) (by rw [List.length_map,w6.n15]; lia),?_⟩
  rw [PK]
  have w7:=w6.aei (lO:=(num.set 2 (num.getD 2 0+1)).set 13 ((num.set 2 (num.getD 2 0+1)).getD 13 0+c)) (by rw [List.length_set]; exact w6.n15)
  have G7:Go K ao aF aJ aP (fun a=>a=N) M2 M2 H₀ H6 (upd H6 N (.lst (((num.set 2 (num.getD 2 0+1)).set 13 ((num.set 2 (num.getD 2 0+1)).getD 13 0+c)).map nv))):=.list w6.gh w6.mN w6.hN
  refine hN' _ _ ⟨rfl,by unfold Df; rw [if_pos rfl]; exact w7,?_⟩
  rcases hv6 with hv | ⟨w',ws',bw,e1,e2,e3,e4⟩
  ·exact .inl hv
  ·exact .inr ⟨w',ws',bw,e1,e2,e3.go G7 (gnl w6 w6.hN) w6.gh,e4⟩
 ·have h2:¬ k=2:=fun z=>h (decide_eq_true (by rw [z]; rfl))
  unfold Df
  rw [if_neg h2]
  exact w6
 obtain⟨rfl,w7,hv7⟩:=h7
 have lk3:=aeP k
 refine⟨fun μ σ H'=>∃ (i:Nat) (rows':List V),σ=[some (.ref o),some (.ref g),some v2,some (.int (k:Int)),some (.int (c:Int))]∧WkX K ao aF aJ aP aQ aM M2 H₀ H' o dx G S N (gs0++[.ref g]) rows' (T.node (tt.kids.drop j)::rest) (sk++List.replicate i leaf) (Df k c num) (b - c)∧((v2=.non∧tt.kids.drop j=[])∨∃ w' ws' bw,v2=.ref bw∧M2 bw=some (.word w')∧Rdy aQ M2 H' g w' ws'∧tt.kids.drop j=w'::ws')∧sk.length+i≤max (looks k) sk.length∧μ=3 - i,⟨_,0,rows,rfl,by rw [List.replicate_zero,List.append_nil]; exact w7,hv7,by lia,rfl⟩,?_⟩
 rintro μ σ H8 ⟨i,rows',rfl,w8,hv8,hi,rfl⟩
 have hrl:=w8.sts.length
 rw [List.length_reverse,List.length_append,List.length_replicate] at hrl
 refine⟨_,rfl,o,aM,dx,_,_,rfl,w8.ob,O.dD,O.ks,lwS,S,rows',rfl,.inl (SqL.of w8.hS),_,rfl,uP,_,_,_,rfl,rfl,Qh _,aeQ h12,_,_,rfl,rfl,_,rfl,ite2 (fun h=>?_) (fun h=>?_)⟩
 ·have hlt:rows'.length<looks k:=by have:=of_decide_eq_true h; lia
  refine⟨fun σ' H'=>∃ m',m'<3 - i∧∃ (i:Nat) (rows':List V),σ'=[some (.ref o),some (.ref g),some v2,some (.int (k:Int)),some (.int (c:Int))]∧WkX K ao aF aJ aP aQ aM M2 H₀ H' o dx G S N (gs0++[.ref g]) rows' (T.node (tt.kids.drop j)::rest) (sk++List.replicate i leaf) (Df k c num) (b - c)∧((v2=.non∧tt.kids.drop j=[])∨∃ w' ws' bw,v2=.ref bw∧M2 bw=some (.word w')∧Rdy aQ M2 H' g w' ws'∧tt.kids.drop j=w'::ws')∧sk.length+i≤max (looks k) sk.length∧m'=3 - i,fun _ _ h=>h,?_⟩
  refine⟨_,rfl,o,aM,dx,_,_,rfl,w8.ob,O.dD,O.ks,lwS,.inl ⟨rfl,_,SqL.of w8.hS⟩,Nat.zero_le _,fun p9 g9=>?_⟩
  obtain⟨S9,t9⟩:=bN (K:=K) (ts:=[]) g9 (bJ.mpr rfl)
  have w9:=w8.grow S9
  have hS9:=w9.hS
  refine⟨S,rows',_,rfl,rfl,hS9,gj (by lia),?_⟩
  have Gx:Go K ao aF aJ aP (fun a=>a=S) M2 M2 H₀ (upd H8 p9 (.tup [])) (upd (upd H8 p9 (.tup [])) S (.lst (.ref p9::rows'))):=.list w9.gh w9.mS hS9
  have w10:=w9.ahp (s':=sk++List.replicate (i+1) leaf) Gx upd_same (by
   rw [List.replicate_succ',← List.append_assoc,List.reverse_append]
   exact aX.cons (.inl (t9.mono (Kt.lst hS9))) (w9.sts.imp fun _ _ z=>Gx.rv z))
  refine⟨_,?_,i+1,_,rfl,w10,?_,by lia,rfl⟩
  ·lia
  ·rcases hv8 with hv | ⟨w',ws',bw,e1,e2,e3,e4⟩
   ·exact .inl hv
   ·exact .inr ⟨w',ws',bw,e1,e2,(e3.go (.grow w8.gh S9:Go K ao aF aJ aP (fun _=>False) M2 M2 H₀ H8 _) id w8.gh).go Gx (gnl w9 hS9) w9.gh,e4⟩
 have hge:looks k≤rows'.length:=by
  have:¬ ((rows'.length:Int)<((looks k:Nat):Int)):=fun z=>h (decide_eq_true z)
  lia
 have aol:sk++List.replicate i leaf=pad sk (looks k):=ahV hi (by lia)
 rw [aol] at w8
 have hpl:looks k≤(pad sk (looks k)).length:=Bx sk (looks k)
 have hB:=(Jg (looks k) (by lia) (by lia) bs).le (a':=395) (b':=8000010) (by lia) (by lia)
 have hkd:∀ t∈pad sk (looks k),t.kids.length≤8000000:=ago (agM (by lia))
 refine⟨_,rfl,o,dx,_,rfl,w8.ob,Gp (by decide +kernel) (by decide +kernel) (by decide +kernel) (by decide +kernel),_,rfl,_,rfl,_,rfl,o,dx,G,S,N,gs0,g,rows',_,rest,pad sk (looks k),Df k c num,b - c,k,v2,M2,H₀,rfl,w8,hpl,hB,hkd,by lia,?_⟩
 rw [← hc] at q
 rcases hv8 with⟨rfl,he⟩ | ⟨w',ws',bw,rfl,hbw,rdy,he⟩
 ·have ait:k=12:=by rw [← hK]; exact Uy (show (ats (T.node (tt.kids.drop j)::rest) 0).kids=[] from he)
  refine .inl ⟨ait,fun M' H' wf=>q M' H' ?_⟩
  have on:=acR (s:=sk) (show (ats (T.node (tt.kids.drop j)::rest) 0).kids=[] from he)
  rw [on,xq w0.n15 (by rw [hK]; lia),hK,← hc]
  rw [ait] at wf ⊢
  rw [show pad sk (looks 12)=sk from cU (Nat.zero_le _)] at wf
  exact wf
 ·have mv:=akf (p:=T.node (tt.kids.drop j)) (rest:=rest) (s:=sk) (num:=num) (congrArg T.node he) w0.n15
  rw [hK,← hc] at mv
  have hlp:(bf w').parts≤8000000:=by
   have h1:=hbt.2
   have h2:=T.cG tt
   have h3:=T.Kw j tt.kids
   rw [he,T.aq] at h3
   have h4:=abg w'
   lia
  exact .inr ⟨w',ws',bw,_,_,_,congrArg T.node he,rfl,hbw,rdy,mv,bx2,hlp,fun M' H' wf=>q M' H' wf⟩
end
section
variable {P:Program}{w:World}{K:PySem.W.Frag}{mg:Str→Option Value}{base:Heap}{f:Addr}{fd:FuncData}{ao aF aJ aP aQ aM:Addr}
theorem acS (O:Own K ao aF aJ aP aQ aM)
  (Wa:mg "Walk"=some (.ref aM))
  {jd:Addr}{zR:FuncData} (RK:Mk K aM jd) (Oo:FnOk P w K mg base CX0 37 jd zR ["self","stand","budget"] (UG K ao aF aJ aP aQ aM)) (tQ:Binds K zR ["self","stand","budget"] [])
  {nO:Addr}{JL:FuncData} (Bo:Meth K aM "step" nO) (Zc:FnOk P w K mg base CX0 38 nO JL ["self"] (Zx K ao aF aJ aP aQ aM)) (Bd:Binds K JL ["self"] [])
  {jY:Addr}{Em:FuncData} (wA:Meth K aM "at_end" jY) (Ue:FnOk P w K mg base CX0 38 jY Em ["self"] (ZL K ao aF aJ aP aQ aM)) (wj:Binds K Em ["self"] [])
  (F:Fun K "walked" "walked" ou f fd):FnOk P w K mg base CX0 39 f fd ["stand","budget"] (J3 K ao aF aJ aP aQ aM):=by
 refine okQ F R5 (fun vs H Q E h=>?_) (fun cdv A outer s H vs Q E hr h=>?_)
 ·obtain⟨x,tx,sk,b,rfl,_⟩:=h
  rfl
 obtain⟨x,tx,sk,b,rfl,hx,hsn,q⟩:=h
 refine⟨_,(au (bA (i:=2) R5.nd rfl (Or.inl rfl) (jV RK Oo hr rfl Wa tQ .nil pass0 (aj (qv 0) (aj (qv 1) ak))))
   (au (ud PassesOwn.never (QW.pt (sG (Vo (oO (oR (qv 2) O.dD wA Ue hr wj .nil pass0))) (pO (oO (oR (qv 2) O.dD Bo Zc hr Bd .nil pass0))))) (aB af8))
   (aB (aR (qv 2))))),?_⟩
 refine jm (fun v=>[some x,some (.int (b:Int)),some v]) (fun _=>rfl) (fun v H'=>∃ o M,v=.ref o∧Wk K ao aF aJ aP aQ aM M H H' o tx sk iw b) (fun R r=>⟨_,rfl,_,rfl,fun o dx ho hd ne=>⟨o,dx,x,tx,sk,b,setM (fun _=>none) o .mine,H,rfl,(Go.made (X:=fun _=>False) (C:=aM) (fs:=[]) (Gh.nil H) ho hd ne).gh,eV,i_,hx.mono (.of (jw (C:=aM) (fs:=[]) ho hd ne)),hsn.bx,hsn.bs,fun M' H' wf=>⟨rfl,r _ _ ⟨o,M',rfl,wf⟩⟩⟩⟩) (fun v1 H1 h1=>?_)
 obtain⟨o,M1,rfl,w1⟩:=h1
 refine⟨fun μ σ H'=>∃ (M:Mp) (tx' s':List T) (num:List Nat) (b':Nat),σ=[some x,some (.int (b:Int)),some (.ref o)]∧Wk K ao aF aJ aP aQ aM M H H' o tx' s' num b'∧Sane b' tx' s'∧num.length=15∧goT b tx sk=((goT b' tx' s').1,(goT b' tx' s').2.1,fC num (goT b' tx' s').2.2)∧spT b tx sk+b'=b+spT b' tx' s'∧μ=b'+1,⟨_,M1,tx,sk,iw,b,rfl,w1,hsn,rfl,by rw [adJ (Gy _ _ _)],Nat.add_comm _ _,rfl⟩,?_⟩
 rintro μ σ H2 ⟨M,tx',s',num,b',rfl,w2,hs2,hn2,hgo,hsp,rfl⟩
 have stop:(tx'=[]∨b'<bL tx' s')→∀ M' H',Wk K ao aF aJ aP aQ aM M' H H' o tx' s' num b'→Q (.ref o) H':=fun hst M' H' wf=>by
  refine q o M' H' b' ?_
  rw [ux hst,Zr hst] at *
  rw [hgo]
  show Wk _ _ _ _ _ _ _ _ _ _ _ tx' s' (fC num iw) b'
  rw [abN hn2]
  exact wf
 refine⟨_,rfl,o,?_⟩
 obtain⟨dx,G,S,N,gs,rows,wx⟩:=id w2
 refine⟨dx,_,rfl,wx.ob,Gp (by decide +kernel) (by decide +kernel) (by decide +kernel) (by decide +kernel),o,M,H,tx',s',num,b',rfl,w2,_,rfl,?_⟩
 by_cases he:tx'=[]
 ·rw [decide_eq_true he]
  refine iteF (iteF ⟨_,rfl,stop (.inl he) M H2 w2⟩)
 rw [decide_eq_false he]
 refine iteT ⟨_,rfl,o,dx,_,rfl,wx.ob,Gp (by decide +kernel) (by decide +kernel) (by decide +kernel) (by decide +kernel),o,M,H,tx',s',num,b',rfl,w2,he,hs2.bx,hs2.bs,fun hc=>⟨(hs2.next he hc).bx,(hs2.next he hc).bs⟩,fun hc M' H' wf=>⟨_,rfl,iteF ⟨_,rfl,stop (.inr hc) M' H' wf⟩⟩,fun hc M' H' wf=>⟨_,rfl,iteT ?_⟩⟩
 have hcp:=DQ tx' s'
 refine⟨fun σ' H''=>σ'=[some x,some (.int (b:Int)),some (.ref o)]∧H''=H',fun σ' H'' h=>⟨b' - bL tx' s'+1,by lia,?_⟩,rfl,rfl⟩
 obtain⟨rfl,rfl⟩:=h
 refine⟨M',_,_,_,_,rfl,wf,hs2.next he hc,MJ hn2 (N_ _ _),?_,?_,rfl⟩
 ·rw [hgo,xg he hc]
  show (_,_,fC num (fC _ _))=(_,_,fC (fC num _) _)
  rw [abO]
 ·rw [Zt he hc] at hsp
  lia
end
section
variable {P:Program}{w:World}{K:PySem.W.Frag}{mg:Str→Option Value}{base:Heap}{f:Addr}{fd:FuncData}{ao aF aJ aP aQ aM:Addr}
theorem aeK
  (F:Fun K "begin" "begin" uc f fd):FnOk P w K mg base CX0 31 f fd ["text","tree"] (ZK K):=by
 refine okQ F aen (fun vs H Q E h=>?_) (fun cdv A outer s H vs Q E hr h=>?_)
 ·obtain⟨x,t,y,u,rfl,_⟩:=h
  rfl
 obtain⟨x,t,y,u,rfl,hx,hy,q⟩:=h
 refine⟨_,(aB (aR (aU (aj (aU (aj (qv 0) ak)) (aj (aU (aj (qv 1) ak)) ak))))),?_⟩
 refine⟨_,rfl,(by show 1≤sizeLine; decide),fun p1 g1=>⟨_,rfl,(by show 1≤sizeLine; decide),fun p2 g2=>⟨(by show 2≤sizeLine; decide),fun p3 g3=>?_⟩⟩⟩
 obtain⟨S1,t1⟩:=bN (K:=K) g1 (dO hx)
 obtain⟨S2,t2⟩:=bN (K:=K) g2 (dO (hy.mono (.of S1)))
 obtain⟨S3,t3⟩:=bN (K:=K) g3 (pZ (t1.mono (.of S2)) t2)
 exact q _ _ (S1.trans (S2.trans S3)) t3
theorem ok_put {rO:Value} (wX:mg "FRONT"=some rO) (rR:RelV (.int 4) rO)
  {uM:Addr}{uE:FuncData} (RQ:Fun K "plain" "plain" rQ uM uE) (RL:FnOk P w K mg base CX0 32 uM uE ["sort"] (Py K)) (Rr:Binds K uE ["sort"] []) (QH:mg "plain"=some (.ref uM))
  {Ea:Addr}{DN:FuncData} (ab0:Fun K "lay" "lay" zK Ea DN) (abW:FnOk P w K mg base CX0 32 Ea DN ["tree"] (aaF K)) (abJ:Binds K DN ["tree"] []) (abe:mg "lay"=some (.ref Ea))
  (F:Fun K "put" "put" CK f fd):FnOk P w K mg base CX0 33 f fd ["text","tree"] (afH K):=by
 refine okQ F ahq (fun vs H Q E h=>?_) (fun cdv A outer s H vs Q E hr h=>?_)
 ·obtain⟨x,p,y,d,rfl,_⟩:=h
  rfl
 obtain⟨x,p,y,d,rfl,hx,hy,hp,hd,q⟩:=h
 refine⟨_,(aB (aR (aW bh (aU (aj (aN abW hr rfl abe ab0.kp abJ .nil pass0 (aj (qv 1) ak)) (aj (aN RL hr rfl QH RQ.kp Rr .nil pass0 (aj (aY (v:=.int 4) rfl wX rR) ak)) ak))) (qv 0)))),?_⟩
 have hpl:=hp.len
 refine⟨_,rfl,y,d,rfl,hy,by have:=hd.1; lia,by have:=hd.2; lia,fun z1 H1 S1 t1=>?_⟩
 refine⟨4,rfl,by lia,by lia,fun z2 H2 S2 t2=>⟨(by show 2≤sizeLine; decide),fun p3 g3=>?_⟩⟩
 obtain⟨S3,t3⟩:=bN (K:=K) g3 (pZ (t1.mono (.of S2)) t2)
 have S13:=S1.trans (S2.trans S3)
 refine⟨_,rfl,cH t3 (hx.mono (.of S13)) (fV (by show 2+_≤_; lia)) (fun z4 H4 S4 t4=>q _ _ (S13.trans S4) t4)⟩
theorem agv (O:Own K ao aF aJ aP aQ aM)
  {rH:Addr}{rm:FuncData} (Nb:Fun K "walked" "walked" ou rH rm) (M8:FnOk P w K mg base CX0 39 rH rm ["stand","budget"] (J3 K ao aF aJ aP aQ aM)) (Mv:Binds K rm ["stand","budget"] []) (K8:mg "walked"=some (.ref rH))
  {gO:Addr}{pA:FuncData} (mq:Meth K aM "tally" gO) (zA:FnOk P w K mg base CX0 39 gO pA ["self"] (Px K ao aF aJ aP aQ aM)) (lX:Binds K pA ["self"] [])
  {lZ:Addr}{Hi:FuncData} (zq:Meth K aM "stand" lZ) (Yc:FnOk P w K mg base CX0 39 lZ Hi ["self"] (Zy K ao aF aJ aP aQ aM)) (za:Binds K Hi ["self"] [])
  (F:Fun K "gone" "gone" xV f fd):FnOk P w K mg base CX0 40 f fd ["stand","budget"] (acw K):=by
 refine okQ F ZQ (fun vs H Q E h=>?_) (fun cdv A outer s H vs Q E hr h=>?_)
 ·obtain⟨x,tx,sk,b,rfl,_⟩:=h
  rfl
 obtain⟨x,tx,sk,b,rfl,hx,hsn,q⟩:=h
 refine⟨_,(au (bA (i:=2) ZQ.nd rfl (Or.inl rfl) (aN M8 hr rfl K8 Nb.kp Mv .nil pass0 (aj (qv 0) (aj (qv 1) ak))))
   (aB (aR (aU (aj (oR (qv 2) O.dD zq Yc hr za .nil pass0) (aj (oR (qv 2) O.dD mq zA hr lX .nil pass0) ak)))))),?_⟩
 refine jm (fun v=>[some x,some (.int (b:Int)),some v]) (fun _=>rfl) (fun v H'=>∃ o M b',v=.ref o∧Wk K ao aF aJ aP aQ aM M H H' o (goT b tx sk).1 (goT b tx sk).2.1 (goT b tx sk).2.2 b') (fun R r=>⟨_,rfl,_,rfl,x,tx,sk,b,rfl,hx,hsn,fun o M' H' b' wf=>r _ _ ⟨o,M',b',rfl,wf⟩⟩) (fun v1 H1 h1=>?_)
 obtain⟨o,M1,b1,rfl,w1⟩:=h1
 obtain⟨dx,G,S,N,gs,rows,wx⟩:=id w1
 obtain⟨bl,sl⟩:=Sane.last b tx sk hsn
 refine⟨_,rfl,o,dx,_,rfl,wx.ob,Gp (by decide +kernel) (by decide +kernel) (by decide +kernel) (by decide +kernel),o,M1,H,_,_,_,_,rfl,w1,bl,sl,fun y H2 S2 ty=>?_⟩
 have w2:=wx.grow S2
 refine⟨_,rfl,o,dx,_,rfl,w2.ob,Gp (by decide +kernel) (by decide +kernel) (by decide +kernel) (by decide +kernel),o,M1,H,_,_,_,_,rfl,⟨dx,G,S,N,gs,rows,w2⟩,fun c H3 S3 hc=>⟨(by show 2≤sizeLine; decide),fun p g=>?_⟩⟩
 have S4:=same_new g (.tup [y,.ref c])
 exact q p y c _ (wx.gh.same.trans (S2.trans (S3.trans S4))) (SqT.of upd_same) (ty.mono (.of (S3.trans S4))) (bW (.of S4) hc)
theorem Yu (O:Own K ao aF aJ aP aQ aM)
  {rH:Addr}{rm:FuncData} (Nb:Fun K "walked" "walked" ou rH rm) (M8:FnOk P w K mg base CX0 39 rH rm ["stand","budget"] (J3 K ao aF aJ aP aQ aM)) (Mv:Binds K rm ["stand","budget"] []) (K8:mg "walked"=some (.ref rH))
  {Ry:Addr}{Rm:FuncData} (ag9:Fun K "begin" "begin" uc Ry Rm) (ag7:FnOk P w K mg base CX0 39 Ry Rm ["text","tree"] (ZK K)) (ag3:Binds K Rm ["text","tree"] []) (agD:mg "begin"=some (.ref Ry))
  {gO:Addr}{pA:FuncData} (mq:Meth K aM "tally" gO) (zA:FnOk P w K mg base CX0 39 gO pA ["self"] (Px K ao aF aJ aP aQ aM)) (lX:Binds K pA ["self"] [])
  (F:Fun K "tally_of" "tally_of" mQ f fd):FnOk P w K mg base CX0 40 f fd ["text","tree","budget"] (RZ K):=by
 refine okQ F Yn (fun vs H Q E h=>?_) (fun cdv A outer s H vs Q E hr h=>?_)
 ·obtain⟨x,y,t,u,b,rfl,_⟩:=h
  rfl
 obtain⟨x,y,t,u,b,rfl,hx,hy,hsn,q⟩:=h
 refine⟨_,(aB (aR (oR (aN M8 hr rfl K8 Nb.kp Mv .nil pass0 (aj (aN ag7 hr rfl agD ag9.kp ag3 .nil pass0 (aj (qv 0) (aj (qv 1) ak))) (aj (qv 2) ak))) O.dD mq zA hr lX .nil pass0))),?_⟩
 refine⟨_,rfl,_,rfl,x,t,y,u,rfl,hx,hy,fun z H1 S1 tz=>⟨_,rfl,z,[t],[u],b,rfl,tz,hsn,fun o M' H' b' wf=>?_⟩⟩
 obtain⟨dx,G,S,N,gs,rows,wx⟩:=id wf
 exact⟨o,dx,_,rfl,wx.ob,Gp (by decide +kernel) (by decide +kernel) (by decide +kernel) (by decide +kernel),o,M',H1,_,_,_,_,rfl,wf,fun c H2 S2 hc=>q c _ (S1.trans (wx.gh.same.trans S2)) hc⟩
end
section
variable {P:Program}{w:World}{K:PySem.W.Frag}{mg:Str→Option Value}{base:Heap}{f:Addr}{fd:FuncData}
theorem aeJ
  (F:Fun K "first" "first" nq f fd):FnOk P w K mg base CX0 31 f fd ["tree"] (Ih K):=by
 refine okQ F aem (fun vs H Q E h=>?_) (fun cdv A outer s H vs Q E hr h=>?_)
 ·obtain⟨x,t,rfl,_⟩:=h
  rfl
 obtain⟨x,t,rfl,ht,hd,q⟩:=h
 have hE:=hr.un
 have hE:(A.deeper (envOfC "first" (defScope nq) s.heap.objs.size f cdv)).units+401<cLine:=by lia
 refine⟨_,(au (bK (aV (BJ hE) (qv 0) (aU ak) (nomark _)) (aB (aR (aU ak))) bD)
   (aB (aR (cB cJ (qv 0) aD (fun _ _=>rfl))))),?_⟩
 refine⟨_,rfl,Nat.zero_le _,fun p1 g1=>⟨t,leaf,ht.mono (.new g1),jx upd_same,by lia,_,rfl,ite2 (fun hb=>?_) (fun hb=>?_)⟩⟩
 ·have e:=(T.beq_iff _ _).mp hb
  rw [e] at q
  exact⟨Nat.zero_le _,fun p2 g2=>q _ _ ((same_new g1 _).trans (same_new g2 _)) (jx upd_same)⟩
 ·cases t with
  | node ts =>
   cases ts with
   | nil=>exact absurd ((T.beq_iff _ _).mpr rfl) hb
   | cons u us=>exact⟨_,rfl,iV (ht.mono (.new g1)) 0 rfl (fun z tz=>q _ _ (same_new g1 _) tz)⟩
theorem agt
  (F:Fun K "rest" "rest" vh f fd):FnOk P w K mg base CX0 31 f fd ["tree"] (Fq K):=by
 refine okQ F afZ (fun vs H Q E h=>?_) (fun cdv A outer s H vs Q E hr h=>?_)
 ·obtain⟨x,t,rfl,_⟩:=h
  rfl
 obtain⟨x,t,rfl,ht,q⟩:=h
 refine⟨_,(aB (aR (cW eF (qv 0) (dI aD) eN))),?_⟩
 cases t with
 | node ts=>exact⟨_,rfl,1,rfl,lQ ht 1 (fun z H' S tz=>q z H' S tz)⟩
theorem aaS (IV:mg "min"=none) (dZ:mg "len"=none) {j4:Value} (pQ:mg "NAMELESS"=some j4) (j9:RelV (.int 9) j4)
  {lY:Addr}{lW:FuncData} (Ck:Fun K "first" "first" nq lY lW) (Cj:FnOk P w K mg base CX0 31 lY lW ["tree"] (Ih K)) (Ce:Binds K lW ["tree"] []) (BR:mg "first"=some (.ref lY))
  (F:Fun K "sort_of" "sort_of" oE f fd):FnOk P w K mg base CX0 32 f fd ["word"] (Zz K):=by
 refine okQ F aaG (fun vs H Q E h=>?_) (fun cdv A outer s H vs Q E hr h=>?_)
 ·obtain⟨x,t,rfl,_⟩:=h
  rfl
 obtain⟨x,t,rfl,ht,h1,q⟩:=h
 refine⟨_,(aB (aR (cX (Sx rfl) rfl IV adv (aj (cX call_len_seq rfl dZ pD (aj (aN Cj hr rfl BR Ck.kp Ce .nil pass0 (aj (qv 0) ak)) ak)) (aj (aY (v:=.int 9) rfl pQ j9) ak))))),?_⟩
 refine⟨_,rfl,x,t,rfl,ht,h1,fun y H1 S1 t1=>?_⟩
 obtain⟨b,ys,rfl,hb',rb⟩:=cF.mp (mj t1)
 refine⟨b,ys,rfl,.inr hb',_,_,rfl,?_⟩
 rw [rb.length,show (if (9:Int)<((ats t.kids 0).kids.length:Int) then (9:Int) else ((ats t.kids 0).kids.length:Int))=((aH t:Nat):Int) by rw [U9]; split <;> lia]
 exact q _ S1
theorem aaV
  {zf:Addr}{yM:FuncData} (Yh:Fun K "rest" "rest" vh zf yM) (X8:FnOk P w K mg base CX0 31 zf yM ["tree"] (Fq K)) (Xr:Binds K yM ["tree"] []) (V6:mg "rest"=some (.ref zf))
  (F:Fun K "load_of" "load_of" oH f fd):FnOk P w K mg base CX0 32 f fd ["word"] (Fq K):=by
 refine okQ F aaI (fun vs H Q E h=>?_) (fun cdv A outer s H vs Q E hr h=>?_)
 ·obtain⟨x,t,rfl,_⟩:=h
  rfl
 obtain⟨x,t,rfl,ht,q⟩:=h
 refine⟨_,(aB (aR (aN X8 hr rfl V6 Yh.kp Xr .nil pass0 (aj (qv 0) ak)))),?_⟩
 exact⟨_,rfl,x,t,rfl,ht,fun y H' S ty=>q _ _ S ty⟩
theorem ahY
  (F:Fun K "lay" "lay" zK f fd):FnOk P w K mg base CX0 31 f fd ["tree"] (aaF K):=by
 refine okQ F ahr (fun vs H Q E h=>?_) (fun cdv A outer s H vs Q E hr h=>?_)
 ·obtain⟨x,t,rfl,_⟩:=h
  rfl
 obtain⟨x,t,rfl,ht,h1,h2,q⟩:=h
 refine⟨_,(aB (aR (aW bh (aU (aj (aU ak) ak)) (qv 0)))),?_⟩
 have hl:=(show B 400 1000000 t from ⟨h1,h2⟩)
 rw [← fO t] at hl
 have hl:=hl.len
 refine⟨Nat.zero_le _,fun p1 g1=>⟨(by show 1≤sizeLine; decide),fun p2 g2=>?_⟩⟩
 obtain⟨S1,t1⟩:=bN (K:=K) (ts:=[]) g1 (bJ.mpr rfl)
 obtain⟨S2,t2⟩:=bN (K:=K) g2 (dO t1)
 exact⟨_,rfl,cH t2 (mj (ht.mono (.of (S1.trans S2)))) (small (by rw [List.length_singleton]; lia)) (fun z H' S tz=>q _ _ (S1.trans (S2.trans S)) tz)⟩
theorem aeG
  (F:Fun K "plain" "plain" rQ f fd):FnOk P w K mg base CX0 31 f fd ["sort"] (Py K):=by
 refine okQ F aek (fun vs H Q E h=>?_) (fun cdv A outer s H vs Q E hr h=>?_)
 ·obtain⟨n,rfl,_⟩:=h
  rfl
 obtain⟨n,rfl,h1,h6,q⟩:=h
 refine⟨_,(aB (aR (aU (aj (aW mV (aU (aj (aU ak) ak)) (qv 0)) ak)))),?_⟩
 refine⟨Nat.zero_le _,fun p1 g1=>⟨(by show 1≤sizeLine; decide),fun p2 g2=>?_⟩⟩
 obtain⟨S1,t1⟩:=bN (K:=K) (ts:=[]) g1 (bJ.mpr rfl)
 obtain⟨S2,t2⟩:=bN (K:=K) g2 (dO t1)
 refine⟨_,rfl,aa6 n t2 rfl (by lia) (by lia) (by lia) (fun z H' S tz=>⟨(by show 1≤sizeLine; decide),fun p3 g3=>?_⟩)⟩
 obtain⟨S3,t3⟩:=bN (K:=K) g3 (dO tz)
 exact q _ _ (S1.trans (S2.trans (S.trans S3))) t3
theorem agw {j6:Value} (m_:mg "FORK"=some j6) (kh:RelV (.int 7) j6)
  (F:Fun K "fork" "fork" qu f fd):FnOk P w K mg base CX0 31 f fd ["yes","no"] (Fv K):=by
 refine okQ F af2 (fun vs H Q E h=>?_) (fun cdv A outer s H vs Q E hr h=>?_)
 ·obtain⟨x,t,y,u,rfl,_⟩:=h
  rfl
 obtain⟨x,t,y,u,rfl,ht,hu,⟨h1,h2⟩,⟨h3,h4⟩,q⟩:=h
 refine⟨_,(aB (aR (aW bh (aU (aj (aW mV (aU (aj (aU ak) ak)) (aY (v:=.int 7) rfl m_ kh)) (aj (qv 0) ak))) (qv 1)))),?_⟩
 have hl:=(show B 400 1000000 u from ⟨h3,h4⟩)
 rw [← fO u] at hl
 have hl:=hl.len
 refine⟨Nat.zero_le _,fun p1 g1=>⟨(by show 1≤sizeLine; decide),fun p2 g2=>?_⟩⟩
 obtain⟨S1,t1⟩:=bN (K:=K) (ts:=[]) g1 (bJ.mpr rfl)
 obtain⟨S2,t2⟩:=bN (K:=K) g2 (dO t1)
 refine aa5 (k:=7) 7 t2 rfl rfl (by decide) (by decide) (fun z H' S tz=>⟨_,rfl,(by show 2≤sizeLine; decide),fun p3 g3=>?_⟩)
 obtain⟨S3,t3⟩:=bN (K:=K) g3 (pZ tz (ht.mono (.of (S1.trans (S2.trans S)))))
 exact⟨_,rfl,cH t3 (mj (hu.mono (.of (S1.trans (S2.trans (S.trans S3)))))) (fV (by show 2+_≤_; lia)) (fun z4 H4 S4 t4=>q _ _ (S1.trans (S2.trans (S.trans (S3.trans S4)))) t4)⟩
theorem agu {eE:Value} (fU:mg "WHILE"=some eE) (eG:RelV (.int 8) eE)
  (F:Fun K "loop" "loop" xU f fd):FnOk P w K mg base CX0 31 f fd ["body"] (acv K):=by
 refine okQ F af0 (fun vs H Q E h=>?_) (fun cdv A outer s H vs Q E hr h=>?_)
 ·obtain⟨x,t,rfl,_⟩:=h
  rfl
 obtain⟨x,t,rfl,ht,h1,h2,q⟩:=h
 refine⟨_,(aB (aR (aW bh (aU (aj (aW mV (aU (aj (aU ak) ak)) (aY (v:=.int 8) rfl fU eG)) ak)) (qv 0)))),?_⟩
 have hl:=(show B 400 1000000 t from ⟨h1,h2⟩)
 rw [← fO t] at hl
 have hl:=hl.len
 refine⟨Nat.zero_le _,fun p1 g1=>⟨(by show 1≤sizeLine; decide),fun p2 g2=>?_⟩⟩
 obtain⟨S1,t1⟩:=bN (K:=K) (ts:=[]) g1 (bJ.mpr rfl)
 obtain⟨S2,t2⟩:=bN (K:=K) g2 (dO t1)
 refine aa5 (k:=8) 8 t2 rfl rfl (by decide) (by decide) (fun z H' S tz=>⟨(by show 1≤sizeLine; decide),fun p3 g3=>?_⟩)
 obtain⟨S3,t3⟩:=bN (K:=K) g3 (dO tz)
 exact⟨_,rfl,cH t3 (mj (ht.mono (.of (S1.trans (S2.trans (S.trans S3)))))) (small (by show 1+_≤_; lia)) (fun z4 H4 S4 t4=>q _ _ (S1.trans (S2.trans (S.trans (S3.trans S4)))) t4)⟩
theorem aeH
  (F:Fun K "parts" "parts" tZ f fd):FnOk P w K mg base CX0 31 f fd ["tree"] (U4 K):=by
 refine okQ F xR (fun vs H Q E h=>?_) (fun cdv A outer s H vs Q E hr h=>?_)
 ·obtain⟨x,t,rfl,_⟩:=h
  rfl
 obtain⟨x,t,rfl,ht,hz,q⟩:=h
 refine⟨_,(au (bA (i:=1) xR.nd rfl (Or.inl rfl) (oU (aj (qv 0) ak)))
   (au (bA (i:=2) xR.nd rfl (Or.inl rfl) aD)
   (au (ud PassesOwn.never (CN (qv 1) (fun _=>rfl)) (au (bA (i:=3) xR.nd rfl (Or.inl rfl) (qy PySem.F.plainAttrs_list PySem.F.slot_list_pop PySem.F.type_list_pop sI (qv 1)))
   (au (acI (i:=2) xR.nd rfl (Or.inl rfl) aD Gw)
   (aB (cR (gA PySem.F.plainAttrs_list PySem.F.slot_list_extend PySem.F.type_list_extend Z8 (qv 1) (aj (qv 3) ak)))))))
   (aB (aR (qv 2)))))),?_⟩
 refine⟨_,rfl,(by show 1≤sizeLine; decide),fun p hp=>?_⟩
 refine⟨aam K H x t.parts p,⟨_,[x],[t],0,none,rfl,same_new hp _,upd_same,cN.mpr ⟨x,[],rfl,ht.mono (Kt.new hp),bJ.mpr rfl⟩,by rw [T.aq,T.aO]; lia,rfl⟩,?_⟩
 rintro m σ H' ⟨ys,ts,c,o,rfl,S,hl,htr,hc,rfl⟩
 refine⟨_,rfl,!ys.isEmpty,.inl ⟨ys,SqL.of hl,rfl⟩,?_⟩
 refine ite2 (fun hb=>?_) (fun hb=>?_)
 ·have hne:ys≠[]:=by rintro rfl; exact absurd hb (by decide)
  obtain⟨y,hy⟩:=agL hne
  obtain⟨u,hu,hyu⟩:=htr.get hy
  rw [htr.length] at hu
  obtain⟨a,zs,rfl,h1,h2⟩:=Ed hyu
  have hpl:=T.Ny hu
  refine⟨fun σ' H'=>∃ m',m'<T.aA ts∧aam K H x t.parts p m' σ' H',fun _ _ h=>h,?_⟩
  refine⟨_,rfl,.inl ⟨rfl,_,SqL.of hl⟩,p,ys,_,rfl,rfl,hl,hy,?_⟩
  refine⟨_,rfl,_,_,rfl,rfl,?_⟩
  have hk:=T.cG u
  have aqu:=T.cV ts.dropLast
  have hlen2:=T.cV u.kids
  have e1:=htr.dropLast.length
  have e2:=h2.length
  refine⟨_,rfl,.inl ⟨rfl,_,SqL.of upd_same⟩,_,rfl,p,a,ys.dropLast,zs,rfl,rfl,upd_same,bW (Kt.lst hl) h1,fV (by lia),?_⟩
  refine⟨_,?_,ys.dropLast++zs,ts.dropLast++u.kids,c+1,_,rfl,?_,upd_same,?_,?_,rfl⟩
  ·rw [T.bV]
   lia
  ·rw [OD]
   exact eX S hp
  ·rw [OD]
   exact (htr.dropLast.append h2).mono (Kt.lst hl)
  ·rw [T.bV]
   lia
 ·have hys:ys=[]:=by
   cases ys with
   | nil=>rfl
   | cons _ _=>exact absurd rfl hb
  subst hys
  have hts:ts=[]:=List.length_eq_zero_iff.mp htr.length.symm
  subst hts
  rw [T.aO] at hc
  refine⟨_,rfl,?_⟩
  have:(c:Int)=(t.parts:Int):=by lia
  rw [this]
  exact q _ S
theorem agx (abb:mg "sum"=none) {n8:Value} (qT:mg "COPIED"=some n8) (mU:RelV (.int 13) n8) {nZ:Value} (qD:mg "TWIN"=some nZ) (mY:RelV (.int 2) nZ)
  (F:Fun K "cost" "cost" xW f fd):FnOk P w K mg base CX0 31 f fd ["tally"] (acz K):=by
 refine okQ F af3 (fun vs H Q E h=>?_) (fun cdv A outer s H vs Q E hr h=>?_)
 ·obtain⟨a,ns,rfl,_⟩:=h
  rfl
 obtain⟨a,ns,rfl,ha,hn,q⟩:=h
 refine⟨_,(aB (aR (aW op_add (aW op_sub (cX (adq rfl) rfl abb ajn (aj (cW eF (qv 0) eN (dI (aY (v:=.int 13) rfl qT mU))) ak)) (cB cJ (qv 0) (aY (v:=.int 2) rfl qD mY) (fun _ _=>rfl))) (cB cJ (qv 0) (aY (v:=.int 13) rfl qT mU) (fun _ _=>rfl))))),?_⟩
 refine⟨_,rfl,13,rfl,a,_,rfl,ha,fun p H1 S1 h1=>?_⟩
 rw [show (some (13:Int))=some ((13:Nat):Int) from rfl,Xg,agz] at h1
 have ha1:=bW (.of S1) ha
 refine⟨p,_,rfl,h1,_,rfl,a,_,_,_,rfl,rfl,ha1,Uk (k:=2) (by lia),_,_,rfl,rfl,_,rfl,a,_,_,_,rfl,rfl,ha1,Uk (k:=13) (by lia),_,_,rfl,rfl,q _ S1⟩
end
theorem all_mk {l:PySem.W.OpenLaw}{w:World}{K:PySem.W.Frag}{h:Heap}{mg:Str→Option Value}{fa f1 f2 f3 f4 f5 f6 f7 f8 f9 f10 f11 f12 f13 f14 f15 f16 f17 f18 f19 f20 f21 f22 f23 f24 f25 f26 f27 f28 f29 f30 f31 f32 f33 f34 f35 f36 f37 f38 f39 f40 f41 f42 f43 f45 f46 f47 f48 f49 f50 f51 f52:Addr} (X:K.In h) (G:h.Ns mainGlobals mg) (hfa:mg "law"=some (.ref fa))  {ao:Addr}{aF:Addr}{aJ:Addr}{aP:Addr}{aQ:Addr}{aM:Addr}{iW:Addr}{Ew Fd:Option Addr}{Er:Array (Option Value)}{Ey Ez E_ Et tW Fb:Value}{jF:Addr}{Js JF:Option Addr}{Ji:Array (Option Value)}{Ju Jw Jz Jm wF JC:Value}{kj:Addr}{KJ Mx:Option Addr}{J7:Array (Option Value)}{KR Lk Mf Kp yQ Mj:Value}{jl:Addr}{Gg Ht:Option Addr}{Fw:Array (Option Value)}{Gi Gv GQ Gd vH Hj:Value}{kJ:Addr}{KQ MF:Option Addr}{J9:Array (Option Value)}{KZ Lp Mh Kr yS Mq:Value}{lU:Addr}{NP Og:Option Addr}{Nm:Array (Option Value)}{NQ N5 Oa Nx zU Od:Value}{jG:Addr}{Jt JG:Option Addr}{Jj:Array (Option Value)}{Jv Jx JB Jo wG JD:Value}{kI:Addr}{KN Mz:Option Addr}{J8:Array (Option Value)}{KY Ln Mg Kq yR Ml:Value}{ni:Addr}{Qy Rv:Option Addr}{PJ:Array (Option Value)}{Qz Q6 Ri Ql Cd Rn:Value}{tG:Addr}{Yy Y4:Option Addr}{Ym:Array (Option Value)}{Yz YJ YM Yt JN YQ:Value}{o8:Addr}{Tt T_:Option Addr}{SM:Array (Option Value)}{Tw TQ TY Te En T4:Value}{o9:Addr}{Tv Ua:Option Addr}{SN:Array (Option Value)}{Tz TV T3 Tf Eo T5:Value}{qF:Addr}{VN Xz:Option Addr}{Vb:Array (Option Value)}{VR Wn Xa Vu Hq Xh:Value}{qG:Addr}{VP XC:Option Addr}{Vc:Array (Option Value)}{V0 Wq Xb Vv Hr Xi:Value}{mC:Value}{j5:Value}{nY:Value}{iK:Value}{u6:Value}{Fl:Value}{Fg:Value}{rO:Value}{Fi:Value}{Fe:Value}{xJ:Value}{uZ:Value}{xM:Value}{uP:Addr}{Z7:Obj}{pY:Addr}{Iw:Obj}{bE0 bE1 bE2 bE3 bE4 bE5 bE6 bE7 bE8 bE9 afo afn afm afl afk:Addr}{oE0 oE1 oE2 oE3 oE4 oE5 oE6 oE7 oE8 oE9 ah5 ah4 ah3 ah2 ah1:Obj}{j4:Value}{j6:Value}{eE:Value}{zJ:Value}{Fj:Value}{gZ:Value}{u9:Value}{rZ:Value}{lH:Value}{jk:Addr}{V1:Obj}{qm:Value}{qp:Value}{n8:Value}{nZ:Value}{pG:Addr}{V3:Obj}{vJ:Addr}{acZ:Obj}{rM:Addr}{V2:Obj}
  {od1 an1 od2 an2 od3 an3 od4 an4 od5 an5 od6 an6 od7 an7 od8 an8 od9 an9 amF aqq amE aqp amD aqo amC aqn amB aqm amA aql amy aqk amx aqj amw aqi amv aqh amu aqg amt aqf ams aqe amr aqd amq aqc amo aqb amn aqa amm ap_ aml ap9 amk ap8 amj ap7 ami ap6 amh ap5 amg ap4 amf ap3 ame ap2 amd ap1 amc ap0 amb apZ ama apY al_ apW al9 apV al8 apU al7 apT al6 apS al5 apR al4 apQ al3 apP al2 apO al1 apM al0 apL alZ ajs:Option Addr}{sl1 sl2 sl3 sl4 sl5 sl6 sl7 sl8 sl9 ak_ ak9 ak8 ak7 ak6 ak5 ak4 ak3 ak2 ak1 ak0 akZ akY akX akW akV akU akT akS akR akQ akP akO akN akM akL akK akJ akI akH akG akF akE akD akC akB akA akz aky akx akv aku:Array (Option Value)}{oc1 kV1 dc1 pm1 cd1 ct1 oc2 kV2 dc2 pm2 cd2 ct2 oc3 kV3 dc3 pm3 cd3 ct3 oc4 kV4 dc4 pm4 cd4 ct4 oc5 kV5 dc5 pm5 cd5 ct5 oc6 kV6 dc6 pm6 cd6 ct6 oc7 kV7 dc7 pm7 cd7 ct7 oc8 kV8 dc8 pm8 cd8 ct8 oc9 kV9 dc9 pm9 cd9 ct9 anl aof ao4 alY ajl apK ank aoe ao3 alX ajk apJ anj aod ao2 alW ajj apI ani aoc ao1 alV aji apH anh aob ao0 alU ajh apG ang aoa aoZ alT ajg apF anf an_ aoY alS ajf apE ane an0 aoX alR aje apD anc anZ aoW alQ ajd apC anb anY aoV alP ajc apB ana anW aoU alO ajb apA am_ anV aoT alN aja apz am9 anU aoS alM ai_ apy am8 anT aoR alL ai9 apx am7 anS aoQ alK ai8 apw am6 anR aoP alJ ai7 apv am5 anQ aoO alI ai6 apu am4 anP aoN alH ai5 apt am3 anO aoM alG ai4 aps am2 anN aoL alF ai3 apr am1 anM aoK alE ai2 apq am0 anL aoJ alD ai1 apo amZ anK aoI alC ai0 apn amY anJ aoH alB aiZ apm amX anI aoG alA aiY apl amW anH aoF alz aiX apk amV anG aoE aly aiW apj amU anF aoD alx aiV aph amT anE aoC alw aiU apg amS anD aoB alv aiT apf amR anC aoA alu aiS ape amQ anB aoz als aiR apd amP anA aoy alr aiQ apc amO anz aox alq aiP apb amN anx aow alp aiO apa amM anw aov alo aiN ao_ amL anv aou aln aiM ao9 amK anu aot alm aiL ao8 amJ ant aos alk aiK ao7 amI anr aor alj aiJ ao6 amH anq aoq ali aiI ao5 amG aij aiG ahK afh aiH:Value}
  (a1:PySem.W.nsIn K mainGlobals "first"=some (some (.ref f1))) (l1:K.lookup f1=some ⟨oc1,od1,.func (PySem.W.fnOf "first" "first" (defArgs nq) (defBody nq) (defScope nq) .none kV1 dc1 pm1 an1 cd1 ct1),sl1⟩) (c1:PySem.W.codeIn K cd1 "first"=true) (k1:PySem.W.keepIn K (.ref f1)=true)
  (a2:PySem.W.nsIn K mainGlobals "rest"=some (some (.ref f2))) (l2:K.lookup f2=some ⟨oc2,od2,.func (PySem.W.fnOf "rest" "rest" (defArgs vh) (defBody vh) (defScope vh) .none kV2 dc2 pm2 an2 cd2 ct2),sl2⟩) (c2:PySem.W.codeIn K cd2 "rest"=true) (k2:PySem.W.keepIn K (.ref f2)=true)
  (a3:PySem.W.nsIn K mainGlobals "parts"=some (some (.ref f3))) (l3:K.lookup f3=some ⟨oc3,od3,.func (PySem.W.fnOf "parts" "parts" (defArgs tZ) (defBody tZ) (defScope tZ) .none kV3 dc3 pm3 an3 cd3 ct3),sl3⟩) (c3:PySem.W.codeIn K cd3 "parts"=true) (k3:PySem.W.keepIn K (.ref f3)=true)
  (a4:PySem.W.nsIn K mainGlobals "sort_of"=some (some (.ref f4))) (l4:K.lookup f4=some ⟨oc4,od4,.func (PySem.W.fnOf "sort_of" "sort_of" (defArgs oE) (defBody oE) (defScope oE) .none kV4 dc4 pm4 an4 cd4 ct4),sl4⟩) (c4:PySem.W.codeIn K cd4 "sort_of"=true) (k4:PySem.W.keepIn K (.ref f4)=true)
  (a5:PySem.W.nsIn K mainGlobals "load_of"=some (some (.ref f5))) (l5:K.lookup f5=some ⟨oc5,od5,.func (PySem.W.fnOf "load_of" "load_of" (defArgs oH) (defBody oH) (defScope oH) .none kV5 dc5 pm5 an5 cd5 ct5),sl5⟩) (c5:PySem.W.codeIn K cd5 "load_of"=true) (k5:PySem.W.keepIn K (.ref f5)=true)
  (a6:PySem.W.nsIn K mainGlobals "lay"=some (some (.ref f6))) (l6:K.lookup f6=some ⟨oc6,od6,.func (PySem.W.fnOf "lay" "lay" (defArgs zK) (defBody zK) (defScope zK) .none kV6 dc6 pm6 an6 cd6 ct6),sl6⟩) (c6:PySem.W.codeIn K cd6 "lay"=true) (k6:PySem.W.keepIn K (.ref f6)=true)
  (a7:PySem.W.nsIn K mainGlobals "plain"=some (some (.ref f7))) (l7:K.lookup f7=some ⟨oc7,od7,.func (PySem.W.fnOf "plain" "plain" (defArgs rQ) (defBody rQ) (defScope rQ) .none kV7 dc7 pm7 an7 cd7 ct7),sl7⟩) (c7:PySem.W.codeIn K cd7 "plain"=true) (k7:PySem.W.keepIn K (.ref f7)=true)
  (a8:PySem.W.nsIn K mainGlobals "fork"=some (some (.ref f8))) (l8:K.lookup f8=some ⟨oc8,od8,.func (PySem.W.fnOf "fork" "fork" (defArgs qu) (defBody qu) (defScope qu) .none kV8 dc8 pm8 an8 cd8 ct8),sl8⟩) (c8:PySem.W.codeIn K cd8 "fork"=true) (k8:PySem.W.keepIn K (.ref f8)=true)
  (a9:PySem.W.nsIn K mainGlobals "loop"=some (some (.ref f9))) (l9:K.lookup f9=some ⟨oc9,od9,.func (PySem.W.fnOf "loop" "loop" (defArgs xU) (defBody xU) (defScope xU) .none kV9 dc9 pm9 an9 cd9 ct9),sl9⟩) (c9:PySem.W.codeIn K cd9 "loop"=true) (k9:PySem.W.keepIn K (.ref f9)=true)
  (a10:PySem.W.nsIn K mainGlobals "plains"=some (some (.ref f10))) (l10:K.lookup f10=some ⟨anl,amF,.func (PySem.W.fnOf "plains" "plains" (defArgs gF) (defBody gF) (defScope gF) .none aof ao4 alY aqq ajl apK),ak_⟩) (c10:PySem.W.codeIn K ajl "plains"=true) (k10:PySem.W.keepIn K (.ref f10)=true)
  (a11:PySem.W.nsIn K mainGlobals "put"=some (some (.ref f11))) (l11:K.lookup f11=some ⟨ank,amE,.func (PySem.W.fnOf "put" "put" (defArgs CK) (defBody CK) (defScope CK) .none aoe ao3 alX aqp ajk apJ),ak9⟩) (c11:PySem.W.codeIn K ajk "put"=true) (k11:PySem.W.keepIn K (.ref f11)=true)
  (a12:PySem.W.nsIn K mainGlobals "selfrunner"=some (some (.ref f12))) (l12:K.lookup f12=some ⟨anj,amD,.func (PySem.W.fnOf "selfrunner" "selfrunner" (defArgs iM) (defBody iM) (defScope iM) .none aod ao2 alW aqo ajj apI),ak8⟩) (c12:PySem.W.codeIn K ajj "selfrunner"=true) (k12:PySem.W.keepIn K (.ref f12)=true)
  (a13:PySem.W.nsIn K mainGlobals "opening"=some (some (.ref f13))) (l13:K.lookup f13=some ⟨ani,amC,.func (PySem.W.fnOf "opening" "opening" (defArgs oG) (defBody oG) (defScope oG) .none aoc ao1 alV aqn aji apH),ak7⟩) (c13:PySem.W.codeIn K aji "opening"=true) (k13:PySem.W.keepIn K (.ref f13)=true)
  (a14:PySem.W.nsIn K mainGlobals "from_head"=some (some (.ref f14))) (l14:K.lookup f14=some ⟨anh,amB,.func (PySem.W.fnOf "from_head" "from_head" (defArgs k_) (defBody k_) (defScope k_) .none aob ao0 alU aqm ajh apG),ak6⟩) (c14:PySem.W.codeIn K ajh "from_head"=true) (k14:PySem.W.keepIn K (.ref f14)=true)
  (a15:PySem.W.nsIn K mainGlobals "stepped"=some (some (.ref f15))) (l15:K.lookup f15=some ⟨ang,amA,.func (PySem.W.fnOf "stepped" "stepped" (defArgs oA) (defBody oA) (defScope oA) .none aoa aoZ alT aql ajg apF),ak5⟩) (c15:PySem.W.codeIn K ajg "stepped"=true) (k15:PySem.W.keepIn K (.ref f15)=true)
  (a16:PySem.W.nsIn K mainGlobals "by_sort"=some (some (.ref f16))) (l16:K.lookup f16=some ⟨anf,amy,.func (PySem.W.fnOf "by_sort" "by_sort" (defArgs oK) (defBody oK) (defScope oK) .none an_ aoY alS aqk ajf apE),ak4⟩) (c16:PySem.W.codeIn K ajf "by_sort"=true) (k16:PySem.W.keepIn K (.ref f16)=true)
  (a17:PySem.W.nsIn K mainGlobals "gone_of"=some (some (.ref f17))) (l17:K.lookup f17=some ⟨ane,amx,.func (PySem.W.fnOf "gone_of" "gone_of" (defArgs oJ) (defBody oJ) (defScope oJ) .none an0 aoX alR aqj aje apD),ak3⟩) (c17:PySem.W.codeIn K aje "gone_of"=true) (k17:PySem.W.keepIn K (.ref f17)=true)
  (a18:PySem.W.nsIn K mainGlobals "while_gone"=some (some (.ref f18))) (l18:K.lookup f18=some ⟨anc,amw,.func (PySem.W.fnOf "while_gone" "while_gone" (defArgs jC) (defBody jC) (defScope jC) .none anZ aoW alQ aqi ajd apC),ak2⟩) (c18:PySem.W.codeIn K ajd "while_gone"=true) (k18:PySem.W.keepIn K (.ref f18)=true)
  (a19:PySem.W.nsIn K mainGlobals "nameless_gone"=some (some (.ref f19))) (l19:K.lookup f19=some ⟨anb,amv,.func (PySem.W.fnOf "nameless_gone" "nameless_gone" (defArgs gG) (defBody gG) (defScope gG) .none anY aoV alP aqh ajc apB),ak1⟩) (c19:PySem.W.codeIn K ajc "nameless_gone"=true) (k19:PySem.W.keepIn K (.ref f19)=true)
  (a20:PySem.W.nsIn K mainGlobals "begin"=some (some (.ref f20))) (l20:K.lookup f20=some ⟨ana,amu,.func (PySem.W.fnOf "begin" "begin" (defArgs uc) (defBody uc) (defScope uc) .none anW aoU alO aqg ajb apA),ak0⟩) (c20:PySem.W.codeIn K ajb "begin"=true) (k20:PySem.W.keepIn K (.ref f20)=true)
  (a21:PySem.W.nsIn K mainGlobals "place_of"=some (some (.ref f21))) (l21:K.lookup f21=some ⟨am_,amt,.func (PySem.W.fnOf "place_of" "place_of" (defArgs j8) (defBody j8) (defScope j8) .none anV aoT alN aqf aja apz),akZ⟩) (c21:PySem.W.codeIn K aja "place_of"=true) (k21:PySem.W.keepIn K (.ref f21)=true)
  (a22:PySem.W.nsIn K mainGlobals "cost"=some (some (.ref f22))) (l22:K.lookup f22=some ⟨am9,ams,.func (PySem.W.fnOf "cost" "cost" (defArgs xW) (defBody xW) (defScope xW) .none anU aoS alM aqe ai_ apy),akY⟩) (c22:PySem.W.codeIn K ai_ "cost"=true) (k22:PySem.W.keepIn K (.ref f22)=true)
  (a23:PySem.W.nsIn K mainGlobals "added"=some (some (.ref f23))) (l23:K.lookup f23=some ⟨am8,amr,.func (PySem.W.fnOf "added" "added" (defArgs pL) (defBody pL) (defScope pL) .none anT aoR alL aqd ai9 apx),akX⟩) (c23:PySem.W.codeIn K ai9 "added"=true) (k23:PySem.W.keepIn K (.ref f23)=true)
  (a24:PySem.W.nsIn K mainGlobals "turned"=some (some (.ref f24))) (l24:K.lookup f24=some ⟨am7,amq,.func (PySem.W.fnOf "turned" "turned" (defArgs mO) (defBody mO) (defScope mO) .none anS aoQ alK aqc ai8 apw),akW⟩) (c24:PySem.W.codeIn K ai8 "turned"=true) (k24:PySem.W.keepIn K (.ref f24)=true)
  (a25:PySem.W.nsIn K mainGlobals "tower"=some (some (.ref f25))) (l25:K.lookup f25=some ⟨am6,amo,.func (PySem.W.fnOf "tower" "tower" (defArgs rP) (defBody rP) (defScope rP) .none anR aoP alJ aqb ai7 apv),akV⟩) (c25:PySem.W.codeIn K ai7 "tower"=true) (k25:PySem.W.keepIn K (.ref f25)=true)
  (a26:PySem.W.nsIn K mainGlobals "tower_tally"=some (some (.ref f26))) (l26:K.lookup f26=some ⟨am5,amn,.func (PySem.W.fnOf "tower_tally" "tower_tally" (defArgs g_) (defBody g_) (defScope g_) .none anQ aoO alI aqa ai6 apu),akU⟩) (c26:PySem.W.codeIn K ai6 "tower_tally"=true) (k26:PySem.W.keepIn K (.ref f26)=true)
  (a27:PySem.W.nsIn K mainGlobals "first_of"=some (some (.ref f27))) (l27:K.lookup f27=some ⟨am4,amm,.func (PySem.W.fnOf "first_of" "first_of" (defArgs mR) (defBody mR) (defScope mR) .none anP aoN alH ap_ ai5 apt),akT⟩) (c27:PySem.W.codeIn K ai5 "first_of"=true) (k27:PySem.W.keepIn K (.ref f27)=true)
  (a28:PySem.W.nsIn K mainGlobals "rest_of"=some (some (.ref f28))) (l28:K.lookup f28=some ⟨am3,aml,.func (PySem.W.fnOf "rest_of" "rest_of" (defArgs oF) (defBody oF) (defScope oF) .none anO aoM alG ap9 ai4 aps),akS⟩) (c28:PySem.W.codeIn K ai4 "rest_of"=true) (k28:PySem.W.keepIn K (.ref f28)=true)
  (a29:PySem.W.nsIn K mainGlobals "later"=some (some (.ref f29))) (l29:K.lookup f29=some ⟨am2,amk,.func (PySem.W.fnOf "later" "later" (defArgs t_) (defBody t_) (defScope t_) .none anN aoL alF ap8 ai3 apr),akR⟩) (c29:PySem.W.codeIn K ai3 "later"=true) (k29:PySem.W.keepIn K (.ref f29)=true)
  (a30:PySem.W.nsIn K mainGlobals "unfronted"=some (some (.ref f30))) (l30:K.lookup f30=some ⟨am1,amj,.func (PySem.W.fnOf "unfronted" "unfronted" (defArgs jq) (defBody jq) (defScope jq) .none anM aoK alE ap7 ai2 apq),akQ⟩) (c30:PySem.W.codeIn K ai2 "unfronted"=true) (k30:PySem.W.keepIn K (.ref f30)=true)
  (a31:PySem.W.nsIn K mainGlobals "parts_within"=some (some (.ref f31))) (l31:K.lookup f31=some ⟨am0,ami,.func (PySem.W.fnOf "parts_within" "parts_within" (defArgs iB) (defBody iB) (defScope iB) .none anL aoJ alD ap6 ai1 apo),akP⟩) (c31:PySem.W.codeIn K ai1 "parts_within"=true) (k31:PySem.W.keepIn K (.ref f31)=true)
  (a32:PySem.W.nsIn K mainGlobals "as_tree"=some (some (.ref f32))) (l32:K.lookup f32=some ⟨amZ,amh,.func (PySem.W.fnOf "as_tree" "as_tree" (defArgs oM) (defBody oM) (defScope oM) .none anK aoI alC ap5 ai0 apn),akO⟩) (c32:PySem.W.codeIn K ai0 "as_tree"=true) (k32:PySem.W.keepIn K (.ref f32)=true)
  (a33:PySem.W.nsIn K mainGlobals "tally_of"=some (some (.ref f33))) (l33:K.lookup f33=some ⟨amY,amg,.func (PySem.W.fnOf "tally_of" "tally_of" (defArgs mQ) (defBody mQ) (defScope mQ) .none anJ aoH alB ap4 aiZ apm),akN⟩) (c33:PySem.W.codeIn K aiZ "tally_of"=true) (k33:PySem.W.keepIn K (.ref f33)=true)
  (a34:PySem.W.nsIn K mainGlobals "gone"=some (some (.ref f34))) (l34:K.lookup f34=some ⟨amX,amf,.func (PySem.W.fnOf "gone" "gone" (defArgs xV) (defBody xV) (defScope xV) .none anI aoG alA ap3 aiY apl),akM⟩) (c34:PySem.W.codeIn K aiY "gone"=true) (k34:PySem.W.keepIn K (.ref f34)=true)
  (a35:PySem.W.nsIn K mainGlobals "walked"=some (some (.ref f35))) (l35:K.lookup f35=some ⟨amW,ame,.func (PySem.W.fnOf "walked" "walked" (defArgs ou) (defBody ou) (defScope ou) .none anH aoF alz ap2 aiX apk),akL⟩) (c35:PySem.W.codeIn K aiX "walked"=true) (k35:PySem.W.keepIn K (.ref f35)=true)
  (a36:PySem.W.nsIn K mainGlobals "work"=some (some (.ref f36))) (l36:K.lookup f36=some ⟨amV,amd,.func (PySem.W.fnOf "work" "work" (defArgs xT) (defBody xT) (defScope xT) .none anG aoE aly ap1 aiW apj),akK⟩) (c36:PySem.W.codeIn K aiW "work"=true) (k36:PySem.W.keepIn K (.ref f36)=true)
  (a37:PySem.W.nsIn K mainGlobals "_law_deck"=some (some (.ref f37))) (l37:K.lookup f37=some ⟨amU,amc,.func (PySem.W.fnOf "_law_deck" "_law_deck" (defArgs jt) (defBody jt) (defScope jt) .none anF aoD alx ap0 aiV aph),akJ⟩) (c37:PySem.W.codeIn K aiV "_law_deck"=true) (k37:PySem.W.keepIn K (.ref f37)=true)
  (a38:PySem.W.nsIn K mainGlobals "_law_next"=some (some (.ref f38))) (l38:K.lookup f38=some ⟨amT,amb,.func (PySem.W.fnOf "_law_next" "_law_next" (defArgs gD) (defBody gD) (defScope gD) .none anE aoC alw apZ aiU apg),akI⟩) (c38:PySem.W.codeIn K aiU "_law_next"=true) (k38:PySem.W.keepIn K (.ref f38)=true)
  (a39:PySem.W.nsIn K mainGlobals "_law_tree"=some (some (.ref f39))) (l39:K.lookup f39=some ⟨amS,ama,.func (PySem.W.fnOf "_law_tree" "_law_tree" (defArgs gC) (defBody gC) (defScope gC) .none anD aoB alv apY aiT apf),akH⟩) (c39:PySem.W.codeIn K aiT "_law_tree"=true) (k39:PySem.W.keepIn K (.ref f39)=true)
  (a40:PySem.W.nsIn K mainGlobals "_law_load"=some (some (.ref f40))) (l40:K.lookup f40=some ⟨amR,al_,.func (PySem.W.fnOf "_law_load" "_law_load" (defArgs lu) (defBody lu) (defScope lu) .none anC aoA alu apW aiS ape),akG⟩) (c40:PySem.W.codeIn K aiS "_law_load"=true) (k40:PySem.W.keepIn K (.ref f40)=true)
  (a41:PySem.W.nsIn K mainGlobals "_law_word"=some (some (.ref f41))) (l41:K.lookup f41=some ⟨amQ,al9,.func (PySem.W.fnOf "_law_word" "_law_word" (defArgs nu) (defBody nu) (defScope nu) .none anB aoz als apV aiR apd),akF⟩) (c41:PySem.W.codeIn K aiR "_law_word"=true) (k41:PySem.W.keepIn K (.ref f41)=true)
  (a42:PySem.W.nsIn K mainGlobals "_law_text"=some (some (.ref f42))) (l42:K.lookup f42=some ⟨amP,al8,.func (PySem.W.fnOf "_law_text" "_law_text" (defArgs jr) (defBody jr) (defScope jr) .none anA aoy alr apU aiQ apc),akE⟩) (c42:PySem.W.codeIn K aiQ "_law_text"=true) (k42:PySem.W.keepIn K (.ref f42)=true)
  (a43:PySem.W.nsIn K mainGlobals "_law_first"=some (some (.ref f43))) (l43:K.lookup f43=some ⟨amO,al7,.func (PySem.W.fnOf "_law_first" "_law_first" (defArgs eZ) (defBody eZ) (defScope eZ) .none anz aox alq apT aiP apb),akD⟩) (c43:PySem.W.codeIn K aiP "_law_first"=true) (k43:PySem.W.keepIn K (.ref f43)=true)
  (a45:PySem.W.nsIn K mainGlobals "_law_wide"=some (some (.ref f45))) (l45:K.lookup f45=some ⟨amN,al6,.func (PySem.W.fnOf "_law_wide" "_law_wide" (defArgs lg) (defBody lg) (defScope lg) .none anx aow alp apS aiO apa),akC⟩) (c45:PySem.W.codeIn K aiO "_law_wide"=true) (k45:PySem.W.keepIn K (.ref f45)=true)
  (a46:PySem.W.nsIn K mainGlobals "_law_sort"=some (some (.ref f46))) (l46:K.lookup f46=some ⟨amM,al5,.func (PySem.W.fnOf "_law_sort" "_law_sort" (defArgs lq) (defBody lq) (defScope lq) .none anw aov alo apR aiN ao_),akB⟩) (c46:PySem.W.codeIn K aiN "_law_sort"=true) (k46:PySem.W.keepIn K (.ref f46)=true)
  (a47:PySem.W.nsIn K mainGlobals "_law_stack"=some (some (.ref f47))) (l47:K.lookup f47=some ⟨amL,al4,.func (PySem.W.fnOf "_law_stack" "_law_stack" (defArgs jD) (defBody jD) (defScope jD) .none anv aou aln apQ aiM ao9),akA⟩) (c47:PySem.W.codeIn K aiM "_law_stack"=true) (k47:PySem.W.keepIn K (.ref f47)=true)
  (a48:PySem.W.nsIn K mainGlobals "_law_behind"=some (some (.ref f48))) (l48:K.lookup f48=some ⟨amK,al3,.func (PySem.W.fnOf "_law_behind" "_law_behind" (defArgs h_) (defBody h_) (defScope h_) .none anu aot alm apP aiL ao8),akz⟩) (c48:PySem.W.codeIn K aiL "_law_behind"=true) (k48:PySem.W.keepIn K (.ref f48)=true)
  (a49:PySem.W.nsIn K mainGlobals "_law_built"=some (some (.ref f49))) (l49:K.lookup f49=some ⟨amJ,al2,.func (PySem.W.fnOf "_law_built" "_law_built" (defArgs jE) (defBody jE) (defScope jE) .none ant aos alk apO aiK ao7),aky⟩) (c49:PySem.W.codeIn K aiK "_law_built"=true) (k49:PySem.W.keepIn K (.ref f49)=true)
  (a50:PySem.W.nsIn K mainGlobals "_law_raised"=some (some (.ref f50))) (l50:K.lookup f50=some ⟨amI,al1,.func (PySem.W.fnOf "_law_raised" "_law_raised" (defArgs jf) (defBody jf) (defScope jf) .none anr aor alj apM aiJ ao6),akx⟩) (c50:PySem.W.codeIn K aiJ "_law_raised"=true) (k50:PySem.W.keepIn K (.ref f50)=true)
  (a51:PySem.W.nsIn K mainGlobals "_law_run_alike"=some (some (.ref f51))) (l51:K.lookup f51=some ⟨amH,al0,.func (PySem.W.fnOf "_law_run_alike" "_law_run_alike" (defArgs eY) (defBody eY) (defScope eY) .none anq aoq ali apL aiI ao5),akv⟩) (c51:PySem.W.codeIn K aiI "_law_run_alike"=true) (k51:PySem.W.keepIn K (.ref f51)=true)
  (a52:PySem.W.nsIn K mainGlobals "law"=some (some (.ref f52))) (l52:K.lookup f52=some ⟨amG,alZ,.func (PySem.W.fnOf "law" "law" (defArgs sy) (defBody sy) (defScope sy) .none aij aiG ahK ajs afh aiH),aku⟩) (c52:PySem.W.codeIn K afh "law"=true) (k52:PySem.W.keepIn K (.ref f52)=true)
  (Ec:PySem.W.nsIn K mainGlobals "Fronted"=some (some (.ref ao)))
  (CV:PySem.W.plainGet K ao Str.empty=true)
  (Dq:PySem.W.hasDictIn K ao=true)
  (CQ:PySem.W.plainOver K ao=true)
  (CJ:PySem.W.findIn K (.ref ao) "__setattr__"=some (some (.builtin "object.__setattr__")))
  (Di:PySem.W.makesIn K ao=true)
  (Dl:PySem.W.keepIn K (.ref ao)=true)
  (um:PySem.W.findIn K (.ref ao) "item"=some none)
  (qR:PySem.W.findIn K (.ref ao) "behind"=some none)
  (MK:PySem.W.nsIn K mainGlobals "Later"=some (some (.ref aF)))
  (Ku:PySem.W.plainGet K aF Str.empty=true)
  (Lr:PySem.W.hasDictIn K aF=true)
  (Km:PySem.W.plainOver K aF=true)
  (Kf:PySem.W.findIn K (.ref aF) "__setattr__"=some (some (.builtin "object.__setattr__")))
  (K6:PySem.W.makesIn K aF=true)
  (Li:PySem.W.keepIn K (.ref aF)=true)
  (yu:PySem.W.findIn K (.ref aF) "tree"=some none)
  (vQ:PySem.W.findIn K (.ref aF) "place"=some none)
  (Rz:PySem.W.nsIn K mainGlobals "Word"=some (some (.ref aJ)))
  (Qm:PySem.W.plainGet K aJ Str.empty=true)
  (Q9:PySem.W.hasDictIn K aJ=true)
  (Qi:PySem.W.plainOver K aJ=true)
  (PX:PySem.W.findIn K (.ref aJ) "__setattr__"=some (some (.builtin "object.__setattr__")))
  (QB:PySem.W.makesIn K aJ=true)
  (QZ:PySem.W.keepIn K (.ref aJ)=true)
  (Ac:PySem.W.findIn K (.ref aJ) "kind"=some none)
  (Ab:PySem.W.findIn K (.ref aJ) "load"=some none)
  (Dg:PySem.W.findIn K (.ref aJ) "yes"=some none)
  (Gk:PySem.W.findIn K (.ref aJ) "no"=some none)
  (Ad:PySem.W.findIn K (.ref aJ) "body"=some none)
  (Aa:PySem.W.findIn K (.ref aJ) "size"=some none)
  (RD:PySem.W.nsIn K mainGlobals "Text"=some (some (.ref aP)))
  (Qo:PySem.W.plainGet K aP Str.empty=true)
  (Ra:PySem.W.hasDictIn K aP=true)
  (Qk:PySem.W.plainOver K aP=true)
  (P_:PySem.W.findIn K (.ref aP) "__setattr__"=some (some (.builtin "object.__setattr__")))
  (QD:PySem.W.makesIn K aP=true)
  (Q5:PySem.W.keepIn K (.ref aP)=true)
  (Af:PySem.W.findIn K (.ref aP) "tree"=some none)
  (yt:PySem.W.findIn K (.ref aP) "words"=some none)
  (MN:PySem.W.nsIn K mainGlobals "Going"=some (some (.ref aQ)))
  (Kv:PySem.W.plainGet K aQ Str.empty=true)
  (Ls:PySem.W.hasDictIn K aQ=true)
  (Ko:PySem.W.plainOver K aQ=true)
  (Kg:PySem.W.findIn K (.ref aQ) "__setattr__"=some (some (.builtin "object.__setattr__")))
  (K7:PySem.W.makesIn K aQ=true)
  (Lj:PySem.W.keepIn K (.ref aQ)=true)
  (yw:PySem.W.findIn K (.ref aQ) "text"=some none)
  (vR:PySem.W.findIn K (.ref aQ) "place"=some none)
  (RB:PySem.W.nsIn K mainGlobals "Walk"=some (some (.ref aM)))
  (Qn:PySem.W.plainGet K aM Str.empty=true)
  (Q_:PySem.W.hasDictIn K aM=true)
  (Qj:PySem.W.plainOver K aM=true)
  (P0:PySem.W.findIn K (.ref aM) "__setattr__"=some (some (.builtin "object.__setattr__")))
  (QC:PySem.W.makesIn K aM=true)
  (Q0:PySem.W.keepIn K (.ref aM)=true)
  (vP:PySem.W.findIn K (.ref aM) "goings"=some none)
  (yq:PySem.W.findIn K (.ref aM) "stack"=some none)
  (uh:PySem.W.findIn K (.ref aM) "numbers"=some none)
  (Ae:PySem.W.findIn K (.ref aM) "left"=some none)
  (Du:PySem.W.findIn K (.ref ao) "__eq__"=some (some (.builtin "object.__eq__")))
  (C_:PySem.W.mroIn K ao (.type "object")=some true)
  (Cv:PySem.W.mroIn K ao (.type "tuple")=some false)
  (Cz:PySem.W.subIn K (.type "tuple") (.ref ao)=some false)
  (DR:PySem.W.findIn K (.ref ao) "__class__"=some (some (.builtin "object.__class__")))
  (Lx:PySem.W.findIn K (.ref aF) "__eq__"=some (some (.builtin "object.__eq__")))
  (K1:PySem.W.mroIn K aF (.type "object")=some true)
  (JV:PySem.W.mroIn K aF (.type "tuple")=some false)
  (Ke:PySem.W.subIn K (.type "tuple") (.ref aF)=some false)
  (Mt:PySem.W.findIn K (.ref aF) "__class__"=some (some (.builtin "object.__class__")))
  (cn:PySem.W.specialIn K (.builtin "object.__class__") "__get__"=some (some (.builtin "getset_descriptor.__get__")))
  (ct:PySem.W.takesIn K (.builtin "object.__class__")=some true)
  (iTF:PySem.W.kitOne K (.type "tuple") (.ref ao)=some false)
  (iTL:PySem.W.kitOne K (.type "tuple") (.ref aF)=some false)
  (iFF:PySem.W.kitOne K (.ref ao) (.ref ao)=some true)
  (iLF:PySem.W.kitOne K (.ref aF) (.ref ao)=some false)
  (iLL:PySem.W.kitOne K (.ref aF) (.ref aF)=some true)
  (gw:PySem.W.findIn K (.ref ao) "__init__"=some (some (.ref iW)))
  (o7:PySem.W.isFn K (.ref iW)=true)
  (oY:K.lookup iW=some ⟨Ey,Ew,.func (PySem.W.fnOf "__init__" "Fronted.__init__" (defArgs gk) (defBody gk) (defScope gk) .none Ez E_ Et Fd tW Fb),Er⟩)
  (pC:PySem.W.codeIn K tW "Fronted.__init__"=true)
  (oZ:PySem.W.keepIn K (.ref iW)=true)
  (iG:PySem.W.findIn K (.ref aF) "__init__"=some (some (.ref jF)))
  (qZ:PySem.W.isFn K (.ref jF)=true)
  (qU:K.lookup jF=some ⟨Ju,Js,.func (PySem.W.fnOf "__init__" "Later.__init__" (defArgs iC) (defBody iC) (defScope iC) .none Jw Jz Jm JF wF JC),Ji⟩)
  (rC:PySem.W.codeIn K wF "Later.__init__"=true)
  (qX:PySem.W.keepIn K (.ref jF)=true)
  (jc:PySem.W.findIn K (.ref aJ) "__init__"=some (some (.ref kj)))
  (sZ:PySem.W.isFn K (.ref kj)=true)
  (sJ:K.lookup kj=some ⟨KR,KJ,.func (PySem.W.fnOf "__init__" "Word.__init__" (defArgs iY) (defBody iY) (defScope iY) .none Lk Mf Kp Mx yQ Mj),J7⟩)
  (tK:PySem.W.codeIn K yQ "Word.__init__"=true)
  (sU:PySem.W.keepIn K (.ref kj)=true)
  (gY:PySem.W.findIn K (.ref aJ) "body_parts"=some (some (.ref jl)))
  (qe:PySem.W.isFn K (.ref jl)=true)
  (qd:K.lookup jl=some ⟨Gi,Gg,.func (PySem.W.fnOf "body_parts" "Word.body_parts" (defArgs gU) (defBody gU) (defScope gU) .none Gv GQ Gd Ht vH Hj),Fw⟩)
  (qg:PySem.W.codeIn K vH "Word.body_parts"=true)
  (lF:PySem.W.keepIn K (.ref jl)=true)
  (d7:PySem.W.findIn K (.ref aP) "__init__"=some (some (.ref kJ)))
  (tE:PySem.W.isFn K (.ref kJ)=true)
  (sS:K.lookup kJ=some ⟨KZ,KQ,.func (PySem.W.fnOf "__init__" "Text.__init__" (defArgs iZ) (defBody iZ) (defScope iZ) .none Lp Mh Kr MF yS Mq),J9⟩)
  (tM:PySem.W.codeIn K yS "Text.__init__"=true)
  (sY:PySem.W.keepIn K (.ref kJ)=true)
  (jz:PySem.W.findIn K (.ref aP) "word_at"=some (some (.ref lU)))
  (uw:PySem.W.isFn K (.ref lU)=true)
  (ur:K.lookup lU=some ⟨NQ,NP,.func (PySem.W.fnOf "word_at" "Text.word_at" (defArgs ju) (defBody ju) (defScope ju) .none N5 Oa Nx Og zU Od),Nm⟩)
  (uI:PySem.W.codeIn K zU "Text.word_at"=true)
  (pU:PySem.W.keepIn K (.ref lU)=true)
  (dJ:PySem.W.findIn K (.ref aQ) "__init__"=some (some (.ref jG)))
  (q_:PySem.W.isFn K (.ref jG)=true)
  (qW:K.lookup jG=some ⟨Jv,Jt,.func (PySem.W.fnOf "__init__" "Going.__init__" (defArgs iD) (defBody iD) (defScope iD) .none Jx JB Jo JG wG JD),Jj⟩)
  (rD:PySem.W.codeIn K wG "Going.__init__"=true)
  (qY:PySem.W.keepIn K (.ref jG)=true)
  (jd:PySem.W.findIn K (.ref aM) "__init__"=some (some (.ref kI)))
  (tD:PySem.W.isFn K (.ref kI)=true)
  (sO:K.lookup kI=some ⟨KY,KN,.func (PySem.W.fnOf "__init__" "Walk.__init__" (defArgs gH) (defBody gH) (defScope gH) .none Ln Mg Kq Mz yR Ml),J8⟩)
  (tL:PySem.W.codeIn K yR "Walk.__init__"=true)
  (sX:PySem.W.keepIn K (.ref kI)=true)
  (jY:PySem.W.findIn K (.ref aM) "at_end"=some (some (.ref ni)))
  (vV:PySem.W.isFn K (.ref ni)=true)
  (vU:K.lookup ni=some ⟨Qz,Qy,.func (PySem.W.fnOf "at_end" "Walk.at_end" (defArgs jT) (defBody jT) (defScope jT) .none Q6 Ri Ql Rv Cd Rn),PJ⟩)
  (vZ:PySem.W.codeIn K Cd "Walk.at_end"=true)
  (qM:PySem.W.keepIn K (.ref ni)=true)
  (pX:PySem.W.findIn K (.ref aM) "top"=some (some (.ref tG)))
  (Dm:PySem.W.isFn K (.ref tG)=true)
  (Dk:K.lookup tG=some ⟨Yz,Yy,.func (PySem.W.fnOf "top" "Walk.top" (defArgs pN) (defBody pN) (defScope pN) .none YJ YM Yt Y4 JN YQ),Ym⟩)
  (DW:PySem.W.codeIn K JN "Walk.top"=true)
  (wL:PySem.W.keepIn K (.ref tG)=true)
  (gO:PySem.W.findIn K (.ref aM) "tally"=some (some (.ref o8)))
  (yH:PySem.W.isFn K (.ref o8)=true)
  (yF:K.lookup o8=some ⟨Tw,Tt,.func (PySem.W.fnOf "tally" "Walk.tally" (defArgs lK) (defBody lK) (defScope lK) .none TQ TY Te T_ En T4),SM⟩)
  (yU:PySem.W.codeIn K En "Walk.tally"=true)
  (sV:PySem.W.keepIn K (.ref o8)=true)
  (lZ:PySem.W.findIn K (.ref aM) "stand"=some (some (.ref o9)))
  (yI:PySem.W.isFn K (.ref o9)=true)
  (yG:K.lookup o9=some ⟨Tz,Tv,.func (PySem.W.fnOf "stand" "Walk.stand" (defArgs iQ) (defBody iQ) (defScope iQ) .none TV T3 Tf Ua Eo T5),SN⟩)
  (yV:PySem.W.codeIn K Eo "Walk.stand"=true)
  (sW:PySem.W.keepIn K (.ref o9)=true)
  (nO:PySem.W.findIn K (.ref aM) "step"=some (some (.ref qF)))
  (Al:PySem.W.isFn K (.ref qF)=true)
  (Aj:K.lookup qF=some ⟨VR,VN,.func (PySem.W.fnOf "step" "Walk.step" (defArgs nA) (defBody nA) (defScope nA) .none Wn Xa Vu Xz Hq Xh),Vb⟩)
  (Ba:PySem.W.codeIn K Hq "Walk.step"=true)
  (uT:PySem.W.keepIn K (.ref qF)=true)
  (nP:PySem.W.findIn K (.ref aM) "move"=some (some (.ref qG)))
  (Am:PySem.W.isFn K (.ref qG)=true)
  (Ak:K.lookup qG=some ⟨V0,VP,.func (PySem.W.fnOf "move" "Walk.move" (defArgs nD) (defBody nD) (defScope nD) .none Wq Xb Vv XC Hr Xi),Vc⟩)
  (Bb:PySem.W.codeIn K Hr "Walk.move"=true)
  (uU:PySem.W.keepIn K (.ref qG)=true)
  (GJ:PySem.W.nsIn K mainGlobals "FORK_NO"=some (some mC))
  (mF:RelV (.int 8) mC)
  (Dz:PySem.W.nsIn K mainGlobals "FORK_YES"=some (some j5))
  (j_:RelV (.int 7) j5)
  (yJ:PySem.W.nsIn K mainGlobals "WHILE_PAST"=some (some nY))
  (oN:RelV (.int 10) nY)
  (yK:PySem.W.nsIn K mainGlobals "WHILE_INTO"=some (some iK))
  (iR:RelV (.int 9) iK)
  (GD:PySem.W.nsIn K mainGlobals "NO_WORD"=some (some u6))
  (vo:RelV (.int 11) u6)
  (W0:PySem.W.nsIn K mainGlobals "DROP"=some (some Fl))
  (FZ:RelV (.int 1) Fl)
  (WQ:PySem.W.nsIn K mainGlobals "SWAP"=some (some Fg))
  (FN:RelV (.int 3) Fg)
  (Rg:PySem.W.nsIn K mainGlobals "FRONT"=some (some rO))
  (rR:RelV (.int 4) rO)
  (WT:PySem.W.nsIn K mainGlobals "PART"=some (some Fi))
  (FQ:RelV (.int 5) Fi)
  (WM:PySem.W.nsIn K mainGlobals "TURN"=some (some Fe))
  (FJ:RelV (.int 6) Fe)
  (LC:PySem.W.nsIn K mainGlobals "PLACES"=some (some xJ))
  (xZ:RelV (.int 15) xJ)
  (WR:PySem.W.nsIn K mainGlobals "SHUT"=some (some uZ))
  (vm:RelV (.int 12) uZ)
  (LQ:PySem.W.nsIn K mainGlobals "BODIES"=some (some xM))
  (yd:RelV (.int 14) xM)
  (Rf:PySem.W.nsIn K mainGlobals "LOOKS"=some (some (.ref uP)))
  (QX:K.lookup uP=some Z7)
  (Ph:jP Z7 [.int 0,.int 1,.int 1,.int 2,.int 2,.int 1,.int 3,.int 1,.int 1,.int 1,.int 1,.int 0,.int 0])
  (Rc:PySem.W.nsIn K mainGlobals "NAMES"=some (some (.ref pY)))
  (I_:K.lookup pY=some Iw)
  (Ox:jP Iw [.str (PySem.Str.ofString "lay"),.str (PySem.Str.ofString "drop"),.str (PySem.Str.ofString "twin"),.str (PySem.Str.ofString "swap"),.str (PySem.Str.ofString "front"),.str (PySem.Str.ofString "part"),.str (PySem.Str.ofString "turn"),.str (PySem.Str.ofString "fork"),.str (PySem.Str.ofString "while")])
  (Oz:Iw.cls=.type "tuple"∧Iw.dict=none)
  (Dw:PySem.W.nsIn K mainGlobals "NAMELESS"=some (some j4))
  (j9:RelV (.int 9) j4)
  (WX:PySem.W.nsIn K mainGlobals "FORK"=some (some j6))
  (kh:RelV (.int 7) j6)
  (Rb:PySem.W.nsIn K mainGlobals "WHILE"=some (some eE))
  (eG:RelV (.int 8) eE)
  (abv:PySem.W.nsIn K mainGlobals "LAY"=some (some zJ))
  (zL:RelV (.int 0) zJ)
  (WW:PySem.W.nsIn K mainGlobals "LAID"=some (some Fj))
  (FW:RelV (.str (PySem.Str.ofString "turn turn front turn turn front swap")) Fj)
  (vW:PySem.W.nsIn K mainGlobals "TOP_REACHED"=some (some gZ))
  (ig:RelV (.str (PySem.Str.ofString "turn turn front turn part")) gZ)
  (GF:PySem.W.nsIn K mainGlobals "INTO_NO"=some (some u9))
  (vp:RelV (.str (PySem.Str.ofString "front swap turn part drop front")) u9)
  (Dy:PySem.W.nsIn K mainGlobals "INTO_YES"=some (some rZ))
  (sE:RelV (.str (PySem.Str.ofString "front swap turn part swap drop front")) rZ)
  (uy:PySem.W.nsIn K mainGlobals "STACK_PARTED"=some (some lH))
  (lM:RelV (.str (PySem.Str.ofString "drop front swap part")) lH)
  (Ly:PySem.W.nsIn K mainGlobals "WORKED"=some (some (.ref jk)))
  (Lf:K.lookup jk=some V1)
  (JZ:jP V1 [.str (PySem.Str.ofString ""),.str (PySem.Str.ofString "drop"),.str (PySem.Str.ofString "twin turn swap front swap front"),.str (PySem.Str.ofString "swap part swap turn front swap front"),.str (PySem.Str.ofString "swap part turn front front"),.str (PySem.Str.ofString "part turn turn front swap front"),.str (PySem.Str.ofString "swap part swap part swap turn front turn front swap front")])
  (Ao:PySem.W.nsIn K mainGlobals "PAST_BODY"=some (some qm))
  (qw:RelV (.str (PySem.Str.ofString "front turn drop swap")) qm)
  (Aq:PySem.W.nsIn K mainGlobals "INTO_BODY"=some (some qp))
  (qx:RelV (.str (PySem.Str.ofString "front swap turn part swap twin turn front turn part turn front front swap front")) qp)
  (LK:PySem.W.nsIn K mainGlobals "COPIED"=some (some n8))
  (mU:RelV (.int 13) n8)
  (WL:PySem.W.nsIn K mainGlobals "TWIN"=some (some nZ))
  (mY:RelV (.int 2) nZ)
  (LR:PySem.W.nsIn K mainGlobals "ALWAYS"=some (some (.ref pG)))
  (Lh:K.lookup pG=some V3)
  (J1:jP V3 [.int 2,.int 2,.int 0,.int 1,.int 2,.int 2,.int 2,.int 0,.int 0,.int 0,.int 1,.int 0,.int 1,.int 0,.int 0])
  (WY:PySem.W.nsIn K mainGlobals "EACH"=some (some (.ref vJ)))
  (Wm:K.lookup vJ=some acZ)
  (Uw:jP acZ [.ref bE0,.ref bE1,.ref bE2,.ref bE3,.ref bE4,.ref bE5,.ref bE6,.ref bE7,.ref bE8,.ref bE9,.ref afo,.ref afn,.ref afm,.ref afl,.ref afk])
  (lE0:K.lookup bE0=some oE0) (tE0:jP oE0 [.int 0,.int 1,.int 0,.int 1,.int 2,.int 3,.int 4,.int 1,.int 1,.int 1,.int 0,.int 0,.int 3,.int 0,.int 1169])
  (lE1:K.lookup bE1=some oE1) (tE1:jP oE1 [.int 0,.int 4,.int 0,.int 3,.int 1,.int 5,.int 0,.int 2,.int 1,.int 1,.int 0,.int 0,.int 4,.int 0,.int 1169])
  (lE2:K.lookup bE2=some oE2) (tE2:jP oE2 [.int 0,.int 4,.int 1,.int 6,.int 3,.int 6,.int 1,.int 3,.int 1,.int 1,.int 0,.int 0,.int 5,.int 0,.int 1169])
  (lE3:K.lookup bE3=some oE3) (tE3:jP oE3 [.int 0,.int 5,.int 0,.int 8,.int 3,.int 8,.int 1,.int 4,.int 1,.int 1,.int 0,.int 0,.int 6,.int 0,.int 1169])
  (lE4:K.lookup bE4=some oE4) (tE4:jP oE4 [.int 0,.int 6,.int 0,.int 7,.int 3,.int 9,.int 1,.int 5,.int 1,.int 1,.int 0,.int 0,.int 7,.int 0,.int 1169])
  (lE5:K.lookup bE5=some oE5) (tE5:jP oE5 [.int 0,.int 7,.int 0,.int 8,.int 3,.int 10,.int 2,.int 6,.int 1,.int 1,.int 0,.int 0,.int 8,.int 0,.int 1169])
  (lE6:K.lookup bE6=some oE6) (tE6:jP oE6 [.int 0,.int 8,.int 0,.int 12,.int 4,.int 12,.int 2,.int 7,.int 1,.int 1,.int 0,.int 0,.int 9,.int 0,.int 1169])
  (lE7:K.lookup bE7=some oE7) (tE7:jP oE7 [.int 0,.int 9,.int 0,.int 9,.int 3,.int 12,.int 4,.int 9,.int 1,.int 1,.int 0,.int 0,.int 11,.int 0,.int 1169])
  (lE8:K.lookup bE8=some oE8) (tE8:jP oE8 [.int 0,.int 9,.int 0,.int 8,.int 3,.int 12,.int 4,.int 8,.int 2,.int 1,.int 0,.int 0,.int 11,.int 0,.int 1169])
  (lE9:K.lookup bE9=some oE9) (tE9:jP oE9 [.int 0,.int 0,.int 1,.int 19,.int 15,.int 14,.int 7,.int 10,.int 1,.int 1,.int 0,.int 0,.int 12,.int 0,.int 1169])
  (aeW:K.lookup afo=some ah5) (aec:jP ah5 [.int 0,.int 1,.int 0,.int 17,.int 11,.int 12,.int 4,.int 9,.int 2,.int 1,.int 0,.int 0,.int 12,.int 0,.int 1169])
  (aeV:K.lookup afn=some ah4) (aeb:jP ah4 [.int 0,.int 10,.int 0,.int 8,.int 1,.int 11,.int 0,.int 10,.int 0,.int 1,.int 0,.int 0,.int 11,.int 0,.int 1169])
  (aeU:K.lookup afm=some ah3) (aea:jP ah3 [.int 0,.int 1,.int 0,.int 0,.int 0,.int 1,.int 0,.int 0,.int 1,.int 1,.int 0,.int 0,.int 2,.int 0,.int 1169])
  (aeT:K.lookup afl=some ah2) (ad_:jP ah2 [.int 0,.int 0,.int 0,.int 0,.int 0,.int 0,.int 0,.int 0,.int 0,.int 0,.int 0,.int 0,.int 0,.int 1,.int 0])
  (aeS:K.lookup afk=some ah1) (ad9:jP ah1 [.int 0,.int 0,.int 0,.int 0,.int 0,.int 0,.int 0,.int 0,.int 0,.int 0,.int 0,.int 0,.int 0,.int 1,.int 0])
  (Lz:PySem.W.nsIn K mainGlobals "PUT_IN"=some (some (.ref rM)))
  (Lg:K.lookup rM=some V2)
  (J0:jP V2 [.int 1,.int 0,.int 0,.int 0,.int 1,.int 0,.int 0,.int 0,.int 0,.int 0,.int 0,.int 0,.int 0,.int 0,.int 0])
  (aas:PySem.W.nsIn K mainGlobals "min"=some none) (aat:PySem.W.nsIn K mainGlobals "len"=some none) (Ov:PySem.W.nsIn K mainGlobals "tuple"=some none) (Cp:PySem.W.nsIn K mainGlobals "reversed"=some none) (Ow:PySem.W.nsIn K mainGlobals "range"=some none) (aar:PySem.W.nsIn K mainGlobals "sum"=some none) (aaq:PySem.W.nsIn K mainGlobals "zip"=some none) (xu:PySem.W.nsIn K mainGlobals "isinstance"=some none) (aau:PySem.W.nsIn K mainGlobals "int"=some none) (Ut:PySem.W.nsIn K mainGlobals "list"=some none) :
  ∃ fd:FuncData,(∀ (s:Shared) (v:Value),BindsTo s fd ⟨[v],[]⟩ [("_law_script",v)])∧∀ base:Heap,K.In base→base.Ns mainGlobals mg→FnOk l.prog w K mg base CX0 60 fa fd ["_law_script"] (spLaw K):=by
 have e:=hfa.symm.trans (PySem.W.mg_of X G a52)
 cases e
 have F1:=fun_mk (st:=nq) l1 c1 k1
 have F2:=fun_mk (st:=vh) l2 c2 k2
 have F3:=fun_mk (st:=tZ) l3 c3 k3
 have F4:=fun_mk (st:=oE) l4 c4 k4
 have F5:=fun_mk (st:=oH) l5 c5 k5
 have F6:=fun_mk (st:=zK) l6 c6 k6
 have F7:=fun_mk (st:=rQ) l7 c7 k7
 have F8:=fun_mk (st:=qu) l8 c8 k8
 have F9:=fun_mk (st:=xU) l9 c9 k9
 have F10:=fun_mk (st:=gF) l10 c10 k10
 have F11:=fun_mk (st:=CK) l11 c11 k11
 have F12:=fun_mk (st:=iM) l12 c12 k12
 have F13:=fun_mk (st:=oG) l13 c13 k13
 have F14:=fun_mk (st:=k_) l14 c14 k14
 have F15:=fun_mk (st:=oA) l15 c15 k15
 have F16:=fun_mk (st:=oK) l16 c16 k16
 have F17:=fun_mk (st:=oJ) l17 c17 k17
 have F18:=fun_mk (st:=jC) l18 c18 k18
 have F19:=fun_mk (st:=gG) l19 c19 k19
 have F20:=fun_mk (st:=uc) l20 c20 k20
 have F21:=fun_mk (st:=j8) l21 c21 k21
 have F22:=fun_mk (st:=xW) l22 c22 k22
 have F23:=fun_mk (st:=pL) l23 c23 k23
 have F24:=fun_mk (st:=mO) l24 c24 k24
 have F25:=fun_mk (st:=rP) l25 c25 k25
 have F26:=fun_mk (st:=g_) l26 c26 k26
 have F27:=fun_mk (st:=mR) l27 c27 k27
 have F28:=fun_mk (st:=oF) l28 c28 k28
 have F29:=fun_mk (st:=t_) l29 c29 k29
 have F30:=fun_mk (st:=jq) l30 c30 k30
 have F31:=fun_mk (st:=iB) l31 c31 k31
 have F32:=fun_mk (st:=oM) l32 c32 k32
 have F33:=fun_mk (st:=mQ) l33 c33 k33
 have F34:=fun_mk (st:=xV) l34 c34 k34
 have F35:=fun_mk (st:=ou) l35 c35 k35
 have F36:=fun_mk (st:=xT) l36 c36 k36
 have F37:=fun_mk (st:=jt) l37 c37 k37
 have F38:=fun_mk (st:=gD) l38 c38 k38
 have F39:=fun_mk (st:=gC) l39 c39 k39
 have F40:=fun_mk (st:=lu) l40 c40 k40
 have F41:=fun_mk (st:=nu) l41 c41 k41
 have F42:=fun_mk (st:=jr) l42 c42 k42
 have F43:=fun_mk (st:=eZ) l43 c43 k43
 have F45:=fun_mk (st:=lg) l45 c45 k45
 have F46:=fun_mk (st:=lq) l46 c46 k46
 have F47:=fun_mk (st:=jD) l47 c47 k47
 have F48:=fun_mk (st:=h_) l48 c48 k48
 have F49:=fun_mk (st:=jE) l49 c49 k49
 have F50:=fun_mk (st:=jf) l50 c50 k50
 have F51:=fun_mk (st:=eY) l51 c51 k51
 have F52:=fun_mk (st:=sy) l52 c52 k52
 have b1:=F1.binds (ps:=["tree"]) fun _ _ _ _ _ _ us hl=>match us,hl with | [_],_=>rfl
 have m1:=PySem.W.mg_of X G a1
 have b2:=F2.binds (ps:=["tree"]) fun _ _ _ _ _ _ us hl=>match us,hl with | [_],_=>rfl
 have m2:=PySem.W.mg_of X G a2
 have b3:=F3.binds (ps:=["tree"]) fun _ _ _ _ _ _ us hl=>match us,hl with | [_],_=>rfl
 have m3:=PySem.W.mg_of X G a3
 have b4:=F4.binds (ps:=["word"]) fun _ _ _ _ _ _ us hl=>match us,hl with | [_],_=>rfl
 have m4:=PySem.W.mg_of X G a4
 have b5:=F5.binds (ps:=["word"]) fun _ _ _ _ _ _ us hl=>match us,hl with | [_],_=>rfl
 have m5:=PySem.W.mg_of X G a5
 have b6:=F6.binds (ps:=["tree"]) fun _ _ _ _ _ _ us hl=>match us,hl with | [_],_=>rfl
 have m6:=PySem.W.mg_of X G a6
 have b7:=F7.binds (ps:=["sort"]) fun _ _ _ _ _ _ us hl=>match us,hl with | [_],_=>rfl
 have m7:=PySem.W.mg_of X G a7
 have b8:=F8.binds (ps:=["yes","no"]) fun _ _ _ _ _ _ us hl=>match us,hl with | [_,_],_=>rfl
 have m8:=PySem.W.mg_of X G a8
 have b9:=F9.binds (ps:=["body"]) fun _ _ _ _ _ _ us hl=>match us,hl with | [_],_=>rfl
 have m9:=PySem.W.mg_of X G a9
 have b10:=F10.binds (ps:=["names"]) fun _ _ _ _ _ _ us hl=>match us,hl with | [_],_=>rfl
 have m10:=PySem.W.mg_of X G a10
 have b11:=F11.binds (ps:=["text","tree"]) fun _ _ _ _ _ _ us hl=>match us,hl with | [_,_],_=>rfl
 have m11:=PySem.W.mg_of X G a11
 have b12:=F12.binds (ps:=[]) fun _ _ _ _ _ _ us hl=>match us,hl with | [],_=>rfl
 have m12:=PySem.W.mg_of X G a12
 have b13:=F13.binds (ps:=[]) fun _ _ _ _ _ _ us hl=>match us,hl with | [],_=>rfl
 have m13:=PySem.W.mg_of X G a13
 have b14:=F14.binds (ps:=[]) fun _ _ _ _ _ _ us hl=>match us,hl with | [],_=>rfl
 have m14:=PySem.W.mg_of X G a14
 have b15:=F15.binds (ps:=[]) fun _ _ _ _ _ _ us hl=>match us,hl with | [],_=>rfl
 have m15:=PySem.W.mg_of X G a15
 have b16:=F16.binds (ps:=[]) fun _ _ _ _ _ _ us hl=>match us,hl with | [],_=>rfl
 have m16:=PySem.W.mg_of X G a16
 have b17:=F17.binds (ps:=["sort"]) fun _ _ _ _ _ _ us hl=>match us,hl with | [_],_=>rfl
 have m17:=PySem.W.mg_of X G a17
 have b18:=F18.binds (ps:=[]) fun _ _ _ _ _ _ us hl=>match us,hl with | [],_=>rfl
 have m18:=PySem.W.mg_of X G a18
 have b19:=F19.binds (ps:=[]) fun _ _ _ _ _ _ us hl=>match us,hl with | [],_=>rfl
 have m19:=PySem.W.mg_of X G a19
 have b20:=F20.binds (ps:=["text","tree"]) fun _ _ _ _ _ _ us hl=>match us,hl with | [_,_],_=>rfl
 have m20:=PySem.W.mg_of X G a20
 have b21:=F21.binds (ps:=["sort","top"]) fun _ _ _ _ _ _ us hl=>match us,hl with | [_,_],_=>rfl
 have m21:=PySem.W.mg_of X G a21
 have b22:=F22.binds (ps:=["tally"]) fun _ _ _ _ _ _ us hl=>match us,hl with | [_],_=>rfl
 have m22:=PySem.W.mg_of X G a22
 have b23:=F23.binds (ps:=["one","other"]) fun _ _ _ _ _ _ us hl=>match us,hl with | [_,_],_=>rfl
 have m23:=PySem.W.mg_of X G a23
 have b24:=F24.binds (ps:=["tally"]) fun _ _ _ _ _ _ us hl=>match us,hl with | [_],_=>rfl
 have m24:=PySem.W.mg_of X G a24
 have b25:=F25.binds (ps:=["height","text"]) fun _ _ _ _ _ _ us hl=>match us,hl with | [_,_],_=>rfl
 have m25:=PySem.W.mg_of X G a25
 have b26:=F26.binds (ps:=["height","tally"]) fun _ _ _ _ _ _ us hl=>match us,hl with | [_,_],_=>rfl
 have m26:=PySem.W.mg_of X G a26
 have b27:=F27.binds (ps:=["row"]) fun _ _ _ _ _ _ us hl=>match us,hl with | [_],_=>rfl
 have m27:=PySem.W.mg_of X G a27
 have b28:=F28.binds (ps:=["row"]) fun _ _ _ _ _ _ us hl=>match us,hl with | [_],_=>rfl
 have m28:=PySem.W.mg_of X G a28
 have b29:=F29.binds (ps:=["tree","place"]) fun _ _ _ _ _ _ us hl=>match us,hl with | [_,_],_=>rfl
 have m29:=PySem.W.mg_of X G a29
 have b30:=F30.binds (ps:=["row"]) fun _ _ _ _ _ _ us hl=>match us,hl with | [_],_=>rfl
 have m30:=PySem.W.mg_of X G a30
 have b31:=F31.binds (ps:=["row","most"]) fun _ _ _ _ _ _ us hl=>match us,hl with | [_,_],_=>rfl
 have m31:=PySem.W.mg_of X G a31
 have b32:=F32.binds (ps:=["row"]) fun _ _ _ _ _ _ us hl=>match us,hl with | [_],_=>rfl
 have m32:=PySem.W.mg_of X G a32
 have b33:=F33.binds (ps:=["text","tree","budget"]) fun _ _ _ _ _ _ us hl=>match us,hl with | [_,_,_],_=>rfl
 have m33:=PySem.W.mg_of X G a33
 have b34:=F34.binds (ps:=["stand","budget"]) fun _ _ _ _ _ _ us hl=>match us,hl with | [_,_],_=>rfl
 have m34:=PySem.W.mg_of X G a34
 have b35:=F35.binds (ps:=["stand","budget"]) fun _ _ _ _ _ _ us hl=>match us,hl with | [_,_],_=>rfl
 have m35:=PySem.W.mg_of X G a35
 have b36:=F36.binds (ps:=["step","load","stack"]) fun _ _ _ _ _ _ us hl=>match us,hl with | [_,_,_],_=>rfl
 have m36:=PySem.W.mg_of X G a36
 have b37:=F37.binds (ps:=["_law_script"]) fun _ _ _ _ _ _ us hl=>match us,hl with | [_],_=>rfl
 have m37:=PySem.W.mg_of X G a37
 have b38:=F38.binds (ps:=["_law_deck_here","_law_many"]) fun _ _ _ _ _ _ us hl=>match us,hl with | [_,_],_=>rfl
 have m38:=PySem.W.mg_of X G a38
 have b39:=F39.binds (ps:=["_law_deck_here","_law_deep"]) fun _ _ _ _ _ _ us hl=>match us,hl with | [_,_],_=>rfl
 have m39:=PySem.W.mg_of X G a39
 have b40:=F40.binds (ps:=["_law_deck_here"]) fun _ _ _ _ _ _ us hl=>match us,hl with | [_],_=>rfl
 have m40:=PySem.W.mg_of X G a40
 have b41:=F41.binds (ps:=["_law_deck_here","_law_deep"]) fun _ _ _ _ _ _ us hl=>match us,hl with | [_,_],_=>rfl
 have m41:=PySem.W.mg_of X G a41
 have b42:=F42.binds (ps:=["_law_deck_here","_law_deep","_law_many"]) fun _ _ _ _ _ _ us hl=>match us,hl with | [_,_,_],_=>rfl
 have m42:=PySem.W.mg_of X G a42
 have b43:=F43.binds (ps:=["_law_tree_here"]) fun _ _ _ _ _ _ us hl=>match us,hl with | [_],_=>rfl
 have m43:=PySem.W.mg_of X G a43
 have b45:=F45.binds (ps:=["_law_stack_here","_law_sort_here"]) fun _ _ _ _ _ _ us hl=>match us,hl with | [_,_],_=>rfl
 have m45:=PySem.W.mg_of X G a45
 have b46:=F46.binds (ps:=["_law_stand"]) fun _ _ _ _ _ _ us hl=>match us,hl with | [_],_=>rfl
 have m46:=PySem.W.mg_of X G a46
 have b47:=F47.binds (ps:=["_law_sort_here","_law_load_here","_law_stack_here"]) fun _ _ _ _ _ _ us hl=>match us,hl with | [_,_,_],_=>rfl
 have m47:=PySem.W.mg_of X G a47
 have b48:=F48.binds (ps:=["_law_stand"]) fun _ _ _ _ _ _ us hl=>match us,hl with | [_],_=>rfl
 have m48:=PySem.W.mg_of X G a48
 have b49:=F49.binds (ps:=["_law_height","_law_text_here"]) fun _ _ _ _ _ _ us hl=>match us,hl with | [_,_],_=>rfl
 have m49:=PySem.W.mg_of X G a49
 have b50:=F50.binds (ps:=["_law_height","_law_tally"]) fun _ _ _ _ _ _ us hl=>match us,hl with | [_,_],_=>rfl
 have m50:=PySem.W.mg_of X G a50
 have b51:=F51.binds (ps:=["_law_height","_law_text_here","_law_tree_here","_law_tally","_law_due"]) fun _ _ _ _ _ _ us hl=>match us,hl with | [_,_,_,_,_],_=>rfl
 have m51:=PySem.W.mg_of X G a51
 have IV:=PySem.W.mg_none_of X G aas
 have dZ:=PySem.W.mg_none_of X G aat
 have cL:=PySem.W.mg_none_of X G Ov
 have gJ:=PySem.W.mg_none_of X G Cp
 have cO:=PySem.W.mg_none_of X G Ow
 have abb:=PySem.W.mg_none_of X G aar
 have Iz:=PySem.W.mg_none_of X G aaq
 have cI:=PySem.W.mg_none_of X G xu
 have Ul:=PySem.W.mg_none_of X G aau
 have V7:=PySem.W.mg_none_of X G Ut
 have fu:=PySem.W.mg_of X G Ec
 have jX:=PySem.W.mg_of X G MK
 have V_:=PySem.W.mg_of X G Rz
 have vC:=PySem.W.mg_of X G RD
 have rT:=PySem.W.mg_of X G MN
 have Wa:=PySem.W.mg_of X G RB
 have O:Own K ao aF aJ aP aQ aM:=⟨⟨⟨CV,Dq,CQ,CJ⟩,Du,C_,Cv,Cz,DR,cn,ct⟩,⟨⟨Ku,Lr,Km,Kf⟩,Lx,K1,JV,Ke,Mt,cn,ct⟩,⟨Qm,Q9,Qi,PX⟩,⟨Qo,Ra,Qk,P_⟩,⟨Kv,Ls,Ko,Kg⟩,⟨Qn,Q_,Qj,P0⟩,um,qR,yu,vQ,Ac,Ab,Dg,Gk,Ad,Aa,Af,yt,yw,vR,vP,yq,uh,Ae,iTF,iTL,iFF,iLF,iLL⟩
 have vM:=fun_mk (st:=gk) oY pC oZ
 have pF:=vM.binds (ps:=["self","item","behind"]) fun _ _ _ _ _ _ us hl=>match us,hl with | [_,_,_],_=>rfl
 have Eh:Mk K ao iW:=⟨Di,gw,o7,Dl⟩
 have zF:=fun_mk (st:=iC) qU rC qX
 have rG:=zF.binds (ps:=["self","tree","place"]) fun _ _ _ _ _ _ us hl=>match us,hl with | [_,_,_],_=>rfl
 have M5:Mk K aF jF:=⟨K6,iG,qZ,Li⟩
 have zW:=fun_mk (st:=iY) sJ tK sU
 have tO:=zW.binds (ps:=["self","tree"]) fun _ _ _ _ _ _ us hl=>match us,hl with | [_,_],_=>rfl
 have RJ:Mk K aJ kj:=⟨QB,jc,sZ,QZ⟩
 have wH:=fun_mk (st:=gU) qd qg lF
 have qj:=wH.binds (ps:=["self"]) fun _ _ _ _ _ _ us hl=>match us,hl with | [_],_=>rfl
 have ql:Meth K aJ "body_parts" jl:=⟨gY,qe,lF⟩
 have zY:=fun_mk (st:=iZ) sS tM sY
 have fQ:=zY.binds (ps:=["self","tree"]) fun _ _ _ _ _ _ us hl=>match us,hl with | [_,_],_=>rfl
 have rY:Mk K aP kJ:=⟨QD,d7,tE,Q5⟩
 have Cm:=fun_mk (st:=ju) ur uI pU
 have uJ:=Cm.binds (ps:=["self","place"]) fun _ _ _ _ _ _ us hl=>match us,hl with | [_,_],_=>rfl
 have uQ:Meth K aP "word_at" lU:=⟨jz,uw,pU⟩
 have zG:=fun_mk (st:=iD) qW rD qY
 have fB:=zG.binds (ps:=["self","text"]) fun _ _ _ _ _ _ us hl=>match us,hl with | [_,_],_=>rfl
 have pH:Mk K aQ jG:=⟨K7,dJ,q_,Lj⟩
 have zX:=fun_mk (st:=gH) sO tL sX
 have tQ:=zX.binds (ps:=["self","stand","budget"]) fun _ _ _ _ _ _ us hl=>match us,hl with | [_,_,_],_=>rfl
 have RK:Mk K aM kI:=⟨QC,jd,tD,Q0⟩
 have Ep:=fun_mk (st:=jT) vU vZ qM
 have wj:=Ep.binds (ps:=["self"]) fun _ _ _ _ _ _ us hl=>match us,hl with | [_],_=>rfl
 have wA:Meth K aM "at_end" ni:=⟨jY,vV,qM⟩
 have Ot:=fun_mk (st:=pN) Dk DW wL
 have wO:=Ot.binds (ps:=["self"]) fun _ _ _ _ _ _ us hl=>match us,hl with | [_],_=>rfl
 have wQ:Meth K aM "top" tG:=⟨pX,Dm,wL⟩
 have HY:=fun_mk (st:=lK) yF yU sV
 have lX:=HY.binds (ps:=["self"]) fun _ _ _ _ _ _ us hl=>match us,hl with | [_],_=>rfl
 have mq:Meth K aM "tally" o8:=⟨gO,yH,sV⟩
 have H_:=fun_mk (st:=iQ) yG yV sW
 have za:=H_.binds (ps:=["self"]) fun _ _ _ _ _ _ us hl=>match us,hl with | [_],_=>rfl
 have zq:Meth K aM "stand" o9:=⟨lZ,yI,sW⟩
 have JQ:=fun_mk (st:=nA) Aj Ba uT
 have Bd:=JQ.binds (ps:=["self"]) fun _ _ _ _ _ _ us hl=>match us,hl with | [_],_=>rfl
 have Bo:Meth K aM "step" qF:=⟨nO,Al,uT⟩
 have JR:=fun_mk (st:=nD) Ak Bb uU
 have Bf:=JR.binds (ps:=["self","step","going","word"]) fun _ _ _ _ _ _ us hl=>match us,hl with | [_,_,_,_],_=>rfl
 have Bp:Meth K aM "move" qG:=⟨nP,Am,uU⟩
 have rW:=PySem.W.mg_of X G GJ
 have pR:=PySem.W.mg_of X G Dz
 have yD:=PySem.W.mg_of X G yJ
 have lR:=PySem.W.mg_of X G yK
 have Gm:=PySem.W.mg_of X G GD
 have Wh:=PySem.W.mg_of X G W0
 have Wc:=PySem.W.mg_of X G WQ
 have wX:=PySem.W.mg_of X G Rg
 have Wd:=PySem.W.mg_of X G WT
 have Wb:=PySem.W.mg_of X G WM
 have Lb:=PySem.W.mg_of X G LC
 have BW:=PySem.W.mg_of X G WR
 have Ld:=PySem.W.mg_of X G LQ
 have QM:=PySem.W.mg_of X G Rf
 have Qh:=fun H=>Ph.sq (H:=H) QX
 have QL:=PySem.W.mg_of X G Rc
 have Qg:=fun H=>Ox.sq (H:=H) I_
 have Pg:∃ ob,K.lookup pY=some ob∧ob.cls=.type "tuple"∧ob.dict=none:=⟨_,I_,Oz⟩
 have pQ:=PySem.W.mg_of X G Dw
 have m_:=PySem.W.mg_of X G WX
 have fU:=PySem.W.mg_of X G Rb
 have IW:=PySem.W.mg_of X G abv
 have Wf:=PySem.W.mg_of X G WW
 have jW:=PySem.W.mg_of X G vW
 have Gn:=PySem.W.mg_of X G GF
 have Dj:=PySem.W.mg_of X G Dy
 have uq:=PySem.W.mg_of X G uy
 have K_:=PySem.W.mg_of X G Ly
 have oW:=fun H=>JZ.sq (H:=H) Lf
 have Ah:=PySem.W.mg_of X G Ao
 have Ai:=PySem.W.mg_of X G Aq
 have qT:=PySem.W.mg_of X G LK
 have qD:=PySem.W.mg_of X G WL
 have Le:=PySem.W.mg_of X G LR
 have Kl:=fun H=>J1.sq (H:=H) Lh
 have Wg:=PySem.W.mg_of X G WY
 have Gb:=fun H=>Uw.sq (H:=H) Wm
 have Gb:∀ H,afQ K H vJ wM:=fun H=>⟨_,Gb H,.cons ⟨bE0,rfl,tE0.sq lE0⟩ (.cons ⟨bE1,rfl,tE1.sq lE1⟩ (.cons ⟨bE2,rfl,tE2.sq lE2⟩ (.cons ⟨bE3,rfl,tE3.sq lE3⟩ (.cons ⟨bE4,rfl,tE4.sq lE4⟩ (.cons ⟨bE5,rfl,tE5.sq lE5⟩ (.cons ⟨bE6,rfl,tE6.sq lE6⟩ (.cons ⟨bE7,rfl,tE7.sq lE7⟩ (.cons ⟨bE8,rfl,tE8.sq lE8⟩ (.cons ⟨bE9,rfl,tE9.sq lE9⟩ (.cons ⟨afo,rfl,aec.sq aeW⟩ (.cons ⟨afn,rfl,aeb.sq aeV⟩ (.cons ⟨afm,rfl,aea.sq aeU⟩ (.cons ⟨afl,rfl,ad_.sq aeT⟩ (.cons ⟨afk,rfl,ad9.sq aeS⟩ (.nil)))))))))))))))⟩
 have La:=PySem.W.mg_of X G Lz
 have Kh:=fun H=>J0.sq (H:=H) Lg
 refine⟨PySem.W.fnOf "law" "law" (defArgs sy) (defBody sy) (defScope sy) .none aij aiG ahK ajs afh aiH,fun s v=>.of_eq rfl,fun base _ _=>?_⟩
 have O1:=aeJ (P:=l.prog) (w:=w) (mg:=mg) (base:=base) F1
 have O2:=agt (P:=l.prog) (w:=w) (mg:=mg) (base:=base) F2
 have O3:=aeH (P:=l.prog) (w:=w) (mg:=mg) (base:=base) F3
 have O6:=ahY (P:=l.prog) (w:=w) (mg:=mg) (base:=base) F6
 have O7:=aeG (P:=l.prog) (w:=w) (mg:=mg) (base:=base) F7
 have O8:=agw (P:=l.prog) (w:=w) (mg:=mg) (base:=base) m_ kh F8
 have O9:=agu (P:=l.prog) (w:=w) (mg:=mg) (base:=base) fU eG F9
 have O20:=aeK (P:=l.prog) (w:=w) (mg:=mg) (base:=base) F20
 have O21:=Yv (P:=l.prog) (w:=w) (mg:=mg) (base:=base) O m_ kh rW mF pR j_ fU eG yD oN lR iR pQ j9 Gm vo F21
 have O22:=agx (P:=l.prog) (w:=w) (mg:=mg) (base:=base) abb qT mU qD mY F22
 have O23:=aeL (P:=l.prog) (w:=w) (mg:=mg) (base:=base) cL Iz F23
 have O30:=Vy (P:=l.prog) (w:=w) (mg:=mg) (base:=base) O cI jX F30
 have O38:=VF (P:=l.prog) (w:=w) (mg:=mg) (base:=base) dZ F38
 have O43:=Tn (P:=l.prog) (w:=w) (mg:=mg) (base:=base) dZ F43
 have O45:=VB (P:=l.prog) (w:=w) (mg:=mg) (base:=base) dZ F45
 have HW:=Eu (P:=l.prog) (w:=w) (mg:=mg) (base:=base) O vM
 have M4:=Jq (P:=l.prog) (w:=w) (mg:=mg) (base:=base) O zF
 have zV:=KH (P:=l.prog) (w:=w) (mg:=mg) (base:=base) O zY
 have zp:=Jr (P:=l.prog) (w:=w) (mg:=mg) (base:=base) O zG
 have Ub:=Qx (P:=l.prog) (w:=w) (mg:=mg) (base:=base) O Ep
 have abR:=Yx (P:=l.prog) (w:=w) (mg:=mg) (base:=base) O Ot
 have HS:=Tq (P:=l.prog) (w:=w) (mg:=mg) (base:=base) O cL HY
 have O4:=aaS (P:=l.prog) (w:=w) (mg:=mg) (base:=base) IV dZ pQ j9 F1 (O1.mono (by decide)) b1 m1 F4
 have O5:=aaV (P:=l.prog) (w:=w) (mg:=mg) (base:=base) F2 (O2.mono (by decide)) b2 m2 F5
 have O10:=acU (P:=l.prog) (w:=w) (mg:=mg) (base:=base) cL QL Qg F7 (O7.mono (by decide)) b7 m7 Pg F10
 have O24:=acT (P:=l.prog) (w:=w) (mg:=mg) (base:=base) Iz cL Le Kl Wg Gb F23 (O23.mono (by decide)) b23 m23 F24
 have O27:=Yw (P:=l.prog) (w:=w) (mg:=mg) (base:=base) O cI F1 (O1.mono (by decide)) b1 m1 fu jX F27
 have O31:=Nz (P:=l.prog) (w:=w) (mg:=mg) (base:=base) O cI F30 (O30.mono (by decide)) b30 m30 fu F31
 have O32:=aaY (P:=l.prog) (w:=w) (mg:=mg) (base:=base) O cI cL F30 (O30.mono (by decide)) b30 m30 fu F32
 have O37:=VH (P:=l.prog) (w:=w) (mg:=mg) (base:=base) cO dZ F37
 have O46:=VD (P:=l.prog) (w:=w) (mg:=mg) (base:=base) IV dZ F43 (O43.mono (by decide)) b43 m43 F46
 have O47:=Tj (P:=l.prog) (w:=w) (mg:=mg) (base:=base) F43 (O43.mono (by decide)) b43 m43 F47
 have O11:=ok_put (P:=l.prog) (w:=w) (mg:=mg) (base:=base) wX rR F7 (O7.mono (by decide)) b7 m7 F6 (O6.mono (by decide)) b6 m6 F11
 have O13:=aaU (P:=l.prog) (w:=w) (mg:=mg) (base:=base) F6 (O6.mono (by decide)) b6 m6 F10 (O10.mono (by decide)) b10 m10 F13
 have O18:=Tg (P:=l.prog) (w:=w) (mg:=mg) (base:=base) fU eG jW ig Ah qw Ai qx F10 (O10.mono (by decide)) b10 m10 F8 (O8.mono (by decide)) b8 m8 F18
 have O19:=Kz (P:=l.prog) (w:=w) (mg:=mg) (base:=base) fU eG F10 (O10.mono (by decide)) b10 m10 F19
 have O29:=aeI (P:=l.prog) (w:=w) (mg:=mg) (base:=base) O dZ jX M5 (M4.mono (by decide)) rG F29
 have JH:=Gf (P:=l.prog) (w:=w) (mg:=mg) (base:=base) O F3 (O3.mono (by decide)) b3 m3 wH
 have Oi:=KD (P:=l.prog) (w:=w) (mg:=mg) (base:=base) O gJ V7 Lb xZ rT vC pH (zp.mono (by decide)) fB rY (zV.mono (by decide)) fQ zX
 have X5:=Tr (P:=l.prog) (w:=w) (mg:=mg) (base:=base) O gJ cL F32 (O32.mono (by decide)) b32 m32 H_
 have O17:=aaW (P:=l.prog) (w:=w) (mg:=mg) (base:=base) IW zL Wf FW m_ kh jW ig Gn vp Dj sE uq lM K_ oW F10 (O10.mono (by decide)) b10 m10 F8 (O8.mono (by decide)) b8 m8 F17
 have O26:=Qu (P:=l.prog) (w:=w) (mg:=mg) (base:=base) cO La Kh F23 (O23.mono (by decide)) b23 m23 F24 (O24.mono (by decide)) b24 m24 F26
 have O28:=aaT (P:=l.prog) (w:=w) (mg:=mg) (base:=base) O cI F29 (O29.mono (by decide)) b29 m29 fu jX F28
 have O48:=Qw (P:=l.prog) (w:=w) (mg:=mg) (base:=base) F46 (O46.mono (by decide)) b46 m46 F45 (O45.mono (by decide)) b45 m45 F43 (O43.mono (by decide)) b43 m43 F47 (O47.mono (by decide)) b47 m47 F48
 have O50:=Qv (P:=l.prog) (w:=w) (mg:=mg) (base:=base) cO F24 (O24.mono (by decide)) b24 m24 F50
 have Oh:=KC (P:=l.prog) (w:=w) (mg:=mg) (base:=base) O m_ kh fU eG F4 (O4.mono (by decide)) b4 m4 F5 (O5.mono (by decide)) b5 m5 F1 (O1.mono (by decide)) b1 m1 F2 (O2.mono (by decide)) b2 m2 vC rY (zV.mono (by decide)) fQ zW
 have O39:=aeM (P:=l.prog) (w:=w) (mg:=mg) (base:=base) cL cO F38 (O38.mono (by decide)) b38 m38 F39 b39 m39 3
 have O16:=aaX (P:=l.prog) (w:=w) (mg:=mg) (base:=base) cO gJ fU eG F8 (O8.mono (by decide)) b8 m8 F18 (O18.mono (by decide)) b18 m18 F19 (O19.mono (by decide)) b19 m19 F17 (O17.mono (by decide)) b17 m17 F10 (O10.mono (by decide)) b10 m10 F16
 have O15:=aaR (P:=l.prog) (w:=w) (mg:=mg) (base:=base) F10 (O10.mono (by decide)) b10 m10 F16 (O16.mono (by decide)) b16 m16 F8 (O8.mono (by decide)) b8 m8 F15
 have O36:=ags (P:=l.prog) (w:=w) (mg:=mg) (base:=base) O IW zL Wh FZ qD mY Wc FN wX rR Wd FQ Wb FJ F28 (O28.mono (by decide)) b28 m28 F27 (O27.mono (by decide)) b27 m27 fu Eh (HW.mono (by decide)) pF F36
 have O40:=VG (P:=l.prog) (w:=w) (mg:=mg) (base:=base) F38 (O38.mono (by decide)) b38 m38 F39 (O39.mono (by decide)) b39 m39 F40
 have RG:=NK (P:=l.prog) (w:=w) (mg:=mg) (base:=base) O dZ V_ RJ (Oh.mono (by decide)) tO Cm
 have O14:=Vz (P:=l.prog) (w:=w) (mg:=mg) (base:=base) F9 (O9.mono (by decide)) b9 m9 F15 (O15.mono (by decide)) b15 m15 F10 (O10.mono (by decide)) b10 m10 F14
 have Y6:=VL (P:=l.prog) (w:=w) (mg:=mg) (base:=base) O BW vm lR iR Ld yd pR j_ rW mF F36 (O36.mono (by decide)) b36 m36 rT ql (JH.mono (by decide)) qj pH (zp.mono (by decide)) fB JR
 have O12:=Ti (P:=l.prog) (w:=w) (mg:=mg) (base:=base) F13 (O13.mono (by decide)) b13 m13 F14 (O14.mono (by decide)) b14 m14 F12
 have Y5:=VJ (P:=l.prog) (w:=w) (mg:=mg) (base:=base) O dZ BW vm qD mY qT mU QM Qh F21 (O21.mono (by decide)) b21 m21 F31 (O31.mono (by decide)) b31 m31 uQ (RG.mono (by decide)) uJ wQ (abR.mono (by decide)) wO Bp (Y6.mono (by decide)) Bf JQ
 have O35:=acS (P:=l.prog) (w:=w) (mg:=mg) (base:=base) O Wa RK (Oi.mono (by decide)) tQ Bo (Y5.mono (by decide)) Bd wA (Ub.mono (by decide)) wj F35
 have O33:=Yu (P:=l.prog) (w:=w) (mg:=mg) (base:=base) O F35 (O35.mono (by decide)) b35 m35 F20 (O20.mono (by decide)) b20 m20 mq (HS.mono (by decide)) lX F33
 have O34:=agv (P:=l.prog) (w:=w) (mg:=mg) (base:=base) O F35 (O35.mono (by decide)) b35 m35 mq (HS.mono (by decide)) lX zq (X5.mono (by decide)) za F34
 have O41:=(acV (P:=l.prog) (w:=w) (mg:=mg) (base:=base) cO cL Ul F38 (O38.mono (by decide)) b38 m38 F39 (O39.mono (by decide)) b39 m39 F40 (O40.mono (by decide)) b40 m40 F41 b41 m41 F42 b42 m42 3 (by decide)).1
 have O42:=(acV (P:=l.prog) (w:=w) (mg:=mg) (base:=base) cO cL Ul F38 (O38.mono (by decide)) b38 m38 F39 (O39.mono (by decide)) b39 m39 F40 (O40.mono (by decide)) b40 m40 F41 b41 m41 F42 b42 m42 3 (by decide)).2
 have O25:=aeF (P:=l.prog) (w:=w) (mg:=mg) (base:=base) cO F11 (O11.mono (by decide)) b11 m11 F12 (O12.mono (by decide)) b12 m12 F25
 have O49:=Tp (P:=l.prog) (w:=w) (mg:=mg) (base:=base) cO F12 (O12.mono (by decide)) b12 m12 F49
 have O51:=Jp (P:=l.prog) (w:=w) (mg:=mg) (base:=base) F26 (O26.mono (by decide)) b26 m26 F22 (O22.mono (by decide)) b22 m22 F34 (O34.mono (by decide)) b34 m34 F25 (O25.mono (by decide)) b25 m25 F43 (O43.mono (by decide)) b43 m43 F51
 exact ok_law (P:=l.prog) (w:=w) (mg:=mg) (base:=base) cL cO F37 (O37.mono (by decide)) b37 m37 F42 (O42.mono (by decide)) b42 m42 F38 (O38.mono (by decide)) b38 m38 F39 (O39.mono (by decide)) b39 m39 F25 (O25.mono (by decide)) b25 m25 F49 (O49.mono (by decide)) b49 m49 F26 (O26.mono (by decide)) b26 m26 F50 (O50.mono (by decide)) b50 m50 F48 (O48.mono (by decide)) b48 m48 F33 (O33.mono (by decide)) b33 m33 F43 (O43.mono (by decide)) b43 m43 F51 (O51.mono (by decide)) b51 m51 F52
theorem walk {l:PySem.W.OpenLaw}{q:Program}{loose:List Str}{XP:(Str→Option Value)→Heap→Prop}{YP:World→Heap→Prop}{d:DefRec}{K:Params→PySem.W.Frag} (hn:l.most=some 63) (hdf:d.params.defaults=[])
  (hY:∀ (w:World) (h:Heap),YP w h→(K w.params).In h)
  (F:∀ (w:World) (mg:Str→Option Value) (fa:Addr) (h:Heap),(K w.params).In h→h.Ns mainGlobals mg→mg d.name=some (.ref fa) →
   ∃ fd:FuncData,(∀ (s:Shared) (u:Value),BindsTo s fd ⟨[u],[]⟩ [("_law_script",u)])∧∀ base:Heap,(K w.params).In base→base.Ns mainGlobals mg→FnOk l.prog w (K w.params) mg base CX0 60 fa fd ["_law_script"] (spLaw (K w.params))) :
  PySem.W.WalkO q loose XP YP l.row.toRowW d [] (fun f vs=>PySem.call f vs) :=
 L2.walk_of (n:=63) (k:=60) (x:="_law_script") (CX:=fun _=>CX0) (sp:=fun w=>spLaw (K w.params)) hn (by decide) hdf ⟨rfl,by decide,by decide⟩ hY F (fun _ _ a ns hl _ hS=>⟨a,ns,rfl,hS,hl,fun _=>rfl⟩) fun _ _ _ _ _ z=>z
theorem ad4 {q:Program}{loose:List Str}{XP:(Str→Option Value)→Heap→Prop}{K:Params→PySem.W.Frag}{n t:Nat}{ad:List Addr}{r:PySem.W.RowW}{d:DefRec}{kwd:List (Str×Expr)}{run:Value→List Value→Sem Value}
  (h:PySem.W.WalkO q loose XP (fun w hp=>(K w.params).In hp) r d kwd run)
  (hI:∀ (w:World) (s₀ s₁:Shared) (args:List PySem.W.WData) (vals:List Value) (as:List Addr),PySem.W.X.obsZ ad s₀=PySem.W.X.valZ K n t w→PySem.W.Laid r.records w s₀ s₁ args vals as→(K w.params).In s₁.heap) :
  PySem.W.WalkX q loose XP (PySem.W.X.obsZ ad) (PySem.W.X.valZ K n t) r d kwd run :=
 fun w s₀ s₁ mg mb G y a o pm cd doc dV kV ho hd hcd hD hmg hg args vals as L hpre hlay hrd hwl hlo=>h w s₀ s₁ mg mb G (hI w s₀ s₁ args vals as y L) a o pm cd doc dV kV ho hd hcd hD hmg hg args vals as hpre hlay hrd hwl hlo
end d8
def PySem.W.Fast.tw10781988322311493189:Nat:=0
def PySem.W.Fast.tw8991469761832555261:Nat:=0
def PySem.W.Fast.tw4526355901092019335:Nat:=0
def PySem.W.Fast.tw9866999167236303370:Nat:=0
def PySem.W.Fast.tw13513145353234422766:Nat:=0
def PySem.W.Fast.tw7741740694423745874:Nat:=0
def PySem.W.Fast.tw13445825684142327556:Nat:=0
def PySem.W.Fast.tw16203367617835370278:Nat:=0
def PySem.W.Fast.tw18256743542890255617:Nat:=0
def PySem.W.Fast.tw17643124993942642058:Nat:=0
def PySem.W.Fast.tw5256544281609862429:Nat:=0
def PySem.W.Fast.tw2293176205594529875:Nat:=0
def PySem.W.Fast.tw413021874941665971:Nat:=0
def PySem.W.Fast.tw5582846085852105994:Nat:=0
def PySem.W.Fast.tw4848426069971799964:Nat:=0
def PySem.W.Fast.tw1836802681722725770:Nat:=0
def PySem.W.Fast.tw2882700508056210567:Nat:=0
def PySem.W.Fast.tw5243819307328296910:Nat:=0
def PySem.W.Fast.tw15371428647338936674:Nat:=0
def PySem.W.Fast.tw4543574735826858972:Nat:=0
def PySem.W.Fast.tw1001081870450114845:Nat:=0
def PySem.W.Fast.tw4342873934422287806:Nat:=0
def PySem.W.Fast.tw14146137107468910715:Nat:=0
def PySem.W.Fast.tw13997574843269868398:Nat:=0
def PySem.W.Fast.tw15215504909344645196:Nat:=0
def PySem.W.Fast.tw12883166741897495186:Nat:=0
def PySem.W.Fast.tw9867320283870516822:Nat:=0
def PySem.W.Fast.tw16488292151665961994:Nat:=0
def PySem.W.Fast.tw4945107721548325286:Nat:=0
def PySem.W.Fast.tw14842247144858515803:Nat:=0
def PySem.W.Fast.tw10488814317625414154:Nat:=0
def PySem.W.Fast.tw16189207378845239435:Nat:=0
def PySem.W.Fast.tw11635470979923776035:Nat:=0
def PySem.W.Fast.tw13666539910689764700:Nat:=0
def PySem.W.Fast.tw8489990024549454958:Nat:=0
def PySem.W.Fast.tw1024057212438574142:Nat:=0
def PySem.W.Fast.tw14682527122163674534:Nat:=0
def PySem.W.Fast.tw9002254128345348921:Nat:=0
def PySem.W.Fast.tw11419386830775511901:Nat:=0
def PySem.W.Fast.tw15673267023601691226:Nat:=0
def PySem.W.Fast.tw4100143137448447845:Nat:=0
def PySem.W.Fast.tw9913334011786911452:Nat:=0
def PySem.W.Fast.tw1477542425749560539:Nat:=0
open PySem PySem.W PyProof.Rows
set_option maxRecDepth 100000 in
set_option maxHeartbeats 0 in
theorem PySem.Challenge.cw_selfword_k62_towers_holds : PySem.Challenge.rw_selfword_k62_towers.Holds := by
 w_on; o_law; z_head; (case hw=>w_witness2)
 k_fill
 refine d8.ad4 (d8.walk (l:=PySem.Challenge.rw_selfword_k62_towers) rfl rfl (fun w h Y=>Y) ?F) ?I
 case I =>
  intro w s₀ s₁ args vals as y L
  z_open y L KX ZH ZN ZT
  exact KX
 case F =>
  intro w mg fa h KX G hmg
  refine' d8.all_mk KX G hmg ?a1 ?l1 ?c1 ?k1 ?a2 ?l2 ?c2 ?k2 ?a3 ?l3 ?c3 ?k3 ?a4 ?l4 ?c4 ?k4 ?a5 ?l5 ?c5 ?k5 ?a6 ?l6 ?c6 ?k6 ?a7 ?l7 ?c7 ?k7 ?a8 ?l8 ?c8 ?k8 ?a9 ?l9 ?c9 ?k9 ?a10 ?l10 ?c10 ?k10 ?a11 ?l11 ?c11 ?k11 ?a12 ?l12 ?c12 ?k12 ?a13 ?l13 ?c13 ?k13 ?a14 ?l14 ?c14 ?k14 ?a15 ?l15 ?c15 ?k15 ?a16 ?l16 ?c16 ?k16 ?a17 ?l17 ?c17 ?k17 ?a18 ?l18 ?c18 ?k18 ?a19 ?l19 ?c19 ?k19 ?a20 ?l20 ?c20 ?k20 ?a21 ?l21 ?c21 ?k21 ?a22 ?l22 ?c22 ?k22 ?a23 ?l23 ?c23 ?k23 ?a24 ?l24 ?c24 ?k24 ?a25 ?l25 ?c25 ?k25 ?a26 ?l26 ?c26 ?k26 ?a27 ?l27 ?c27 ?k27 ?a28 ?l28 ?c28 ?k28 ?a29 ?l29 ?c29 ?k29 ?a30 ?l30 ?c30 ?k30 ?a31 ?l31 ?c31 ?k31 ?a32 ?l32 ?c32 ?k32 ?a33 ?l33 ?c33 ?k33 ?a34 ?l34 ?c34 ?k34 ?a35 ?l35 ?c35 ?k35 ?a36 ?l36 ?c36 ?k36 ?a37 ?l37 ?c37 ?k37 ?a38 ?l38 ?c38 ?k38 ?a39 ?l39 ?c39 ?k39 ?a40 ?l40 ?c40 ?k40 ?a41 ?l41 ?c41 ?k41 ?a42 ?l42 ?c42 ?k42 ?a43 ?l43 ?c43 ?k43 ?a45 ?l45 ?c45 ?k45 ?a46 ?l46 ?c46 ?k46 ?a47 ?l47 ?c47 ?k47 ?a48 ?l48 ?c48 ?k48 ?a49 ?l49 ?c49 ?k49 ?a50 ?l50 ?c50 ?k50 ?a51 ?l51 ?c51 ?k51 ?a52 ?l52 ?c52 ?k52 ?Ec ?CV ?Dq ?CQ ?CJ ?Di ?Dl ?um ?qR ?MK ?Ku ?Lr ?Km ?Kf ?K6 ?Li ?yu ?vQ ?Rz ?Qm ?Q9 ?Qi ?PX ?QB ?QZ ?Ac ?Ab ?Dg ?Gk ?Ad ?Aa ?RD ?Qo ?Ra ?Qk ?P_ ?QD ?Q5 ?Af ?yt ?MN ?Kv ?Ls ?Ko ?Kg ?K7 ?Lj ?yw ?vR ?RB ?Qn ?Q_ ?Qj ?P0 ?QC ?Q0 ?vP ?yq ?uh ?Ae ?Du ?C_ ?Cv ?Cz ?DR ?Lx ?K1 ?JV ?Ke ?Mt ?cn ?ct ?iTF ?iTL ?iFF ?iLF ?iLL ?gw ?o7 ?oY ?pC ?oZ ?iG ?qZ ?qU ?rC ?qX ?jc ?sZ ?sJ ?tK ?sU ?gY ?qe ?qd ?qg ?lF ?d7 ?tE ?sS ?tM ?sY ?jz ?uw ?ur ?uI ?pU ?dJ ?q_ ?qW ?rD ?qY ?jd ?tD ?sO ?tL ?sX ?jY ?vV ?vU ?vZ ?qM ?pX ?Dm ?Dk ?DW ?wL ?gO ?yH ?yF ?yU ?sV ?lZ ?yI ?yG ?yV ?sW ?nO ?Al ?Aj ?Ba ?uT ?nP ?Am ?Ak ?Bb ?uU ?GJ ?mF ?Dz ?j_ ?yJ ?oN ?yK ?iR ?GD ?vo ?W0 ?FZ ?WQ ?FN ?Rg ?rR ?WT ?FQ ?WM ?FJ ?LC ?xZ ?WR ?vm ?LQ ?yd ?Rf ?QX ?Ph ?Rc ?I_ ?Ox ?Oz ?Dw ?j9 ?WX ?kh ?Rb ?eG ?abv ?zL ?WW ?FW ?vW ?ig ?GF ?vp ?Dy ?sE ?uy ?lM ?Ly ?Lf ?JZ ?Ao ?qw ?Aq ?qx ?LK ?mU ?WL ?mY ?LR ?Lh ?J1 ?WY ?Wm ?Uw ?lE0 ?tE0 ?lE1 ?tE1 ?lE2 ?tE2 ?lE3 ?tE3 ?lE4 ?tE4 ?lE5 ?tE5 ?lE6 ?tE6 ?lE7 ?tE7 ?lE8 ?tE8 ?lE9 ?tE9 ?aeW ?aec ?aeV ?aeb ?aeU ?aea ?aeT ?ad_ ?aeS ?ad9 ?Lz ?Lg ?J0 ?aas ?aat ?Ov ?Cp ?Ow ?aar ?aaq ?xu ?aau ?Ut
  (case a1=>k_is); (case l1=>k_is); (case c1=>k_is); (case k1=>k_is)
  (case a2=>k_is); (case l2=>k_is); (case c2=>k_is); (case k2=>k_is)
  (case a3=>k_is); (case l3=>k_is); (case c3=>k_is); (case k3=>k_is)
  (case a4=>k_is); (case l4=>k_is); (case c4=>k_is); (case k4=>k_is)
  (case a5=>k_is); (case l5=>k_is); (case c5=>k_is); (case k5=>k_is)
  (case a6=>k_is); (case l6=>k_is); (case c6=>k_is); (case k6=>k_is)
  (case a7=>k_is); (case l7=>k_is); (case c7=>k_is); (case k7=>k_is)
  (case a8=>k_is); (case l8=>k_is); (case c8=>k_is); (case k8=>k_is)
  (case a9=>k_is); (case l9=>k_is); (case c9=>k_is); (case k9=>k_is)
  (case a10=>k_is); (case l10=>k_is); (case c10=>k_is); (case k10=>k_is)
  (case a11=>k_is); (case l11=>k_is); (case c11=>k_is); (case k11=>k_is)
  (case a12=>k_is); (case l12=>k_is); (case c12=>k_is); (case k12=>k_is)
  (case a13=>k_is); (case l13=>k_is); (case c13=>k_is); (case k13=>k_is)
  (case a14=>k_is); (case l14=>k_is); (case c14=>k_is); (case k14=>k_is)
  (case a15=>k_is); (case l15=>k_is); (case c15=>k_is); (case k15=>k_is)
  (case a16=>k_is); (case l16=>k_is); (case c16=>k_is); (case k16=>k_is)
  (case a17=>k_is); (case l17=>k_is); (case c17=>k_is); (case k17=>k_is)
  (case a18=>k_is); (case l18=>k_is); (case c18=>k_is); (case k18=>k_is)
  (case a19=>k_is); (case l19=>k_is); (case c19=>k_is); (case k19=>k_is)
  (case a20=>k_is); (case l20=>k_is); (case c20=>k_is); (case k20=>k_is)
  (case a21=>k_is); (case l21=>k_is); (case c21=>k_is); (case k21=>k_is)
  (case a22=>k_is); (case l22=>k_is); (case c22=>k_is); (case k22=>k_is)
  (case a23=>k_is); (case l23=>k_is); (case c23=>k_is); (case k23=>k_is)
  (case a24=>k_is); (case l24=>k_is); (case c24=>k_is); (case k24=>k_is)
  (case a25=>k_is); (case l25=>k_is); (case c25=>k_is); (case k25=>k_is)
  (case a26=>k_is); (case l26=>k_is); (case c26=>k_is); (case k26=>k_is)
  (case a27=>k_is); (case l27=>k_is); (case c27=>k_is); (case k27=>k_is)
  (case a28=>k_is); (case l28=>k_is); (case c28=>k_is); (case k28=>k_is)
  (case a29=>k_is); (case l29=>k_is); (case c29=>k_is); (case k29=>k_is)
  (case a30=>k_is); (case l30=>k_is); (case c30=>k_is); (case k30=>k_is)
  (case a31=>k_is); (case l31=>k_is); (case c31=>k_is); (case k31=>k_is)
  (case a32=>k_is); (case l32=>k_is); (case c32=>k_is); (case k32=>k_is)
  (case a33=>k_is); (case l33=>k_is); (case c33=>k_is); (case k33=>k_is)
  (case a34=>k_is); (case l34=>k_is); (case c34=>k_is); (case k34=>k_is)
  (case a35=>k_is); (case l35=>k_is); (case c35=>k_is); (case k35=>k_is)
  (case a36=>k_is); (case l36=>k_is); (case c36=>k_is); (case k36=>k_is)
  (case a37=>k_is); (case l37=>k_is); (case c37=>k_is); (case k37=>k_is)
  (case a38=>k_is); (case l38=>k_is); (case c38=>k_is); (case k38=>k_is)
  (case a39=>k_is); (case l39=>k_is); (case c39=>k_is); (case k39=>k_is)
  (case a40=>k_is); (case l40=>k_is); (case c40=>k_is); (case k40=>k_is)
  (case a41=>k_is); (case l41=>k_is); (case c41=>k_is); (case k41=>k_is)
  (case a42=>k_is); (case l42=>k_is); (case c42=>k_is); (case k42=>k_is)
  (case a43=>k_is); (case l43=>k_is); (case c43=>k_is); (case k43=>k_is)
  (case a45=>k_is); (case l45=>k_is); (case c45=>k_is); (case k45=>k_is)
  (case a46=>k_is); (case l46=>k_is); (case c46=>k_is); (case k46=>k_is)
  (case a47=>k_is); (case l47=>k_is); (case c47=>k_is); (case k47=>k_is)
  (case a48=>k_is); (case l48=>k_is); (case c48=>k_is); (case k48=>k_is)
  (case a49=>k_is); (case l49=>k_is); (case c49=>k_is); (case k49=>k_is)
  (case a50=>k_is); (case l50=>k_is); (case c50=>k_is); (case k50=>k_is)
  (case a51=>k_is); (case l51=>k_is); (case c51=>k_is); (case k51=>k_is)
  (case a52=>k_is); (case l52=>k_is); (case c52=>k_is); (case k52=>k_is)
  (case Ec=>k_is)
  (case CV=>k_is)
  (case Dq=>k_is)
  (case CQ=>k_is)
  (case CJ=>k_is)
  (case Di=>k_is)
  (case Dl=>k_is)
  (case um=>k_is)
  (case qR=>k_is)
  (case MK=>k_is)
  (case Ku=>k_is)
  (case Lr=>k_is)
  (case Km=>k_is)
  (case Kf=>k_is)
  (case K6=>k_is)
  (case Li=>k_is)
  (case yu=>k_is)
  (case vQ=>k_is)
  (case Rz=>k_is)
  (case Qm=>k_is)
  (case Q9=>k_is)
  (case Qi=>k_is)
  (case PX=>k_is)
  (case QB=>k_is)
  (case QZ=>k_is)
  (case Ac=>k_is)
  (case Ab=>k_is)
  (case Dg=>k_is)
  (case Gk=>k_is)
  (case Ad=>k_is)
  (case Aa=>k_is)
  (case RD=>k_is)
  (case Qo=>k_is)
  (case Ra=>k_is)
  (case Qk=>k_is)
  (case P_=>k_is)
  (case QD=>k_is)
  (case Q5=>k_is)
  (case Af=>k_is)
  (case yt=>k_is)
  (case MN=>k_is)
  (case Kv=>k_is)
  (case Ls=>k_is)
  (case Ko=>k_is)
  (case Kg=>k_is)
  (case K7=>k_is)
  (case Lj=>k_is)
  (case yw=>k_is)
  (case vR=>k_is)
  (case RB=>k_is)
  (case Qn=>k_is)
  (case Q_=>k_is)
  (case Qj=>k_is)
  (case P0=>k_is)
  (case QC=>k_is)
  (case Q0=>k_is)
  (case vP=>k_is)
  (case yq=>k_is)
  (case uh=>k_is)
  (case Ae=>k_is)
  (case Du=>k_is)
  (case C_=>k_is)
  (case Cv=>k_is)
  (case Cz=>k_is)
  (case DR=>k_is)
  (case Lx=>k_is)
  (case K1=>k_is)
  (case JV=>k_is)
  (case Ke=>k_is)
  (case Mt=>k_is)
  (case cn=>k_is)
  (case ct=>k_is)
  (case iTF=>kit_is)
  (case iTL=>kit_is)
  (case iFF=>kit_is)
  (case iLF=>kit_is)
  (case iLL=>kit_is)
  (case gw=>k_is)
  (case o7=>k_is)
  (case oY=>k_is)
  (case pC=>k_is)
  (case oZ=>k_is)
  (case iG=>k_is)
  (case qZ=>k_is)
  (case qU=>k_is)
  (case rC=>k_is)
  (case qX=>k_is)
  (case jc=>k_is)
  (case sZ=>k_is)
  (case sJ=>k_is)
  (case tK=>k_is)
  (case sU=>k_is)
  (case gY=>k_is)
  (case qe=>k_is)
  (case qd=>k_is)
  (case qg=>k_is)
  (case lF=>k_is)
  (case d7=>k_is)
  (case tE=>k_is)
  (case sS=>k_is)
  (case tM=>k_is)
  (case sY=>k_is)
  (case jz=>k_is)
  (case uw=>k_is)
  (case ur=>k_is)
  (case uI=>k_is)
  (case pU=>k_is)
  (case dJ=>k_is)
  (case q_=>k_is)
  (case qW=>k_is)
  (case rD=>k_is)
  (case qY=>k_is)
  (case jd=>k_is)
  (case tD=>k_is)
  (case sO=>k_is)
  (case tL=>k_is)
  (case sX=>k_is)
  (case jY=>k_is)
  (case vV=>k_is)
  (case vU=>k_is)
  (case vZ=>k_is)
  (case qM=>k_is)
  (case pX=>k_is)
  (case Dm=>k_is)
  (case Dk=>k_is)
  (case DW=>k_is)
  (case wL=>k_is)
  (case gO=>k_is)
  (case yH=>k_is)
  (case yF=>k_is)
  (case yU=>k_is)
  (case sV=>k_is)
  (case lZ=>k_is)
  (case yI=>k_is)
  (case yG=>k_is)
  (case yV=>k_is)
  (case sW=>k_is)
  (case nO=>k_is)
  (case Al=>k_is)
  (case Aj=>k_is)
  (case Ba=>k_is)
  (case uT=>k_is)
  (case nP=>k_is)
  (case Am=>k_is)
  (case Ak=>k_is)
  (case Bb=>k_is)
  (case uU=>k_is)
  (case GJ=>k_is)
  (case mF=>exact⟨_,rfl⟩)
  (case Dz=>k_is)
  (case j_=>exact⟨_,rfl⟩)
  (case yJ=>k_is)
  (case oN=>exact⟨_,rfl⟩)
  (case yK=>k_is)
  (case iR=>exact⟨_,rfl⟩)
  (case GD=>k_is)
  (case vo=>exact⟨_,rfl⟩)
  (case W0=>k_is)
  (case FZ=>exact⟨_,rfl⟩)
  (case WQ=>k_is)
  (case FN=>exact⟨_,rfl⟩)
  (case Rg=>k_is)
  (case rR=>exact⟨_,rfl⟩)
  (case WT=>k_is)
  (case FQ=>exact⟨_,rfl⟩)
  (case WM=>k_is)
  (case FJ=>exact⟨_,rfl⟩)
  (case LC=>k_is)
  (case xZ=>exact⟨_,rfl⟩)
  (case WR=>k_is)
  (case vm=>exact⟨_,rfl⟩)
  (case LQ=>k_is)
  (case yd=>exact⟨_,rfl⟩)
  (case Rf=>k_is)
  (case QX=>k_is)
  (case Ph=>exact⟨_,_,rfl,rfl,by decide,by repeat (first | exact .nil | refine .cons ⟨_,rfl⟩ ?_)⟩)
  (case Rc=>k_is)
  (case I_=>k_is)
  (case Ox=>exact⟨_,_,rfl,rfl,by decide,by repeat (first | exact .nil | refine .cons ⟨_,rfl⟩ ?_)⟩)
  (case Oz=>exact⟨rfl,rfl⟩)
  (case Dw=>k_is)
  (case j9=>exact⟨_,rfl⟩)
  (case WX=>k_is)
  (case kh=>exact⟨_,rfl⟩)
  (case Rb=>k_is)
  (case eG=>exact⟨_,rfl⟩)
  (case abv=>k_is)
  (case zL=>exact⟨_,rfl⟩)
  (case WW=>k_is)
  (case FW=>exact⟨_,rfl⟩)
  (case vW=>k_is)
  (case ig=>exact⟨_,rfl⟩)
  (case GF=>k_is)
  (case vp=>exact⟨_,rfl⟩)
  (case Dy=>k_is)
  (case sE=>exact⟨_,rfl⟩)
  (case uy=>k_is)
  (case lM=>exact⟨_,rfl⟩)
  (case Ly=>k_is)
  (case Lf=>k_is)
  (case JZ=>exact⟨_,_,rfl,rfl,by decide,by repeat (first | exact .nil | refine .cons ⟨_,rfl⟩ ?_)⟩)
  (case Ao=>k_is)
  (case qw=>exact⟨_,rfl⟩)
  (case Aq=>k_is)
  (case qx=>exact⟨_,rfl⟩)
  (case LK=>k_is)
  (case mU=>exact⟨_,rfl⟩)
  (case WL=>k_is)
  (case mY=>exact⟨_,rfl⟩)
  (case LR=>k_is)
  (case Lh=>k_is)
  (case J1=>exact⟨_,_,rfl,rfl,by decide,by repeat (first | exact .nil | refine .cons ⟨_,rfl⟩ ?_)⟩)
  (case WY=>k_is)
  (case Wm=>k_is)
  (case Uw=>exact⟨_,_,rfl,rfl,by decide,by repeat (first | exact .nil | refine .cons rfl ?_)⟩)
  (case lE0=>k_is)
  (case tE0=>exact⟨_,_,rfl,rfl,by decide,by repeat (first | exact .nil | refine .cons ⟨_,rfl⟩ ?_)⟩)
  (case lE1=>k_is)
  (case tE1=>exact⟨_,_,rfl,rfl,by decide,by repeat (first | exact .nil | refine .cons ⟨_,rfl⟩ ?_)⟩)
  (case lE2=>k_is)
  (case tE2=>exact⟨_,_,rfl,rfl,by decide,by repeat (first | exact .nil | refine .cons ⟨_,rfl⟩ ?_)⟩)
  (case lE3=>k_is)
  (case tE3=>exact⟨_,_,rfl,rfl,by decide,by repeat (first | exact .nil | refine .cons ⟨_,rfl⟩ ?_)⟩)
  (case lE4=>k_is)
  (case tE4=>exact⟨_,_,rfl,rfl,by decide,by repeat (first | exact .nil | refine .cons ⟨_,rfl⟩ ?_)⟩)
  (case lE5=>k_is)
  (case tE5=>exact⟨_,_,rfl,rfl,by decide,by repeat (first | exact .nil | refine .cons ⟨_,rfl⟩ ?_)⟩)
  (case lE6=>k_is)
  (case tE6=>exact⟨_,_,rfl,rfl,by decide,by repeat (first | exact .nil | refine .cons ⟨_,rfl⟩ ?_)⟩)
  (case lE7=>k_is)
  (case tE7=>exact⟨_,_,rfl,rfl,by decide,by repeat (first | exact .nil | refine .cons ⟨_,rfl⟩ ?_)⟩)
  (case lE8=>k_is)
  (case tE8=>exact⟨_,_,rfl,rfl,by decide,by repeat (first | exact .nil | refine .cons ⟨_,rfl⟩ ?_)⟩)
  (case lE9=>k_is)
  (case tE9=>exact⟨_,_,rfl,rfl,by decide,by repeat (first | exact .nil | refine .cons ⟨_,rfl⟩ ?_)⟩)
  (case aeW=>k_is)
  (case aec=>exact⟨_,_,rfl,rfl,by decide,by repeat (first | exact .nil | refine .cons ⟨_,rfl⟩ ?_)⟩)
  (case aeV=>k_is)
  (case aeb=>exact⟨_,_,rfl,rfl,by decide,by repeat (first | exact .nil | refine .cons ⟨_,rfl⟩ ?_)⟩)
  (case aeU=>k_is)
  (case aea=>exact⟨_,_,rfl,rfl,by decide,by repeat (first | exact .nil | refine .cons ⟨_,rfl⟩ ?_)⟩)
  (case aeT=>k_is)
  (case ad_=>exact⟨_,_,rfl,rfl,by decide,by repeat (first | exact .nil | refine .cons ⟨_,rfl⟩ ?_)⟩)
  (case aeS=>k_is)
  (case ad9=>exact⟨_,_,rfl,rfl,by decide,by repeat (first | exact .nil | refine .cons ⟨_,rfl⟩ ?_)⟩)
  (case Lz=>k_is)
  (case Lg=>k_is)
  (case J0=>exact⟨_,_,rfl,rfl,by decide,by repeat (first | exact .nil | refine .cons ⟨_,rfl⟩ ?_)⟩)
  (case aas=>k_is)
  (case aat=>k_is)
  (case Ov=>k_is)
  (case Cp=>k_is)
  (case Ow=>k_is)
  (case aar=>k_is)
  (case aaq=>k_is)
  (case xu=>k_is)
  (case aau=>k_is)
  (case Ut=>k_is)
#print axioms PySem.Challenge.cw_selfword_k62_towers_holds
