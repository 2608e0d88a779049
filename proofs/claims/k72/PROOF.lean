import PyProof.Rows.All
import Wide.All
import OpenK.AllK
import Wide.FinOn
import PyProof.EqAt
import PyProof.EqKinds
import PyProof.TupleCall
import PySem.Challenge.RW_selfword_k72_whole_a_knot_does_what_it_m
set_option Elab.async false
set_option linter.all false
set_option maxRecDepth 100000
namespace L2
open PySem PySem.Spec PyProof.Rows
abbrev Key:=Sum Int Str
def keyIs:Key→Value→Bool
 | .inl k,v=>Value.isInt k v
 | .inr x,v=>Value.isStrOf x v
def keyH (w:World):Key→Int
 | .inl k=>hashInt k
 | .inr x=>hashStr w x
theorem keyIs_shape:∀ {k:Key}{v:Value},keyIs k v=true→(∃ i t,k=Sum.inl i∧v=Value.int i t)∨(∃ x t,k=Sum.inr x∧v=Value.str x t)
 | .inl i,v,h=>by
  obtain⟨t,e⟩:=Value.isInt_shape (k:=i) (v:=v) h
  exact .inl ⟨i,t,rfl,e⟩
 | .inr x,v,h=>by
  obtain⟨t,e⟩:=Value.isStrOf_shape (x:=x) (v:=v) h
  exact .inr ⟨x,t,rfl,e⟩
theorem key_ll (a b:Int):decide ((Sum.inl a:Key)=Sum.inl b)=(a == b):=by
 by_cases e:a=b
 ·subst e; simp
 ·have h:¬ (Sum.inl a:Key)=Sum.inl b:=fun q=>e (Sum.inl.inj q)
  rw [decide_eq_false h]
  exact (beq_eq_false_iff_ne.mpr e).symm
theorem key_rr (a b:Str):decide ((Sum.inr a:Key)=Sum.inr b)=decide (a=b):=by
 by_cases e:a=b
 ·subst e; simp
 ·have h:¬ (Sum.inr a:Key)=Sum.inr b:=fun q=>e (Sum.inr.inj q)
  rw [decide_eq_false h,decide_eq_false e]
theorem key_lr (a:Int) (b:Str):decide ((Sum.inl a:Key)=Sum.inr b)=false:=decide_eq_false (fun q=>nomatch q)
theorem key_rl (a:Str) (b:Int):decide ((Sum.inr a:Key)=Sum.inl b)=false:=decide_eq_false (fun q=>nomatch q)
def mixKind (prog:Program) (w:World):PySem.KeyKind prog w Key where
 is:=keyIs
 hash:=keyH w
 inj:=fun v a b ha hb=>by
  rcases keyIs_shape ha with⟨i,t,rfl,rfl⟩ | ⟨x,t,rfl,rfl⟩
  ·rcases keyIs_shape hb with⟨j,u,rfl,e⟩ | ⟨y,u,rfl,e⟩
   ·injection e with e1 _; rw [e1]
   ·exact nomatch e
  ·rcases keyIs_shape hb with⟨j,u,rfl,e⟩ | ⟨y,u,rfl,e⟩
   ·exact nomatch e
   ·injection e with e1 _; rw [e1]
 byValue:=fun k v h=>by
  rcases keyIs_shape h with⟨i,t,rfl,rfl⟩ | ⟨x,t,rfl,rfl⟩ <;> rfl
 pyHash:=fun hv h=>by
  rcases keyIs_shape hv with⟨i,t,rfl,rfl⟩ | ⟨x,t,rfl,rfl⟩
  ·exact wpAny_pyHash_int h
  ·exact wpAny_pyHash_str h
 eqBool:=fun hu hv h=>by
  rcases keyIs_shape hu with⟨i,t,rfl,rfl⟩ | ⟨x,t,rfl,rfl⟩
  ·rcases keyIs_shape hv with⟨j,u,rfl,rfl⟩ | ⟨y,u,rfl,rfl⟩
   ·rw [key_ll] at h; exact wpAny_eqBool_int h
   ·rw [key_lr] at h; exact SeqAt.EqAt.int_str i t y u _ _ _ _ h
  ·rcases keyIs_shape hv with⟨j,u,rfl,rfl⟩ | ⟨y,u,rfl,rfl⟩
   ·rw [key_rl] at h; exact SeqAt.EqAt.str_int x t j u _ _ _ _ h
   ·rw [key_rr] at h; exact wpAny_eqBool_str h
 «strs»:=fun k x t v h=>by
  rcases keyIs_shape h with⟨i,u,rfl,e⟩ | ⟨y,u,rfl,e⟩
  ·exact nomatch e
  ·injection e with e1 _
   subst e1
   cases v <;> rfl
end L2
namespace L2
open PySem PySem.Spec PyProof.Rows
inductive V where
 | non | bl (b:Bool) | int (i:Int) | str (x:Str) | byt (b:Array UInt8) | flt (b:UInt64) | ref (a:Addr) | ty (n:String)
 deriving DecidableEq
def RelV:V→Value→Prop
 | .non,u=>u=Value.none
 | .bl b,u=>u=Value.bool b
 | .int i,u=>∃ t,u=Value.int i t
 | .str x,u=>∃ t,u=Value.str x t
 | .byt b,u=>∃ t,u=Value.bytes b t
 | .flt b,u=>∃ t,u=Value.float b t
 | .ref a,u=>u=Value.ref a
 | .ty n,u=>u=Value.type n
abbrev Vals:List V→List Value→Prop:=Paired RelV
theorem Vals.length {xs:List V}{us:List Value} (r:Vals xs us):xs.length=us.length:=Paired.length r
theorem Vals.get:∀ {xs:List V}{us:List Value}{i:Nat}{x:V},Vals xs us→xs[i]?=some x→∃ u,us[i]?=some u∧RelV x u
 | _,_,_,_,.nil,e=>by simp at e
 | _,_,0,_,.cons r _,e=>by simp at e; subst e; exact⟨_,rfl,r⟩
 | _,_,i+1,x,.cons _ t,e=>by
  obtain⟨u,h1,h2⟩:=Vals.get (i:=i) (x:=x) t (by simpa using e)
  exact⟨u,by simpa using h1,h2⟩
theorem Vals.set {x:V}{u:Value} (r:RelV x u):∀ {xs:List V}{us:List Value} (i:Nat),Vals xs us→Vals (xs.set i x) (us.set i u)
 | _,_,_,.nil=>.nil
 | _,_,0,.cons _ t=>.cons r t
 | _,_,i+1,.cons q t=>.cons q (Vals.set r i t)
theorem Vals.append:∀ {xs ys:List V}{us ws:List Value},Vals xs us→Vals ys ws→Vals (xs++ys) (us++ws)
 | _,_,_,_,.nil,s=>s
 | _,_,_,_,.cons r t,s=>.cons r (Vals.append t s)
theorem Vals.take:∀ {xs:List V}{us:List Value} (n:Nat),Vals xs us→Vals (xs.take n) (us.take n)
 | _,_,0,_=>.nil
 | _,_,_+1,.nil=>.nil
 | _,_,n+1,.cons r t=>.cons r (Vals.take n t)
theorem Vals.drop:∀ {xs:List V}{us:List Value} (n:Nat),Vals xs us→Vals (xs.drop n) (us.drop n)
 | _,_,0,r=>r
 | _,_,_+1,.nil=>.nil
 | _,_,n+1,.cons _ t=>Vals.drop n t
def RelO:Option V→Option Value→Prop
 | some v,some u=>RelV v u
 | none,none=>True
 | _,_=>False
def KV {κ:Type}:List (κ×V)→List (κ×Value)→Prop:=Paired fun (p:κ×V) (q:κ×Value)=>p.1=q.1∧RelV p.2 q.2
def kV:Key→V
 | .inl i=>.int i
 | .inr x=>.str x
inductive HO where
 | lst (xs:List V)
 | tup (xs:List V)
 | dK (kvs:List (Key×V)) | dT (kvs:List (List Key×V))
 | set (S:Int→Bool) (n:Nat)
 | ins (C dx:Addr) (fs:List (Str×V))
 | own (x:Addr)
 | xd (fs:List (Str×V))
 | met (f x:Addr)
 | rng (lo hi:Int)
 | frz (o:Obj) (u:HO)
 | tbl (ps:Array Value)
 | ext (φ:Heap→Prop)
abbrev Hp:=Addr→Option HO
def upd (H:Hp) (a:Addr) (o:HO):Hp:=fun b=>if b=a then some o else H b
theorem upd_same {H:Hp}{a:Addr}{o:HO}:upd H a o a=some o:=by unfold upd; rw [if_pos rfl]
theorem upd_ne {H:Hp}{a b:Addr}{o:HO} (h:b≠a):upd H a o b=H b:=by unfold upd; rw [if_neg h]
theorem ZM {H:Hp}{a:Addr}{o u:HO}:upd (upd H a o) a u=upd H a u:=by
 funext b; unfold upd; split <;> rfl
theorem ne_of {H:Hp}{a b:Addr}{o u:HO} (h:H a=some o) (h':H b=some u) (d:o≠u):a≠b:=by
 intro e; subst e; rw [h] at h'; exact d (Option.some.inj h')
theorem ne_of_none {H:Hp}{a b:Addr}{o:HO} (h:H a=some o) (h':H b=none):a≠b:=by
 intro e; subst e; rw [h] at h'; cases h'
section
variable (P:Program) (w:World)
def ObjOk (H:Hp) (h:Heap) (a:Addr):HO→Prop
 | .lst xs=>xs.length≤sizeLine∧∃ (its:List Value) (n:Nat),Vals xs its∧h.get? a=some { cls:=.type "list",data:=.seq its.toArray n }
 | .tup xs=>xs.length≤sizeLine∧∃ its:List Value,Vals xs its∧IsTup h a its.toArray
 | .dK kvs=>kvs.length≤sizeLine∧(a == sysModules)=false∧∃ vs,KV kvs vs∧h.DictOf (mixKind P w) a vs
 | .dT kvs=>kvs.length≤sizeLine∧(a == sysModules)=false∧∃ xs:List (List Key×Addr×Value),
   Paired (fun (p:List Key×V) (q:List Key×Addr×Value)=>p.1=q.1∧H q.2.1=some (.tup (p.1.map kV))∧RelV p.2 q.2.2) kvs xs ∧
   ∃ o es ep,h.get? a=some o∧o.ExactDict∧o.data=.dict es ep∧es.toList=xs.map (entryOfKey (tupleKind (mixKind P w)))∧(xs.map (·.1)).Nodup
 | .set S n=>h.SetOf (intKind P w) a S n
 | .ins C dx fs=>H dx=some (.own a)∧fs.length≤1000∧dx≠a∧h.get? a=some (PySem.W.instObj C dx) ∧
   ∃ mA,h.Ns1 dx mA∧(∀ f,RelO (fs.lookup f) (mA f))∧PySem.Within mA (fs.map (·.1))
 | .own _=>∃ o,h.get? a=some o
 | .xd fs=>∃ mA,h.Ns1 a mA∧∀ f,RelO (fs.lookup f) (mA f)
 | .rng lo hi=>∃ t u v,h.get? a=some { cls:=.type "range",data:=.fields #[.int lo t,.int hi u,.int 1 v] }
 | .frz o u=>h.get? a=some o∧ObjOk H h a u
 | .tbl ps=>h.get? a=some { cls:=.none,data:=.fields ps }
 | .met f x=>h.get? a=some (PySem.W.methodObj (.ref f) (.ref x))
 | .ext φ=>φ h∧(∃ o,h.get? a=some o)∧∀ h1 h2:Heap,φ h1→(∀ o,h1.get? a=some o→h2.get? a=some o)→φ h2
def HOk (H:Hp) (h:Heap):Prop:=∀ a o,H a=some o→ObjOk P w H h a o
end
section
variable {P:Program}{w:World}{H H':Hp}{h h':Heap}{a:Addr}{o:HO}
theorem ObjOk.lt (x:ObjOk P w H h a o):a<h.objs.size:=by
 cases o with
 | lst xs=>obtain⟨_,_,_,_,e⟩:=x; exact Heap.lt_size e
 | tup xs=>obtain⟨_,_,_,p⟩:=x; exact p.lt
 | dK kvs=>obtain⟨_,_,_,_,o,_,_,e,_⟩:=x; exact Heap.lt_size e
 | dT kvs=>obtain⟨_,_,_,_,o,_,_,e,_⟩:=x; exact Heap.lt_size e
 | set S n=>obtain⟨o,_,_,_,e,_⟩:=x; exact Heap.lt_size e
 | ins C dx fs=>obtain⟨_,_,_,e,_⟩:=x; exact Heap.lt_size e
 | own y=>obtain⟨_,e⟩:=x; exact Heap.lt_size e
 | xd fs=>obtain⟨_,⟨_,_,_,e,_⟩,_⟩:=x; exact Heap.lt_size e
 | rng lo hi=>obtain⟨_,_,_,e⟩:=x; exact Heap.lt_size e
 | frz ob u=>obtain⟨e,_⟩:=x; exact Heap.lt_size e
 | tbl ps=>exact Heap.lt_size (show h.get? a=some _ from x)
 | met f y=>exact Heap.lt_size (show h.get? a=some _ from x)
 | ext φ=>obtain⟨_,⟨_,e⟩,_⟩:=x; exact Heap.lt_size e
theorem Paired.mapP {α β:Type}{F G:α→β→Prop}:∀ {l₁:List α}{l₂:List β},Paired F l₁ l₂→(∀ a b,F a b→G a b)→Paired G l₁ l₂
 | _,_,.nil,_=>.nil
 | _,_,.cons r t,f=>.cons (f _ _ r) (Paired.mapP t f)
theorem ObjOk.stay (x:ObjOk P w H h a o) (k:∀ b u,(b=a∨H b=some (.own a))→h.get? b=some u→h'.get? b=some u)
  (ho:∀ b,H b=some (.own a)→H' b=some (.own a)) (ht:∀ b xs,H b=some (.tup xs)→H' b=some (.tup xs)):ObjOk P w H' h' a o:=by
 induction o with
 | lst xs=>obtain⟨z,its,n,r,e⟩:=x; exact⟨z,its,n,r,k _ _ (.inl rfl) e⟩
 | tup xs=>obtain⟨z,its,r,ob,e,c⟩:=x; exact⟨z,its,r,ob,k _ _ (.inl rfl) e,c⟩
 | dK kvs=>obtain⟨z,y,vs,r,ob,es,ep,e,c⟩:=x; exact⟨z,y,vs,r,ob,es,ep,k _ _ (.inl rfl) e,c⟩
 | dT kvs =>
  obtain⟨z,y,xs,r,ob,es,ep,e,c⟩:=x
  exact⟨z,y,xs,Paired.mapP r fun p q z=>⟨z.1,ht _ _ z.2.1,z.2.2⟩,ob,es,ep,k _ _ (.inl rfl) e,c⟩
 | set S n=>obtain⟨ob,es,ep,t,e,c⟩:=x; exact⟨ob,es,ep,t,k _ _ (.inl rfl) e,c⟩
 | ins C dx fs =>
  obtain⟨d,z,ne,e,mA,⟨od,es,ep,e2,c⟩,r⟩:=x
  exact⟨ho _ d,z,ne,k _ _ (.inl rfl) e,mA,⟨od,es,ep,k _ _ (.inr d) e2,c⟩,r⟩
 | own y=>obtain⟨ob,e⟩:=x; exact⟨ob,k _ _ (.inl rfl) e⟩
 | xd fs=>obtain⟨mA,⟨od,es,ep,e,c⟩,r⟩:=x; exact⟨mA,⟨od,es,ep,k _ _ (.inl rfl) e,c⟩,r⟩
 | rng lo hi=>obtain⟨t,u,v,e⟩:=x; exact⟨t,u,v,k _ _ (.inl rfl) e⟩
 | frz ob u ih=>obtain⟨e,q⟩:=x; exact⟨k _ _ (.inl rfl) e,ih q⟩
 | tbl ps =>
  have e:h.get? a=some { cls:=.none,data:=.fields ps }:=x
  show h'.get? a=some { cls:=.none,data:=.fields ps }
  exact k a _ (.inl rfl) e
 | met f y =>
  have e:h.get? a=some (PySem.W.methodObj (.ref f) (.ref y)):=x
  show h'.get? a=some (PySem.W.methodObj (.ref f) (.ref y))
  exact k a _ (.inl rfl) e
 | ext φ=>obtain⟨p,⟨o,e⟩,st⟩:=x; exact⟨st _ _ p fun o q=>k _ _ (.inl rfl) q,⟨o,k _ _ (.inl rfl) e⟩,st⟩
theorem HOk.lt (x:HOk P w H h) (e:H a=some o):a<h.objs.size:=(x a o e).lt
theorem HOk.fresh (x:HOk P w H h) (e:h.objs.size≤a):H a=none:=by
 cases q:H a with
 | none=>rfl
 | some u=>exact absurd (Nat.lt_of_lt_of_le (x.lt q) e) (Nat.lt_irrefl _)
theorem HOk.kept (x:HOk P w H h) (k:∀ b u,h.get? b=some u→h'.get? b=some u):HOk P w H h':=fun a o e =>
 (x a o e).stay (fun b u _ q=>k b u q) (fun _ q=>q) fun _ _ q=>q
theorem HOk.laid (x:HOk P w H h) (k:∀ b u,h.get? b=some u→h'.get? b=some u) (hp:h.objs.size≤a) (new:ObjOk P w (upd H a o) h' a o):HOk P w (upd H a o) h':=fun b u e=>by
 have hn:=x.fresh hp
 by_cases hb:b=a
 ·subst hb; rw [upd_same] at e; cases e; exact new
 ·rw [upd_ne hb] at e
  exact (x b u e).stay (fun c v _ q=>k c v q) (fun c q=>by rw [upd_ne (ne_of_none q hn)]; exact q) fun c xs q=>by rw [upd_ne (ne_of_none q hn)]; exact q
end
def Rd (H:Hp) (a:Addr) (u:HO):Prop:=H a=some u∨∃ o,H a=some (.frz o u)
theorem Rd.ok {P:Program}{w:World}{H:Hp}{h:Heap}{a:Addr}{u:HO} (r:Rd H a u) (x:HOk P w H h):ObjOk P w H h a u:=by
 rcases r with r | ⟨o,r⟩
 ·exact x a u r
 ·obtain⟨_,q⟩:=x a _ r
  exact q
def Mut:Option HO→Prop
 | some (.lst _)=>True
 | some (.dK _)=>True
 | some (.dT _)=>True
 | some (.set _ _)=>True
 | some (.ins _ _ _)=>True
 | some (.ext _)=>True
 | _=>False
section
variable {P:Program}{w:World}{H:Hp}{h h':Heap}{x e:Addr}{o':HO}
theorem HOk.write (ok:HOk P w H h) (mu:Mut (H x)) (he:e=x∨H e=some (.own x)) (k:∀ b u,b≠e→h.get? b=some u→h'.get? b=some u) (heo:∃ u,h'.get? e=some u)
  (new:ObjOk P w (upd H x o') h' x o'):HOk P w (upd H x o') h':=fun b u q=>by
 have nown:∀ c y,H c=some (.own y)→c≠x:=fun c y r z=>by subst z; rw [r] at mu; exact mu
 have ntup:∀ c xs,H c=some (.tup xs)→c≠x:=fun c xs r z=>by subst z; rw [r] at mu; exact mu
 by_cases hb:b=x
 ·subst hb; rw [upd_same] at q; cases q; exact new
 ·rw [upd_ne hb] at q
  by_cases hbe:b=e
  ·have q':H b=some (.own x):=by
    rcases he with z | z
    ·exact absurd (hbe.trans z) hb
    ·rw [hbe]; exact z
   rw [q] at q'; cases q'
   obtain⟨v,hv⟩:=heo
   exact⟨v,by rw [hbe]; exact hv⟩
  ·refine (ok b u q).stay (fun c v hc r=>k c v ?_ r) (fun c r=>by rw [upd_ne (nown c b r)]; exact r) fun c xs r=>by rw [upd_ne (ntup c xs r)]; exact r
   rcases hc with rfl | hc
   ·exact hbe
   ·rintro rfl
    rcases he with z | z
    ·exact nown c b hc z
    ·rw [hc] at z; cases z; exact hb rfl
end
structure Un (fs ex:List Addr) (H H':Hp) (h h':Heap):Prop where
 keep:∀ b o,h.get? b=some o→H b=none→b ∉ fs→b ∉ ex→h'.get? b=some o
 slot:∀ b o,h.get? b=some o→H b=none→b∈fs→b ∉ ex→∃ sl,h'.get? b=some { o with slots:=sl }
 free:∀ b o,h.get? b=some o→H b=none→b ∉ ex→H' b=none
 there:∀ b o,h.get? b=some o→b ∉ ex→∃ o',h'.get? b=some o'
 tups:∀ b xs,H b=some (.tup xs)→H' b=some (.tup xs)
 frzs:∀ b o u,H b=some (.frz o u)→H' b=some (.frz o u)
 tbls:∀ b ps,H b=some (.tbl ps)→∃ more,H' b=some (.tbl (ps++more))
section
variable {fs fs' ex ex':List Addr}{H H1 H2:Hp}{h h1 h2 h':Heap}{a x e:Addr}{o:HO}
theorem Un.any (u:Un fs ex H H1 h h1) {b:Addr}{ob:Obj} (q:h.get? b=some ob) (n:H b=none) (hx:b ∉ ex):∃ sl,h1.get? b=some { ob with slots:=sl }:=by
 by_cases hb:b∈fs
 ·exact u.slot b ob q n hb hx
 ·exact⟨ob.slots,u.keep b ob q n hb hx⟩
theorem Un.kept (k:∀ b u,h.get? b=some u→h'.get? b=some u):Un fs ex H H h h' :=
 ⟨fun b ob q _ _ _=>k b ob q,fun b ob q _ _ _=>⟨ob.slots,k b ob q⟩,fun _ _ _ n _=>n,fun b ob q _=>⟨ob,k b ob q⟩,fun _ _ q=>q,fun _ _ _ q=>q,fun _ ps q=>⟨#[],by rw [q]; simp⟩⟩
theorem Un.refl:Un fs ex H H h h:=Un.kept fun _ _ q=>q
theorem Un.laid (k:∀ b u,h.get? b=some u→h'.get? b=some u) (hp:h.objs.size≤a) (hn:H a=none):Un fs ex H (upd H a o) h h' where
 keep:=fun b u q _ _ _=>k b u q
 slot:=fun b u q _ _ _=>⟨u.slots,k b u q⟩
 free:=fun b u q n _=>by rw [upd_ne (Nat.ne_of_lt (Nat.lt_of_lt_of_le (Heap.lt_size q) hp))]; exact n
 there:=fun b u q _=>⟨u,k b u q⟩
 tups:=fun b xs q=>by rw [upd_ne (ne_of_none q hn)]; exact q
 frzs:=fun b u xs q=>by rw [upd_ne (ne_of_none q hn)]; exact q
 tbls:=fun b ps q=>⟨#[],by rw [upd_ne (ne_of_none q hn),q]; simp⟩
theorem Un.write (mu:Mut (H x)) (he:e=x∨H e=some (.own x)) (k:∀ b u,b≠e→h.get? b=some u→h'.get? b=some u) (heo:∃ u,h'.get? e=some u):Un fs ex H (upd H x o) h h':=by
 have hx:∀ b,H b=none→b≠x:=fun b n z=>by subst z; rw [n] at mu; exact mu
 have hb:∀ b,H b=none→b≠e:=fun b n z=>by
  subst z
  rcases he with r | r
  ·exact hx b n r
  ·rw [n] at r; cases r
 have hm:∀ b u,H b=some u→¬ Mut (some u)→b≠x:=fun b u q nm z=>by subst z; rw [q] at mu; exact nm mu
 refine⟨fun b u q n _ _=>k b u (hb b n) q,fun b u q n _ _=>⟨u.slots,k b u (hb b n) q⟩,fun b u q n _=>by rw [upd_ne (hx b n)]; exact n,fun b u q _=>?_,
  fun b xs q=>by rw [upd_ne (hm b _ q fun z=>z)]; exact q,fun b u xs q=>by rw [upd_ne (hm b _ q fun z=>z)]; exact q,fun b ps q=>⟨#[],by rw [upd_ne (hm b _ q fun z=>z),q]; simp⟩⟩
 by_cases hbe:b=e
 ·subst hbe; exact heo
 ·exact⟨u,k b u hbe q⟩
end
def trk (h:Heap) (H:Hp):List Addr:=(List.range h.objs.size).filter fun a=>(H a).isSome
def hidT (h:Heap) (H:Hp):Heap:=PySem.W.hideAll h (trk h H)
theorem hidT_size (h:Heap) (H:Hp):(hidT h H).objs.size=h.objs.size:=PySem.W.hideAll_size _ _
theorem hidT_get {h:Heap}{H:Hp}{b:Addr}{o:Obj} (e:h.get? b=some o) (n:H b=none):(hidT h H).get? b=some o :=
 PySem.W.hideAll_get _ e fun hm=>by
  have q:(H b).isSome=true:=(List.mem_filter.mp hm).2
  rw [n] at q; simp at q
theorem of_hidT {h:Heap}{H:Hp}{b:Addr}{o:Obj} (e:(hidT h H).get? b=some o):h.get? b=some o∧H b=none:=by
 have e':h.get? b=some o:=PySem.W.of_hideAll (trk h H) e
 refine⟨e',?_⟩
 cases q:H b with
 | none=>rfl
 | some x =>
  have hm:b∈trk h H:=List.mem_filter.mpr ⟨List.mem_range.mpr (Heap.lt_size e'),by simp [q]⟩
  have z:(hidT h H).get? b=none:=PySem.W.hideAll_none (trk h H) hm
  rw [z] at e; cases e
end L2
namespace L2
open PySem PySem.Spec PyProof.Rows
structure Mod (K:PySem.W.Frag) (mg:Str→Option Value) (base:Heap):Prop where
 kin:K.In base
 glob:base.Ns mainGlobals mg
 blt:∃ mb,base.Ns builtinsNs mb∧∀ x:Str,x≠"__name__"→mb x=bootBuiltins x
 nolimit:base.NoLimit
structure Cx where
 prog:Program
 w:World
 K:PySem.W.Frag
 mg:Str→Option Value
 base:Heap
 A:Around
 N:List Str
 s₀:Shared
 H₀:Hp
 env:Env
 outer:List Env
 stack:List Env
 ex:List Addr
 fn:Str→Bool
 calm:Bool
 pn:List (Addr×Obj)
 xe:Value→Shared→Prop
def frs (l:List Env):List Addr:=l.filterMap (·.frame)
abbrev Cx.fs (X:Cx):List Addr:=frs X.outer
def Vis (sc:Scope) (x:Str):Prop:=sc.names.lookup x=some .local∨sc.names.lookup x=some .cell∨sc.names.lookup x=some .free
def Loc (sc:Scope) (x:Str):Prop:=sc.names.lookup x=some .local∨sc.names.lookup x=some .cell
def Look (env:Env) (h:Heap) (m:Str→Option Value) (x:Str) (u:Value):Prop :=
 (env.kindOf x=some .local∧m x=some u)∨((env.kindOf x=some .cell∨env.kindOf x=some .free)∧∃ c,env.cells.lookup x=some c∧h.IsCell c (some u))
structure Cx.Ok (X:Cx):Prop where
 mod:Mod X.K X.mg X.base
 kind:X.env.scope.kind=.function
 glob:X.env.globals=mainGlobals
 blt:X.env.builtins=builtinsNs
 above:X.s₀.heap.objs.size≤X.env.locals
 inj:∀ x y c,X.env.cells.lookup x=some c→X.env.cells.lookup y=some c→x=y
 has:∀ x,(X.env.kindOf x=some .cell∨X.env.kindOf x=some .free)→∃ c,X.env.cells.lookup x=some c
 cab:∀ x c,X.fn x=true→X.env.cells.lookup x=some c→X.s₀.heap.objs.size≤c
 hd:X.calm=true→X.A.handled=none
 frames:X.A.frames=some X.stack
 stk:X.stack=X.outer∨(X.stack=X.env::X.outer∧X.env.frame=some X.env.locals)
 exf:∀ b∈X.ex,b≠X.env.locals∧∀ x c,X.env.cells.lookup x=some c→c≠b
 bs:∀ b o,X.base.get? b=some o→X.s₀.heap.get? b=some o∧X.H₀ b=none
 bsz:X.base.objs.size≤X.s₀.heap.objs.size
 noex:∀ b o,X.base.get? b=some o→b ∉ X.ex
 exfs:∀ b∈X.ex,b ∉ X.fs
 funs:X.s₀.heap.FunFrames X.base X.outer
 frf:∀ b∈X.fs,X.H₀ b=none
structure Inv (X:Cx) (pins:List (Addr×Obj)) (σ:List (Option V)) (H:Hp) (s:Shared):Prop where
 ok:X.Ok
 os:s.os=X.s₀.os
 bare:AllBare s.gens
 base:Un X.fs X.ex X.H₀ H X.s₀.heap s.heap
 loc:∃ m,s.heap.Ns X.env.locals m∧∀ (i:Nat) (x:Str) (v:V),X.N[i]?=some x→σ[i]?=some (some v)→Vis X.env.scope x→∃ u,RelV v u∧Look X.env s.heap m x u
 cell:∀ x c,X.env.cells.lookup x=some c→∃ v,s.heap.IsCell c v
 free:H X.env.locals=none
 freeC:∀ x c,X.env.cells.lookup x=some c→H c=none
 pin:∀ p∈X.pn++pins,s.heap.get? p.1=some p.2∧H p.1=none∧p.1≠X.env.locals∧p.1 ∉ X.fs∧∀ v,p.2.data≠.cell v
 hok:HOk X.prog X.w H s.heap
 len:σ.length=X.N.length
section
variable {X:Cx}{pins:List (Addr×Obj)}{σ:List (Option V)}{H H':Hp}{s:Shared}{h':Heap}
theorem Cx.Ok.nofr (ok:X.Ok) {b:Addr}{o:Obj} (e:X.base.get? b=some o):b ∉ X.fs:=fun hb=>by
 have:=(ok.funs.mem hb).1
 rw [e] at this; cases this
theorem Inv.bs (I:Inv X pins σ H s):∀ b o,X.base.get? b=some o→s.heap.get? b=some o∧H b=none:=fun b o e =>
 ⟨I.base.keep b o (I.ok.bs b o e).1 (I.ok.bs b o e).2 (I.ok.nofr e) (I.ok.noex b o e),I.base.free b o (I.ok.bs b o e).1 (I.ok.bs b o e).2 (I.ok.noex b o e)⟩
theorem Inv.bk (I:Inv X pins σ H s):∀ b o,X.base.get? b=some o→s.heap.get? b=some o:=fun b o e=>(I.bs b o e).1
theorem Inv.mod (I:Inv X pins σ H s):Mod X.K X.mg X.base:=I.ok.mod
theorem Inv.kIn (I:Inv X pins σ H s):X.K.In s.heap:=I.ok.mod.kin.keeps I.bk
theorem Inv.lt (I:Inv X pins σ H s):X.env.locals<s.heap.objs.size:=let ⟨_,hn,_⟩:=I.loc; hn.lt
theorem Inv.sz (I:Inv X pins σ H s):X.s₀.heap.objs.size≤s.heap.objs.size:=Nat.le_trans I.ok.above (Nat.le_of_lt I.lt)
theorem Inv.nofs (I:Inv X pins σ H s) {a:Addr} (h:s.heap.objs.size≤a):a ∉ X.fs:=fun hb=>by
 obtain⟨_,o,ho,_⟩:=I.ok.funs.mem hb
 exact absurd (Nat.lt_of_lt_of_le (Heap.lt_size ho) (Nat.le_trans I.sz h)) (Nat.lt_irrefl _)
theorem Inv.cne (I:Inv X pins σ H s):∀ x c,X.env.cells.lookup x=some c→c≠X.env.locals:=fun x c e z=>by
 obtain⟨v,o,ho,hd⟩:=I.cell x c e
 obtain⟨m,⟨o',es,ep,ho',hd',_⟩,_⟩:=I.loc
 rw [z,ho'] at ho; cases ho; rw [hd'] at hd; cases hd
theorem Inv.funs (I:Inv X pins σ H s):s.heap.FunFrames X.base X.outer:=by
 have all:∀ (l:List Env),(∀ b∈frs l,b∈X.fs)→X.s₀.heap.FunFrames X.base l→s.heap.FunFrames X.base l:=by
  intro l
  induction l with
  | nil=>intro _ _; trivial
  | cons env r ih =>
   intro hs hl
   obtain⟨hk,⟨L,o,hf,hn,ho,hd⟩,hr⟩:=hl
   have hL:L∈X.fs:=hs L (by unfold frs; rw [List.filterMap_cons,hf]; exact List.mem_cons_self)
   obtain⟨sl,e⟩:=I.base.slot L o ho (I.ok.frf L hL) hL fun z=>I.ok.exfs L z hL
   exact⟨hk,⟨L,_,hf,hn,e,hd⟩,ih (fun b hb=>hs b (by unfold frs; rw [List.filterMap_cons,hf]; exact List.mem_cons_of_mem _ hb)) hr⟩
 exact all X.outer (fun _ hb=>hb) I.ok.funs
theorem Inv.stack (I:Inv X pins σ H s):s.heap.FunFrames X.base X.stack:=by
 rcases I.ok.stk with e | ⟨e,hf⟩
 ·rw [e]; exact I.funs
 ·rw [e]
  obtain⟨m,hn,_⟩:=I.loc
  refine .cons (by rw [I.ok.kind]; decide) hf hn ?_ I.funs
  exact Heap.get?_none_of_le (Nat.le_trans I.ok.bsz I.ok.above)
theorem Inv.stkSub (I:Inv X pins σ H s):∀ b∈frs X.stack,b∈X.env.locals::X.fs:=fun b hb=>by
 rcases I.ok.stk with e | ⟨e,hf⟩
 ·rw [e] at hb; exact List.mem_cons_of_mem _ hb
 ·rw [e] at hb
  unfold frs at hb
  rw [List.filterMap_cons,hf] at hb
  exact hb
theorem Inv.stkFree (I:Inv X pins σ H s):∀ b∈frs X.stack,H b=none:=fun b hb=>by
 rcases List.mem_cons.mp (I.stkSub b hb) with e | hb
 ·rw [e]; exact I.free
 ·obtain⟨_,o,ho,_⟩:=I.ok.funs.mem hb
  exact I.base.free b o ho (I.ok.frf b hb) fun z=>I.ok.exfs b z hb
theorem Inv.step {g':Array GenState}{t':Nat}{d':Drawn}{ch:List Addr} (I:Inv X pins σ H s)
  (hch:∀ b∈ch,(b∈X.ex∨X.s₀.heap.objs.size≤b)∧b≠X.env.locals∧(∀ x c,X.env.cells.lookup x=some c→c≠b)∧∀ p∈X.pn++pins,p.1≠b)
  (keep:∀ b o,b≠X.env.locals→b ∉ X.fs→b ∉ ch→s.heap.get? b=some o→H b=none→h'.get? b=some o)
  (slot:∀ b o,b≠X.env.locals→b∈X.fs→b ∉ ch→s.heap.get? b=some o→H b=none→∃ sl,h'.get? b=some { o with slots:=sl }) (free:∀ b o,b ∉ ch→s.heap.get? b=some o→H b=none→H' b=none)
  (there:∀ b o,b ∉ ch→s.heap.get? b=some o→∃ o',h'.get? b=some o')
  (tups:∀ b xs,H b=some (.tup xs)→H' b=some (.tup xs)) (frzs:∀ b o u,H b=some (.frz o u)→H' b=some (.frz o u)) (tbls:∀ b ps,H b=some (.tbl ps)→∃ more,H' b=some (.tbl (ps++more)))
  (ns:∀ m,s.heap.Ns X.env.locals m→h'.Ns X.env.locals m) (hok:HOk X.prog X.w H' h') (hg:AllBare g') :
  Inv X pins σ H' { s with heap:=h',gens:=g',drawn:=d',toks:=t' }:=by
 have neL:∀ b o,X.s₀.heap.get? b=some o→b≠X.env.locals:=fun b o e=>Nat.ne_of_lt (Nat.lt_of_lt_of_le (Heap.lt_size e) I.ok.above)
 have neC:∀ b o,X.s₀.heap.get? b=some o→b ∉ X.ex→b ∉ ch:=fun b o e hx hb=>by
  rcases (hch b hb).1 with z | z
  ·exact hx z
  ·exact absurd (Nat.lt_of_lt_of_le (Heap.lt_size e) z) (Nat.lt_irrefl _)
 have cellK:∀ x c,X.env.cells.lookup x=some c→∀ v,s.heap.IsCell c v→h'.IsCell c v:=fun x c e v ⟨o,ho,hd⟩=>by
  have nch:c ∉ ch:=fun z=>(hch c z).2.2.1 x c e rfl
  by_cases hc:c∈X.fs
  ·obtain⟨sl,q⟩:=slot c o (I.cne x c e) hc nch ho (I.freeC x c e)
   exact⟨_,q,hd⟩
  ·exact⟨o,keep c o (I.cne x c e) hc nch ho (I.freeC x c e),hd⟩
 refine⟨I.ok,I.os,hg,⟨fun b o e n hb hx=>?_,fun b o e n hb hx=>?_,fun b o e n hx=>?_,fun b o e hx=>?_,fun b xs e=>tups b xs (I.base.tups b xs e),fun b o xs e=>frzs b o xs (I.base.frzs b o xs e),fun b ps e=>?_⟩,?_,fun x c e=>?_,?_,fun x c e=>?_,fun p hp=>?_,hok,I.len⟩
 ·exact keep b o (neL b o e) hb (neC b o e hx) (I.base.keep b o e n hb hx) (I.base.free b o e n hx)
 ·obtain⟨sl,e1⟩:=I.base.slot b o e n hb hx
  obtain⟨sl',e2⟩:=slot b _ (neL b o e) hb (neC b o e hx) e1 (I.base.free b o e n hx)
  exact⟨sl',e2⟩
 ·obtain⟨o',e1⟩:=I.base.there b o e hx
  exact free b o' (neC b o e hx) e1 (I.base.free b o e n hx)
 ·obtain⟨o',e1⟩:=I.base.there b o e hx
  exact there b o' (neC b o e hx) e1
 ·obtain⟨m1,e1⟩:=I.base.tbls b ps e
  obtain⟨m2,e2⟩:=tbls b _ e1
  exact⟨m1++m2,by rw [e2,Array.append_assoc]⟩
 ·obtain⟨m,hn,hl⟩:=I.loc
  refine⟨m,ns m hn,fun i x v e1 e2 e3=>?_⟩
  obtain⟨u,r,l⟩:=hl i x v e1 e2 e3
  refine⟨u,r,?_⟩
  rcases l with l | ⟨k,c,e,z⟩
  ·exact .inl l
  ·exact .inr ⟨k,c,e,cellK x c e _ z⟩
 ·obtain⟨v,z⟩:=I.cell x c e
  exact⟨v,cellK x c e v z⟩
 ·obtain⟨m,⟨o,_,_,ho,_⟩,_⟩:=I.loc
  exact free _ o (fun z=>(hch _ z).2.1 rfl) ho I.free
 ·obtain⟨v,o,ho,hd⟩:=I.cell x c e
  exact free c o (fun z=>(hch c z).2.2.1 x c e rfl) ho (I.freeC x c e)
 ·obtain⟨e,n,ne,nf,d⟩:=I.pin p hp
  have nch:p.1 ∉ ch:=fun z=>(hch p.1 z).2.2.2 p hp rfl
  exact⟨keep p.1 p.2 ne nf nch e n,free p.1 p.2 nch e n,ne,nf,d⟩
theorem Inv.un {t':Nat} (I:Inv X pins σ H s) (u:Un X.fs [] H H' s.heap h') (hok:HOk X.prog X.w H' h'):Inv X pins σ H' { s with heap:=h',toks:=t' }:=by
 obtain⟨m,⟨o,es,ep,ho,r⟩,_⟩:=id I.loc
 obtain⟨sl,hL⟩:=u.any ho I.free (by simp)
 exact I.step (g':=s.gens) (d':=s.drawn) (ch:=[]) (fun _ z=>nomatch z) (fun b o _ hb _ e n=>u.keep b o e n hb (by simp)) (fun b o _ hb _ e n=>u.slot b o e n hb (by simp)) (fun b o _ e n=>u.free b o e n (by simp)) (fun b o _ e=>u.there b o e (by simp)) u.tups u.frzs u.tbls (fun m' hm=>by
  obtain⟨o',es',ep',ho',r'⟩:=hm
  rw [ho] at ho'; cases ho'
  exact⟨_,es',ep',hL,r'⟩) hok I.bare
theorem Inv.call {g':Array GenState}{t':Nat}{d':Drawn}{ch:List Addr} (I:Inv X pins σ H s) (u:Un (frs X.stack) ch H H' s.heap h') (hok:HOk X.prog X.w H' h') (hg:AllBare g')
  (hch:∀ b∈ch,(b∈X.ex∨X.s₀.heap.objs.size≤b)∧b≠X.env.locals∧(∀ x c,X.env.cells.lookup x=some c→c≠b)∧∀ p∈X.pn++pins,p.1≠b) :
  Inv X pins σ H' { s with heap:=h',gens:=g',drawn:=d',toks:=t' }:=by
 obtain⟨m,⟨o,es,ep,ho,r⟩,_⟩:=id I.loc
 obtain⟨sl,hL⟩:=u.any ho I.free fun z=>(hch _ z).2.1 rfl
 exact I.step (ch:=ch) hch (fun b o hL hb hc e n=>u.keep b o e n (fun z=>(List.mem_cons.mp (I.stkSub b z)).elim hL hb) hc) (fun b o _ _ hc e n=>u.any e n hc) (fun b o hc e n=>u.free b o e n hc) (fun b o hc e=>u.there b o e hc) u.tups u.frzs u.tbls (fun m' hm=>by
  obtain⟨o',es',ep',ho',r'⟩:=hm
  rw [ho] at ho'; cases ho'
  exact⟨_,es',ep',hL,r'⟩) hok hg
theorem Inv.turned {t':Nat}{it:Addr} (I:Inv X pins σ H s) (k:∀ b o,b≠it→s.heap.get? b=some o→h'.get? b=some o) (hn:H it=none) (hL:it≠X.env.locals)
  (h1:it∈X.ex∨X.s₀.heap.objs.size≤it) (h2:∀ x c,X.env.cells.lookup x=some c→c≠it) (h3:∀ p∈X.pn++pins,p.1≠it):Inv X pins σ H { s with heap:=h',toks:=t' }:=by
 have nit:∀ b u,H b=some u→b≠it:=fun b u e z=>by rw [z,hn] at e; cases e
 refine I.step (g':=s.gens) (d':=s.drawn) (ch:=[it]) (fun b hb=>?_) (fun b o _ _ hc e _=>k b o (fun z=>hc (by simp [z])) e) (fun b o _ _ hc e _=>⟨o.slots,k b o (fun z=>hc (by simp [z])) e⟩) (fun _ _ _ _ n=>n)
  (fun b o hc e=>⟨o,k b o (fun z=>hc (by simp [z])) e⟩) (fun _ _ e=>e) (fun _ _ _ e=>e) (fun b ps e=>⟨#[],by rw [e]; simp⟩) (fun m hm=>?_) (fun b u e=>?_) I.bare
 ·have e:b=it:=by simpa using hb
  subst e
  exact⟨h1,hL,h2,h3⟩
 ·obtain⟨o,es,ep,ho,r⟩:=hm
  exact⟨o,es,ep,k _ o (Ne.symm hL) ho,r⟩
 ·refine (I.hok b u e).stay (fun c v hc q=>k c v ?_ q) (fun _ q=>q) fun _ _ q=>q
  rcases hc with z | z
  ·rw [z]; exact nit b u e
  ·exact nit c _ z
theorem Inv.tok (I:Inv X pins σ H s) (t:Nat):Inv X pins σ H { s with toks:=t }:=I.un (h':=s.heap) (t':=t) Un.refl I.hok
theorem Inv.kept {t':Nat} (I:Inv X pins σ H s) (k:∀ b u,s.heap.get? b=some u→h'.get? b=some u):Inv X pins σ H { s with heap:=h',toks:=t' }:=I.un (Un.kept k) (I.hok.kept k)
theorem Inv.laid {a:Addr}{o:HO}{t':Nat} (I:Inv X pins σ H s) (k:∀ b u,s.heap.get? b=some u→h'.get? b=some u) (hp:s.heap.objs.size≤a) (new:ObjOk X.prog X.w (upd H a o) h' a o) :
  Inv X pins σ (upd H a o) { s with heap:=h',toks:=t' }:=I.un (Un.laid k hp (I.hok.fresh hp)) (I.hok.laid k hp new)
theorem Inv.write {x e:Addr}{o:HO}{t':Nat} (I:Inv X pins σ H s) (mu:Mut (H x)) (he:e=x∨H e=some (.own x)) (k:∀ b u,b≠e→s.heap.get? b=some u→h'.get? b=some u) (heo:∃ u,h'.get? e=some u)
  (new:ObjOk X.prog X.w (upd H x o) h' x o):Inv X pins σ (upd H x o) { s with heap:=h',toks:=t' }:=I.un (Un.write mu he k heo) (I.hok.write mu he k heo new)
theorem Inv.pins_of {pins':List (Addr×Obj)} (I:Inv X pins σ H s) (h:∀ p∈pins',s.heap.get? p.1=some p.2∧H p.1=none∧p.1≠X.env.locals∧p.1 ∉ X.fs∧∀ v,p.2.data≠.cell v):Inv X pins' σ H s :=
 ⟨I.ok,I.os,I.bare,I.base,I.loc,I.cell,I.free,I.freeC,fun p hp=>(List.mem_append.mp hp).elim (fun z=>I.pin p (List.mem_append_left _ z)) (h p),I.hok,I.len⟩
theorem nodup_ix {N:List Str} (hN:N.Nodup) {i j:Nat}{x:Str} (a:N[i]?=some x) (b:N[j]?=some x):i=j:=by
 obtain⟨h1,e1⟩:=List.getElem?_eq_some_iff.mp a
 obtain⟨h2,e2⟩:=List.getElem?_eq_some_iff.mp b
 exact (List.getElem_inj hN).mp (e1.trans e2.symm)
theorem store_ok2 {M:Model}{A:Around}{E:Value→Shared→Prop}{i:Nat}{x:Str}{v:V}{u:Value}{Q:Unit→Shared→Prop} (I:Inv X pins σ H s) (hN:X.N.Nodup) (hi:X.N[i]?=some x) (hx:Loc X.env.scope x) (r:RelV v u)
  (h:∀ s',Inv X pins (σ.set i (some v)) H s'→(∃ a,Heap.SameBut a s.heap s'.heap∧(a=X.env.locals∨X.env.cells.lookup x=some a))→Q () s') (hf:X.fn x=true∨X.env.scope.names.lookup x=some .local:=by first | exact .inl rfl | exact .inr rfl | assumption):wpAny M A (storeName X.env x u) Q E s:=by
 obtain⟨m,hn,hl⟩:=id I.loc
 have hcls:(X.env.scope.kind == .class || (X.env.scope.kind == .module && X.env.locals != X.env.globals))=false:=by rw [I.ok.kind]; rfl
 have hiσ:i<σ.length:=by rw [I.len]; exact (List.getElem?_eq_some_iff.mp hi).1
 have cne:=I.cne
 have tracked:∀ {a:Addr}{h':Heap},(∃ o,s.heap.get? a=some o∧H a=none)→Heap.SameBut a s.heap h'→HOk X.prog X.w H h':=fun {a h'} ha hs b ob e=>by
  obtain⟨_,_,hfree⟩:=ha
  refine (I.hok b ob e).stay (fun c w' hc q=>(hs.2 c ?_).trans q) (fun _ q=>q) fun _ _ q=>q
  rintro rfl
  rcases hc with rfl | hc
  ·rw [hfree] at e; cases e
  ·rw [hfree] at hc; cases hc
 rcases hx with hk | hk
 ·refine wpAny_storeName_local hk hn (fun h' hn' hs=>?_) hcls
  obtain⟨oL,_,_,hoL,_⟩:=id hn
  refine h _ ⟨I.ok,I.os,I.bare,⟨fun b o e n hb hx=>?_,fun b o e n hb hx=>?_,I.base.free,fun b o e hx=>?_,I.base.tups,I.base.frzs,I.base.tbls⟩,⟨_,hn',fun j y v' e1 e2 e3=>?_⟩,fun y c e=>?_,I.free,I.freeC,fun p hp=>?_,tracked ⟨oL,hoL,I.free⟩ hs,by simpa using I.len⟩ ⟨_,hs,.inl rfl⟩
  ·exact (hs.2 b (Nat.ne_of_lt (Nat.lt_of_lt_of_le (Heap.lt_size e) I.ok.above))).trans (I.base.keep b o e n hb hx)
  ·obtain⟨sl,e1⟩:=I.base.slot b o e n hb hx
   exact⟨sl,(hs.2 b (Nat.ne_of_lt (Nat.lt_of_lt_of_le (Heap.lt_size e) I.ok.above))).trans e1⟩
  ·obtain⟨o',e1⟩:=I.base.there b o e hx
   exact⟨o',(hs.2 b (Nat.ne_of_lt (Nat.lt_of_lt_of_le (Heap.lt_size e) I.ok.above))).trans e1⟩
  ·by_cases hj:j=i
   ·subst hj
    rw [hi] at e1; cases e1
    rw [List.getElem?_set_self hiσ] at e2
    cases e2
    exact⟨u,r,.inl ⟨hk,by simp⟩⟩
   ·rw [List.getElem?_set_ne (Ne.symm hj)] at e2
    obtain⟨u',r',q⟩:=hl j y v' e1 e2 e3
    refine⟨u',r',?_⟩
    rcases q with⟨k,e⟩ | ⟨k,c,e,z⟩
    ·refine .inl ⟨k,?_⟩
     have:y≠x:=fun e=>hj (nodup_ix hN e1 (e ▸ hi))
     simp [this,e]
    ·exact .inr ⟨k,c,e,z.sameBut hs (cne y c e)⟩
  ·obtain⟨w',z⟩:=I.cell y c e
   exact⟨w',z.sameBut hs (cne y c e)⟩
  ·obtain⟨e,n,ne,nf,d⟩:=I.pin p hp
   exact⟨(hs.2 p.1 ne).trans e,n,ne,nf,d⟩
 ·have hfn:X.fn x=true:=by
   rcases hf with z | z
   ·exact z
   ·rw [z] at hk; cases hk
  obtain⟨c,hc⟩:=I.ok.has x (.inl hk)
  obtain⟨w',z⟩:=I.cell x c hc
  refine wpAny_storeName_cell I.ok.kind hk hc z (fun h' hc' hs=>?_)
  obtain⟨oc,hoc,hocd⟩:=id z
  refine h { s with heap:=h' } ⟨I.ok,I.os,I.bare,⟨fun b o e n hb hx=>?_,fun b o e n hb hx=>?_,I.base.free,fun b o e hx=>?_,I.base.tups,I.base.frzs,I.base.tbls⟩,⟨m,hn.sameBut hs (Ne.symm (cne x c hc)),fun j y v' e1 e2 e3=>?_⟩,fun y c' e=>?_,I.free,I.freeC,fun p hp=>?_,tracked ⟨oc,hoc,I.freeC x c hc⟩ hs,by simpa using I.len⟩ ⟨c,hs,.inr hc⟩
  ·exact (hs.2 b (Nat.ne_of_lt (Nat.lt_of_lt_of_le (Heap.lt_size e) (I.ok.cab x c hfn hc)))).trans (I.base.keep b o e n hb hx)
  ·obtain⟨sl,e1⟩:=I.base.slot b o e n hb hx
   exact⟨sl,(hs.2 b (Nat.ne_of_lt (Nat.lt_of_lt_of_le (Heap.lt_size e) (I.ok.cab x c hfn hc)))).trans e1⟩
  ·obtain⟨o',e1⟩:=I.base.there b o e hx
   exact⟨o',(hs.2 b (Nat.ne_of_lt (Nat.lt_of_lt_of_le (Heap.lt_size e) (I.ok.cab x c hfn hc)))).trans e1⟩
  ·by_cases hj:j=i
   ·subst hj
    rw [hi] at e1; cases e1
    rw [List.getElem?_set_self hiσ] at e2
    cases e2
    exact⟨u,r,.inr ⟨.inl hk,c,hc,hc'⟩⟩
   ·rw [List.getElem?_set_ne (Ne.symm hj)] at e2
    obtain⟨u',r',q⟩:=hl j y v' e1 e2 e3
    refine⟨u',r',?_⟩
    rcases q with q | ⟨k,c',e,z'⟩
    ·exact .inl q
    ·refine .inr ⟨k,c',e,z'.sameBut hs ?_⟩
     rintro rfl
     exact hj (nodup_ix hN e1 (I.ok.inj _ _ _ e hc ▸ hi))
  ·by_cases hcc:c'=c
   ·subst hcc; exact⟨_,hc'⟩
   ·obtain⟨w2,z2⟩:=I.cell y c' e
    exact⟨w2,z2.sameBut hs hcc⟩
  ·obtain⟨e,n,ne,nf,d⟩:=I.pin p hp
   refine⟨(hs.2 p.1 ?_).trans e,n,ne,nf,d⟩
   intro q
   rw [q,hoc] at e
   have q':oc=p.2:=Option.some.inj e
   exact d w' (by rw [← q']; exact hocd)
theorem store_ok {M:Model}{A:Around}{E:Value→Shared→Prop}{i:Nat}{x:Str}{v:V}{u:Value}{Q:Unit→Shared→Prop} (I:Inv X pins σ H s) (hN:X.N.Nodup) (hi:X.N[i]?=some x) (hx:Loc X.env.scope x) (r:RelV v u)
  (h:∀ s',Inv X pins (σ.set i (some v)) H s'→Q () s') (hf:X.fn x=true∨X.env.scope.names.lookup x=some .local:=by first | exact .inl rfl | exact .inr rfl | assumption):wpAny M A (storeName X.env x u) Q E s :=
 store_ok2 I hN hi hx r (fun s' I' _=>h s' I') hf
end
abbrev XK:=Value→Option Addr→Hp→Prop
abbrev St:=List (Option V)
abbrev VK:=V→Hp→Prop
abbrev TE:=St→Hp→VK→Prop
abbrev TT:=St→Hp→(Bool→Hp→Prop)→Prop
abbrev TA:=St→Hp→(List V→Hp→Prop)→Prop
structure Ends where
 nx:St→Hp→Prop
 rt:VK
 bk:St→Hp→Prop:=fun _ _=>False
 ct:St→Hp→Prop:=fun _ _=>False
abbrev TS:=Ends→St→Hp→Prop
def EP (X:Cx) (pins:List (Addr×Obj)) (σ:St) (Q:VK) (u:Value) (s':Shared):Prop:=∃ v H',Inv X pins σ H' s'∧RelV v u∧Q v H'
def TP (X:Cx) (pins:List (Addr×Obj)) (σ:St) (Q:Bool→Hp→Prop) (b:Bool) (s':Shared):Prop:=∃ H',Inv X pins σ H' s'∧Q b H'
def AP (X:Cx) (pins:List (Addr×Obj)) (σ:St) (Q:List V→Hp→Prop) (us:List Value) (s':Shared):Prop:=∃ vs H',Inv X pins σ H' s'∧Vals vs us∧Q vs H'
def SP (X:Cx) (pins:List (Addr×Obj)) (D:Ends) (f:Flow) (s':Shared):Prop :=
 match f with
 | .next=>∃ σ' H',Inv X pins σ' H' s'∧D.nx σ' H'
 | .brk=>∃ σ' H',Inv X pins σ' H' s'∧D.bk σ' H'
 | .cont=>∃ σ' H',Inv X pins σ' H' s'∧D.ct σ' H'
 | .ret u=>∃ v σ' H',Inv X pins σ' H' s'∧RelV v u∧D.rt v H'
def PE (X:Cx) (e:Expr) (t:TE):Prop :=
 ∀ (pins:List (Addr×Obj)) (s:Shared) (σ:St) (H:Hp) (Q:VK),Inv X pins σ H s→t σ H Q→wpAny (model X.prog X.w) X.A (eval e X.env) (EP X pins σ Q) X.xe s
def PT (X:Cx) (e:Expr) (t:TT):Prop :=
 ∀ (pins:List (Addr×Obj)) (s:Shared) (σ:St) (H:Hp) (Q:Bool→Hp→Prop),Inv X pins σ H s→t σ H Q→wpAny (model X.prog X.w) X.A (isTrue e X.env (eval e X.env)) (TP X pins σ Q) X.xe s
def PW (X:Cx) (e:Expr) (t:TT):Prop :=
 ∀ (whole:Sem Value) (pins:List (Addr×Obj)) (s:Shared) (σ:St) (H:Hp) (Q:Bool→Hp→Prop),Inv X pins σ H s→t σ H Q→wpAny (model X.prog X.w) X.A (isTrue e X.env whole) (TP X pins σ Q) X.xe s
theorem PW.pt {X:Cx}{e:Expr}{t:TT} (h:PW X e t):PT X e t:=h _
def PA (X:Cx) (es:List Expr) (t:TA):Prop :=
 ∀ (pos:Pos) (pins:List (Addr×Obj)) (s:Shared) (σ:St) (H:Hp) (Q:List V→Hp→Prop),Inv X pins σ H s→t σ H Q→wpAny (model X.prog X.w) X.A (spliced (backTo pos (starEach es X.env))) (AP X pins σ Q) X.xe s
def PS (X:Cx) (st:Stmt) (t:TS):Prop :=
 ∀ (pins:List (Addr×Obj)) (s:Shared) (σ:St) (H:Hp) (D:Ends),Inv X pins σ H s→t D σ H→wpAny (model X.prog X.w) X.A (exec st X.env) (SP X pins D) X.xe s
def PSs (X:Cx) (st:List Stmt) (t:TS):Prop :=
 ∀ (pins:List (Addr×Obj)) (s:Shared) (σ:St) (H:Hp) (D:Ends),Inv X pins σ H s→t D σ H→wpAny (model X.prog X.w) X.A (execs st X.env) (SP X pins D) X.xe s
theorem thn {α:Type}{t:Sem α}{Q Q':α→Shared→Prop}{M:Model}{A:Around}{E:Value→Shared→Prop}{s:Shared} (h:wpAny M A t Q E s) (hQ:∀ a s,Q a s→Q' a s):wpAny M A t Q' E s:=wpAny_mono h hQ fun _ _ x=>x
end L2
namespace L2
open PySem PySem.Spec PyProof.Rows
section
variable {X:Cx}
def tVar (i:Nat):TE:=fun σ H Q=>∃ v,σ[i]?=some (some v)∧Q v H
def tC (v:V):TE:=fun _ H Q=>Q v H
theorem pe_var {i:Nat}{x:Str}{pos:Pos} (hN:X.N[i]?=some x) (hv:Vis X.env.scope x) (hd:(x == ("__debug__":Str))=false:=by decide) (hcd:(x == ("__classdict__":Str))=false:=by decide):PE X (.Name x pos) (tVar i):=by
 intro pins s σ H Q I h
 obtain⟨v,e,h⟩:=h
 obtain⟨m,hn,hl⟩:=I.loc
 obtain⟨u,r,l⟩:=hl i x v hN e hv
 have fin:EP X pins σ Q u s:=⟨v,H,I,r,h⟩
 rcases l with⟨hk,hm⟩ | ⟨hk,c,hc,hcell⟩
 ·exact wpAny_Name (wpAny_loadName_local I.ok.kind hk hn hm fin) hd
 ·rcases hk with hk | hk
  ·exact wpAny_Name (wpAny_loadName_cell I.ok.kind hk hc hcell fin) hd
  ·exact wpAny_Name (wpAny_loadName_free I.ok.kind hk hc hcell fin hcd) hd
theorem pe_int {i j pos}:PE X (.Constant (.int i) j pos) (tC (.int i)):=fun _ _ _ H _ I h=>wpAny_Constant_int ⟨.int i,H,I.tok _,⟨_,rfl⟩,h⟩
theorem pe_bl {b j pos}:PE X (.Constant (.bool b) j pos) (tC (.bl b)):=fun _ _ _ H _ I h=>Constant_bool ⟨.bl b,H,I,rfl,h⟩
theorem ah5 {j pos}:PE X (.Constant .none j pos) (tC .non):=fun _ _ _ H _ I h=>Constant_none ⟨.non,H,I,rfl,h⟩
theorem ah3 {x j pos}:PE X (.Constant (.str x) j pos) (tC (.str x)):=fun _ _ _ H _ I h=>Calls.Constant_str ⟨.str x,H,I.tok _,⟨_,rfl⟩,h⟩
def Gl (X:Cx) (x:Str):Prop:=X.env.kindOf x=some .globalImplicit
theorem ld_glob {E:Value→Shared→Prop}{pins:List (Addr×Obj)}{s:Shared}{σ:St}{H:Hp}{x:Str}{u:Value}{pos:Pos}{Q:Value→Shared→Prop} (I:Inv X pins σ H s) (hg:Gl X x) (hm:X.mg x=some u) (h:Q u s)
  (hd:(x == ("__debug__":Str))=false:=by decide):wpAny (model X.prog X.w) X.A (eval (.Name x pos) X.env) Q E s :=
 Calls.Name_function_global I.ok.kind hg (Calls.loadGlobal_global (by rw [I.ok.glob]; exact I.mod.glob.keeps I.bk) hm h) hd
theorem ld_blt {E:Value→Shared→Prop}{pins:List (Addr×Obj)}{s:Shared}{σ:St}{H:Hp}{x:Str}{u:Value}{pos:Pos}{Q:Value→Shared→Prop} (I:Inv X pins σ H s) (hg:Gl X x) (hm:X.mg x=none) (hv:bootBuiltins x=some u) (h:Q u s)
  (hn:x≠"__name__":=by decide) (hd:(x == ("__debug__":Str))=false:=by decide):wpAny (model X.prog X.w) X.A (eval (.Name x pos) X.env) Q E s:=by
 obtain⟨mb,h1,h2⟩:=I.mod.blt
 exact Calls.Name_function_global I.ok.kind hg (Calls.loadGlobal_builtin (by rw [I.ok.glob]; exact I.mod.glob.keeps I.bk) hm (by rw [I.ok.blt]; exact h1.keeps I.bk) ((h2 x hn).trans hv) h) hd
theorem agx {x:Str}{v:V}{u:Value}{pos:Pos} (hg:Gl X x) (hm:X.mg x=some u) (r:RelV v u) (hd:(x == ("__debug__":Str))=false:=by decide):PE X (.Name x pos) (tC v) :=
 fun _ _ _ H _ I h=>ld_glob I hg hm ⟨v,H,I,r,h⟩ hd
variable {a b:Expr}{ta tb:TE}{pos:Pos}
def tB (t:TE):TT:=fun σ H Q=>t σ H fun x H1=>∃ c,x=.bl c∧Q c H1
theorem ahU {e:Expr}{t:TE} (h:PE X e t) (he:∀ whole,isTrue e X.env whole=(do let v ← whole; standAt e.pos; holding [v] (truthy v)):=by intro _; rfl):PT X e (tB t):=by
 intro pins s σ H Q I hw
 refine isTrue_plain (thn (h pins s σ H _ I hw) fun v s1 ⟨x,H1,I1,r1,q1⟩=>?_) (he _)
 obtain⟨d,rfl,q⟩:=q1
 cases r1
 exact wpAny_truthy_bool ⟨H1,I1,q⟩
variable {tA tB':TT}{rest:List Expr}
def U9 (t u:TT):TT:=fun σ H Q=>t σ H fun c H1=>if c=true then u σ H1 Q else Q false H1
def tOr (t u:TT):TT:=fun σ H Q=>t σ H fun c H1=>if c=true then Q true H1 else u σ H1 Q
def ahx (t:TT):TT:=fun σ H Q=>t σ H fun c H1=>Q (!c) H1
theorem agn (ha:PT X a tA):PW X (.BoolOp .And [a] pos) tA:=by
 intro wh pins s σ H Q I h
 refine isTrue_and (thn (ha pins s σ H Q I h) fun c s1 e=>?_)
 cases c with
 | true=>exact isTrue_and_nil e
 | false=>exact e
theorem ahS (ha:PT X a tA):PW X (.BoolOp .Or [a] pos) tA:=by
 intro wh pins s σ H Q I h
 refine isTrue_or (thn (ha pins s σ H Q I h) fun c s1 e=>?_)
 cases c with
 | false=>exact isTrue_or_nil e
 | true=>exact e
theorem ahT (ha:PT X a tA) (hb:PW X (.BoolOp .And (b::rest) pos) tB'):PW X (.BoolOp .And (a::b::rest) pos) (U9 tA tB'):=by
 intro wh pins s σ H Q I h
 refine isTrue_and (thn (ha pins s σ H _ I h) fun c s1 ⟨H1,I1,q1⟩=>?_)
 cases c with
 | true=>exact hb wh pins s1 σ H1 Q I1 q1
 | false=>exact⟨H1,I1,q1⟩
theorem akf (ha:PT X a tA) (hb:PW X (.BoolOp .Or (b::rest) pos) tB'):PW X (.BoolOp .Or (a::b::rest) pos) (tOr tA tB'):=by
 intro wh pins s σ H Q I h
 refine isTrue_or (thn (ha pins s σ H _ I h) fun c s1 ⟨H1,I1,q1⟩=>?_)
 cases c with
 | true=>exact⟨H1,I1,q1⟩
 | false=>exact hb wh pins s1 σ H1 Q I1 q1
theorem ahV (ha:PT X a tA):PT X (.UnaryOp .Not a pos) (ahx tA):=by
 intro pins s σ H Q I h
 exact isTrue_not (ha pins s σ H (fun c H1=>Q (!c) H1) I h)
def ahw (ta tb:TE):TE:=fun σ H Q=>ta σ H fun x H1=>∃ c,x=.bl c∧if c=true then Q (.bl true) H1 else tb σ H1 Q
theorem ah4 {op}{t:TE} (h:PE X a t):PE X (.BoolOp op [a] pos) t:=fun pins s σ H Q I hw=>BoolOp_one (h pins s σ H Q I hw)
theorem akh (ha:PE X a ta) (hb:PE X (.BoolOp .Or (b::rest) pos) tb):PE X (.BoolOp .Or (a::b::rest) pos) (ahw ta tb):=by
 intro pins s σ H Q I h
 refine BoolOp_or (thn (ha pins s σ H _ I h) fun v s1 ⟨x,H1,I1,r1,q1⟩=>?_)
 obtain⟨c,rfl,q1⟩:=q1
 cases r1
 refine wpAny_truthy_bool ?_
 cases c with
 | false=>exact hb pins s1 σ H1 Q I1 q1
 | true=>exact⟨.bl true,H1,I1,rfl,q1⟩
def tIf (t:TT) (ta tb:TE):TE:=fun σ H Q=>t σ H fun c H1=>if c=true then ta σ H1 Q else tb σ H1 Q
theorem aeS {c:Expr} (hc:PT X c tA) (ha:PE X a ta) (hb:PE X b tb):PE X (.IfExp c a b pos) (tIf tA ta tb):=by
 intro pins s σ H Q I h
 refine wpAny_IfExp (thn (hc pins s σ H _ I h) fun d s1 ⟨H1,I1,q1⟩=>?_)
 cases d with
 | true=>exact ha pins s1 σ H1 Q I1 q1
 | false=>exact hb pins s1 σ H1 Q I1 q1
end
end L2
namespace L2
open PySem PySem.Spec PyProof.Rows
def SqL (K:PySem.W.Frag) (H:Hp) (a:Addr) (xs:List V):Prop :=
 Rd H a (.lst xs) ∨
  ∃ (o:Obj) (its:Array Value) (n:Nat),K.lookup a=some o∧o.cls=.type "list"∧o.dict=none∧o.data=.seq its n∧its.size≤sizeLine∧Vals xs its.toList
def SqT (K:PySem.W.Frag) (H:Hp) (a:Addr) (xs:List V):Prop :=
 Rd H a (.tup xs) ∨
  ∃ (o:Obj) (its:Array Value) (n:Nat),K.lookup a=some o∧o.cls=.type "tuple"∧o.data=.seq its n∧its.size≤sizeLine∧Vals xs its.toList
def absV:Value→Option V
 | .none=>some .non
 | .bool b=>some (.bl b)
 | .int i _=>some (.int i)
 | .str x _=>some (.str x)
 | .bytes b _=>some (.byt b)
 | .float b _=>some (.flt b)
 | .ref a=>some (.ref a)
 | .type n=>some (.ty n)
 | _=>none
theorem RelV.abs {x:V}{u:Value} (r:RelV x u):absV u=some x:=by
 cases x with
 | non=>cases r; rfl
 | bl _=>cases r; rfl
 | int _=>obtain⟨t,rfl⟩:=r; rfl
 | str _=>obtain⟨t,rfl⟩:=r; rfl
 | byt _=>obtain⟨t,rfl⟩:=r; rfl
 | flt _=>obtain⟨t,rfl⟩:=r; rfl
 | ref _=>cases r; rfl
 | ty _=>cases r; rfl
theorem RelV.inj {x y:V}{u:Value} (r:RelV x u) (q:RelV y u):x=y:=Option.some.inj (r.abs.symm.trans q.abs)
theorem Vals.inj:∀ {xs ys:List V}{us:List Value},Vals xs us→Vals ys us→xs=ys
 | _,_,_,.nil,.nil=>rfl
 | _,_,_,.cons r t,.cons r' t'=>by rw [r.inj r',Vals.inj t t']
section
variable {X:Cx}{pins:List (Addr×Obj)}{σ:St}{H:Hp}{s:Shared}{a:Addr}{xs ys:List V}
theorem SqL.of {K:PySem.W.Frag} (h:H a=some (.lst xs)):SqL K H a xs:=.inl (.inl h)
theorem SqT.of {K:PySem.W.Frag} (h:H a=some (.tup xs)):SqT K H a xs:=.inl (.inl h)
theorem Inv.list (I:Inv X pins σ H s) (h:SqL X.K H a xs):∃ its:List Value,Vals xs its∧PlainL s.heap a its.toArray∧xs.length≤sizeLine:=by
 rcases h with h | ⟨o,its,n,hk,hc,hd,hs,hz,r⟩
 ·obtain⟨z,its,n,r,e⟩:=h.ok I.hok
  exact⟨its,r,⟨_,n,e,rfl,rfl,rfl⟩,z⟩
 ·refine⟨its.toList,r,⟨o,n,I.kIn a o hk,hc,hd,by simpa using hs⟩,?_⟩
  have e:=r.length
  simp only [Array.length_toList] at e
  lia
theorem Inv.tuple (I:Inv X pins σ H s) (h:SqT X.K H a xs):∃ its:List Value,Vals xs its∧IsTup s.heap a its.toArray∧xs.length≤sizeLine:=by
 rcases h with h | ⟨o,its,n,hk,hc,hs,hz,r⟩
 ·obtain⟨z,its,r,p⟩:=h.ok I.hok
  exact⟨its,r,p,z⟩
 ·refine⟨its.toList,r,⟨o,I.kIn a o hk,hc,n,by simpa using hs⟩,?_⟩
  have e:=r.length
  simp only [Array.length_toList] at e
  lia
theorem Inv.list_inj (I:Inv X pins σ H s) (h:SqL X.K H a xs) (h':SqL X.K H a ys):xs=ys:=by
 obtain⟨its,r,⟨o,n,e,_,_,d⟩,_⟩:=I.list h
 obtain⟨its',r',⟨o',n',e',_,_,d'⟩,_⟩:=I.list h'
 rw [e] at e'; cases e'
 rw [d] at d'
 injection d' with d1 _
 have:its=its':=by simpa using congrArg Array.toList d1
 subst this
 exact r.inj r'
theorem Inv.sI (I:Inv X pins σ H s) (h:SqT X.K H a xs) (h':SqT X.K H a ys):xs=ys:=by
 obtain⟨its,r,⟨o,e,_,n,d⟩,_⟩:=I.tuple h
 obtain⟨its',r',⟨o',e',_,n',d'⟩,_⟩:=I.tuple h'
 rw [e] at e'; cases e'
 rw [d] at d'
 injection d' with d1 _
 have:its=its':=by simpa using congrArg Array.toList d1
 subst this
 exact r.inj r'
end
abbrev Cx.wish (X:Cx) (E:Value→Shared→Prop):Cx:={ X with xe:=E }
abbrev Cx.nox (X:Cx):Cx:=X.wish fun _ _=>False
theorem Cx.Ok.wish {X:Cx} (ok:X.Ok) (E:Value→Shared→Prop):(X.wish E).Ok :=
 ⟨ok.mod,ok.kind,ok.glob,ok.blt,ok.above,ok.inj,ok.has,ok.cab,ok.hd,ok.frames,ok.stk,ok.exf,ok.bs,ok.bsz,ok.noex,ok.exfs,ok.funs,ok.frf⟩
theorem Cx.Ok.unwish {X:Cx}{E:Value→Shared→Prop} (ok:(X.wish E).Ok):X.Ok :=
 ⟨ok.mod,ok.kind,ok.glob,ok.blt,ok.above,ok.inj,ok.has,ok.cab,ok.hd,ok.frames,ok.stk,ok.exf,ok.bs,ok.bsz,ok.noex,ok.exfs,ok.funs,ok.frf⟩
section
variable {X:Cx}{pins:List (Addr×Obj)}{σ:St}{H:Hp}{s:Shared}{E:Value→Shared→Prop}
theorem Inv.wish (I:Inv X pins σ H s) (E:Value→Shared→Prop):Inv (X.wish E) pins σ H s:=⟨I.ok.wish E,I.os,I.bare,I.base,I.loc,I.cell,I.free,I.freeC,I.pin,I.hok,I.len⟩
theorem Inv.unwish (I:Inv (X.wish E) pins σ H s):Inv X pins σ H s:=⟨I.ok.unwish,I.os,I.bare,I.base,I.loc,I.cell,I.free,I.freeC,I.pin,I.hok,I.len⟩
theorem SP.unwish {D:Ends}{f:Flow}{s':Shared} (h:SP (X.wish E) pins D f s'):SP X pins D f s':=by
 cases f with
 | next=>obtain⟨σ',H',I,q⟩:=h; exact⟨σ',H',I.unwish,q⟩
 | brk=>obtain⟨σ',H',I,q⟩:=h; exact⟨σ',H',I.unwish,q⟩
 | cont=>obtain⟨σ',H',I,q⟩:=h; exact⟨σ',H',I.unwish,q⟩
 | ret u=>obtain⟨v,σ',H',I,r,q⟩:=h; exact⟨v,σ',H',I.unwish,r,q⟩
theorem PSs.nox {st:List Stmt}{t:TS} (h:PSs X.nox st t):PSs X st t:=fun pins s σ H D I hw =>
 wpAny_mono (h pins s σ H D (I.wish _) hw) (fun _ _ q=>q.unwish) fun _ _ z=>False.elim z
end
section
variable {X:Cx}{st:Stmt}{rest:List Stmt}{t u:TS}{e:Expr}{te:TE}{pos:Pos}
def tNext:TS:=fun D σ H=>D.nx σ H
def tSeq (t u:TS):TS:=fun D σ H=>t { D with nx:=u D } σ H
theorem pss_nil:PSs X [] tNext:=fun _ _ σ H _ I h=>wpAny_execs_nil ⟨σ,H,I,h⟩
theorem pss_cons (h1:PS X st t) (h2:PSs X rest u):PSs X (st::rest) (tSeq t u):=by
 intro pins s σ H D I h
 refine wpAny_execs_cons (thn (h1 pins s σ H { D with nx:=u D } I h) fun f s1 q=>?_)
 cases f with
 | next =>
  obtain⟨σ',H',I',q⟩:=q
  exact h2 pins s1 σ' H' D I' q
 | ret v=>exact q
 | brk=>exact q
 | cont=>exact q
theorem pss_one (h1:PS X st t):PSs X [st] t:=by
 intro pins s σ H D I h
 refine wpAny_execs_cons (thn (h1 pins s σ H D I h) fun f s1 q=>?_)
 cases f with
 | next=>exact wpAny_execs_nil q
 | ret v=>exact q
 | brk=>exact q
 | cont=>exact q
def afR:TS:=fun D σ H=>D.ct σ H
theorem agp:PS X (.Pass pos) tNext:=fun _ _ σ H _ I h=>wpAny_Pass ⟨σ,H,I,h⟩
theorem YJ:PS X (.Continue pos) afR:=fun _ _ σ H _ I h=>wpAny_Continue ⟨σ,H,I,h⟩
theorem Inv.quiet {pins:List (Addr×Obj)}{σ:St}{H:Hp}{s:Shared} (I:Inv X pins σ H s):interactive X.env=false:=by simp [interactive,I.ok.kind]
def tDrop (te:TE):TS:=fun D σ H=>te σ H fun _ H1=>D.nx σ H1
theorem ps_expr (he:PE X e te) (hs:swapsWith e none pos.line X.env=pure false:=by rfl):PS X (.Expr e pos) (tDrop te):=by
 intro pins s σ H D I h
 exact wpAny_Expr_any (thn (he pins s σ H _ I h) fun v s1 ⟨x,H1,I1,r1,q1⟩=>⟨σ,H1,I1,q1⟩) I.quiet hs
def tRet (te:TE):TS:=fun D σ H=>te σ H D.rt
theorem ps_ret (he:PE X e te):PS X (.Return (some e) pos) (tRet te):=by
 intro pins s σ H D I h
 exact wpAny_Return_some (thn (he pins s σ H _ I h) fun v s1 ⟨x,H1,I1,r1,q1⟩=>⟨x,σ,H1,I1,r1,q1⟩)
def afO:TS:=fun D _ H=>D.rt .non H
theorem ago:PS X (.Return none pos) afO:=fun _ _ σ H _ I h=>wpAny_Return_none ⟨.non,σ,H,I,rfl,h⟩
def tIfS (c:TT) (t u:TS):TS:=fun D σ H=>c σ H fun b H1=>if b=true then t D σ H1 else u D σ H1
theorem ps_if {c:Expr}{a b:List Stmt}{tc:TT} (hc:PT X c tc) (ha:PSs X a t) (hb:PSs X b u):PS X (.If c a b pos) (tIfS tc t u):=by
 intro pins s σ H D I h
 refine wpAny_If (thn (hc pins s σ H _ I h) fun d s1 ⟨H1,I1,q1⟩=>?_)
 cases d with
 | true=>exact ha pins s1 σ H1 D I1 q1
 | false=>exact hb pins s1 σ H1 D I1 q1
def acM:TS:=fun _ _ _=>False
theorem aeO:PS X st acM:=fun _ _ _ _ _ _ h=>h.elim
end
abbrev TG:=V→St→Hp→(St→Hp→Prop)→Prop
abbrev TGs:=List V→St→Hp→(St→Hp→Prop)→Prop
def PG (X:Cx) (target:Expr) (t:TG):Prop :=
 ∀ (pins:List (Addr×Obj)) (s:Shared) (σ:St) (H:Hp) (v:V) (u:Value) (Q:St→Hp→Prop),Inv X pins σ H s→RelV v u→t v σ H Q →
  wpAny (model X.prog X.w) X.A (assign target X.env u) (fun _ s'=>∃ σ' H',Inv X pins σ' H' s'∧Q σ' H') X.xe s
def PGs (X:Cx) (ts:List Expr) (t:TGs):Prop :=
 ∀ (pins:List (Addr×Obj)) (s:Shared) (σ:St) (H:Hp) (vs:List V) (us:List Value) (Q:St→Hp→Prop),Inv X pins σ H s→Vals vs us→t vs σ H Q →
  wpAny (model X.prog X.w) X.A (assignInOrder ((assignEach ts X.env).map (·.2)) us) (fun _ s'=>∃ σ' H',Inv X pins σ' H' s'∧Q σ' H') X.xe s
abbrev N7:=V→V→V→Hp→(Hp→Prop)→Prop
def Yj (X:Cx) (t:N7):Prop :=
 ∀ (pins:List (Addr×Obj)) (s:Shared) (σ:St) (H:Hp) (o i v:V) (ov iv u:Value) (Q:Hp→Prop),Inv X pins σ H s→RelV o ov→RelV i iv→RelV v u→t o i v H Q →
  wpAny (model X.prog X.w) X.A (setItem ov iv u) (fun _ s'=>∃ H',Inv X pins σ H' s'∧Q H') X.xe s
abbrev TIp:=V→V→Hp→VK→Prop
def PIp (X:Cx) (op:Operator) (t:TIp):Prop :=
 ∀ (pins:List (Addr×Obj)) (s:Shared) (σ:St) (H:Hp) (x y:V) (v u:Value) (Q:VK),Inv X pins σ H s→RelV x v→RelV y u→t x y H Q →
  wpAny (model X.prog X.w) X.A (inplaceOp op v u) (EP X pins σ Q) X.xe s
section
variable {X:Cx}{pos:Pos}
def gName (i:Nat):TG:=fun v σ H Q=>Q (σ.set i (some v)) H
theorem pg_name {i:Nat}{x:Str} (hN:X.N.Nodup) (hi:X.N[i]?=some x) (hx:Loc X.env.scope x) (hf:X.fn x=true∨X.env.scope.names.lookup x=some .local:=by first | exact .inl rfl | exact .inr rfl | assumption):PG X (.Name x pos) (gName i):=by
 intro pins s σ H v u Q I r h
 exact wpAny_assign_Name (store_ok I hN hi hx r (fun s' I'=>⟨_,H,I',h⟩) hf)
def afo:TGs:=fun vs σ H Q=>vs=[]∧Q σ H
def UW (t:TG) (u:TGs):TGs:=fun vs σ H Q=>∃ v r,vs=v::r∧t v σ H fun σ' H'=>u r σ' H' Q
theorem aae:PGs X [] afo:=by
 intro pins s σ H vs us Q I r h
 obtain⟨e,h⟩:=h
 subst e
 cases r
 exact assignInOrder_nil ⟨σ,H,I,h⟩
theorem Lj {e:Expr}{es:List Expr}{t:TG}{u:TGs} (h1:PG X e t) (h2:PGs X es u)
  (hs:(assignEach (e::es) X.env).map (·.2)=assign e X.env::(assignEach es X.env).map (·.2):=by rfl):PGs X (e::es) (UW t u):=by
 intro pins s σ H vs us Q I r h
 obtain⟨v,vr,e1,h⟩:=h
 subst e1
 cases r with
 | cons r rr =>
  rw [hs]
  refine assignInOrder_cons (thn (h1 pins s σ H _ _ _ I r h) fun _ s1 ⟨σ1,H1,I1,q1⟩=>?_)
  exact h2 pins s1 σ1 H1 _ _ Q I1 rr q1
def afn (K:PySem.W.Frag) (n:Nat) (t:TGs):TG:=fun v σ H Q=>∃ a xs,v=.ref a∧SqT K H a xs∧xs.length=n∧t xs σ H Q
theorem ac5 {es:List Expr}{k:Nat}{t:TGs}{n:Nat} (hc:X.calm=true) (h:PGs X es t)
  (hn:(assignEach es X.env).length=n:=by rfl) (hst:(assignEach es X.env).findIdx? (·.1)=none:=by rfl):PG X (.Tuple es k pos) (afn X.K n t):=by
 intro pins s σ H v u Q I r hw
 obtain⟨a,xs,e1,hq,hl,hw⟩:=hw
 subst e1
 cases r
 obtain⟨its,rv,ht,hz⟩:=I.tuple hq
 refine assign_Tuple_tuple (I.ok.hd hc) ht (by simp [hn,← hl,rv.length]) hst fun h' hx=>?_
 have I1:Inv X pins σ H { s with heap:=h' }:=I.kept (t':=s.toks) fun b o e=>hx b o (Nat.ne_of_lt (Heap.lt_size e)) e
 exact h pins _ σ H xs _ Q I1 (by simpa using rv) hw
def aiP (to ti:TE) (t:N7):TG:=fun v σ H Q=>to σ H fun o H1=>ti σ H1 fun i H2=>t o i v H2 fun H3=>Q σ H3
theorem ah1 {o i:Expr}{to ti:TE}{t:N7} (ho:PE X o to) (hi:PE X i ti) (hs:Yj X t)
  (ha:∀ v,assign (.Subscript o i pos) X.env v=(do
   let ov ← holding [v] (eval o X.env)
   let iv ← holding [v,ov] (eval i X.env)
   standAt pos
   holding [v,ov,iv] (setItem ov iv v)
   release [v,ov,iv] []):=by intro _; rfl):PG X (.Subscript o i pos) (aiP to ti t):=by
 intro pins s σ H v u Q I r h
 rw [ha]
 refine wpAny_bind (wpAny_holding (thn (ho pins s σ H _ I h) fun ov s1 ⟨x,H1,I1,r1,q1⟩=>?_))
 refine wpAny_bind (wpAny_holding (thn (hi pins s1 σ H1 _ I1 q1) fun iv s2 ⟨y,H2,I2,r2,q2⟩=>?_))
 refine wpAny_bind (wpAny_standAt (wpAny_bind (wpAny_holding (thn (hs pins s2 σ H2 x y v ov iv u _ I2 r1 r2 r q2) fun _ s3 ⟨H3,I3,q3⟩=>?_))))
 exact wpAny_release ⟨σ,H3,I3,q3⟩
def tAsg (te:TE) (g:TG):TS:=fun D σ H=>te σ H fun x H1=>g x σ H1 D.nx
theorem ahX {tg e:Expr}{te:TE}{g:TG} (he:PE X e te) (hg:PG X tg g) (hs:swapsWithSole [tg] e pos.line X.env=pure false:=by rfl) (hw:swappedStores [tg] e X.env=pure none:=by rfl)
  (h1:(assignEach [tg] X.env).map (·.2)=[assign tg X.env]:=by rfl):PS X (.Assign [tg] e pos) (tAsg te g):=by
 intro pins s σ H D I h
 refine wpAny_Assign_stores (thn (he pins s σ H _ I h) fun v s1 ⟨x,H1,I1,r1,q1⟩=>?_) hs hw
 rw [h1]
 exact thn (hg pins s1 σ H1 x v _ I1 r1 q1) fun _ s2 q=>q
theorem ps_set {i:Nat}{x:Str}{e:Expr}{te:TE}{pos':Pos} (hN:X.N.Nodup) (hi:X.N[i]?=some x) (hx:Loc X.env.scope x) (he:PE X e te) (hs:swapsWith e (some (.Name x pos')) pos.line X.env=pure false:=by rfl) (hf:X.fn x=true∨X.env.scope.names.lookup x=some .local:=by first | exact .inl rfl | exact .inr rfl | assumption) :
  PS X (.Assign [.Name x pos'] e pos) (tAsg te (gName i)):=by
 intro pins s σ H D I h
 refine wpAny_Assign_Name (thn (he pins s σ H _ I h) fun v s1 ⟨y,H1,I1,r1,q1⟩=>?_) hs
 exact store_ok I1 hN hi hx r1 (fun s2 I2=>⟨_,H1,I2,q1⟩) hf
def ahA (i:Nat) (te:TE) (ti:TIp):TS:=fun D σ H=>∃ x,σ[i]?=some (some x)∧te σ H fun y H1=>ti x y H1 fun z H2=>D.nx (σ.set i (some z)) H2
theorem ahW {i:Nat}{x:Str}{e:Expr}{te:TE}{op:Operator}{ti:TIp}{pos':Pos} (hN:X.N.Nodup) (hi:X.N[i]?=some x) (hx:Loc X.env.scope x) (he:PE X e te) (ho:PIp X op ti) (hf:X.fn x=true∨X.env.scope.names.lookup x=some .local:=by first | exact .inl rfl | exact .inr rfl | assumption) :
  PS X (.AugAssign (.Name x pos') op e pos) (ahA i te ti):=by
 intro pins s σ H D I h
 obtain⟨v,e1,h⟩:=h
 obtain⟨m,hn,hl⟩:=I.loc
 have vis:Vis X.env.scope x:=by rcases hx with k | k; exact .inl k; exact .inr (.inl k)
 obtain⟨u,r,l⟩:=hl i x v hi e1 vis
 refine wpAny_AugAssign_Name ?_
 have go:wpAny (model X.prog X.w) X.A (eval e X.env) (fun w s₂=>wpAny (model X.prog X.w) X.A (inplaceOp op u w) (fun r s₃=>wpAny (model X.prog X.w) X.A (storeName X.env x r) (fun _=>SP X pins D .next) X.xe s₃) X.xe s₂) X.xe s:=by
  refine thn (he pins s σ H _ I h) fun w s1 ⟨y,H1,I1,r1,q1⟩=>?_
  refine thn (ho pins s1 σ H1 v y u w _ I1 r r1 q1) fun z s2 ⟨zv,H2,I2,r2,q2⟩=>?_
  exact store_ok I2 hN hi hx r2 (fun s3 I3=>⟨_,H2,I3,q2⟩) hf
 rcases l with⟨hk,hm⟩ | ⟨hk,c,hc,hcell⟩
 ·exact wpAny_loadName_local I.ok.kind hk hn hm go
 ·rcases hk with hk | hk
  ·exact wpAny_loadName_cell I.ok.kind hk hc hcell go
  ·rcases hx with k | k
   ·have:X.env.scope.names.lookup x=some .free:=hk
    rw [k] at this; cases this
   ·have:X.env.scope.names.lookup x=some .free:=hk
    rw [k] at this; cases this
def afS (to ti te:TE) (KJ:V→V→Hp→VK→Prop) (tip:TIp) (KH:N7):TS:=fun D σ H=>to σ H fun o H1=>ti σ H1 fun i H2=>KJ o i H2 fun x H3=>te σ H3 fun y H4=>tip x y H4 fun z H5=>KH o i z H5 fun H6=>D.nx σ H6
def afJ (X:Cx) (t:V→V→Hp→VK→Prop):Prop :=
 ∀ (pins:List (Addr×Obj)) (s:Shared) (σ:St) (H:Hp) (o i:V) (ov iv:Value) (Q:VK),Inv X pins σ H s→RelV o ov→RelV i iv→t o i H Q →
  wpAny (model X.prog X.w) X.A (getItem ov iv) (EP X pins σ Q) X.xe s
theorem agq {o i e:Expr}{to ti te:TE}{KJ:V→V→Hp→VK→Prop}{tip:TIp}{KH:N7}{op:Operator}{tpos:Pos} (ho:PE X o to) (hi:PE X i ti) (hg:afJ X KJ) (he:PE X e te) (hp:PIp X op tip) (hs:Yj X KH)
  (ha:∀ ov iv new,augStore i ov iv new=(do holding [new,ov,iv] (setItem ov iv new); release [new,ov,iv] []; pure .next):=by intros; rfl):PS X (.AugAssign (.Subscript o i tpos) op e pos) (afS to ti te KJ tip KH):=by
 intro pins s σ H D I h
 refine wpAny_AugAssign_SubscriptAny (thn (ho pins s σ H _ I h) fun ov s1 ⟨x1,H1,I1,r1,q1⟩=>?_) ha
 refine thn (hi pins s1 σ H1 _ I1 q1) fun iv s2 ⟨x2,H2,I2,r2,q2⟩=>?_
 refine thn (hg pins s2 σ H2 x1 x2 ov iv _ I2 r1 r2 q2) fun old s3 ⟨x3,H3,I3,r3,q3⟩=>?_
 refine thn (he pins s3 σ H3 _ I3 q3) fun v s4 ⟨x4,H4,I4,r4,q4⟩=>?_
 refine thn (hp pins s4 σ H4 x3 x4 old v _ I4 r3 r4 q4) fun new s5 ⟨x5,H5,I5,r5,q5⟩=>?_
 exact thn (hs pins s5 σ H5 x1 x2 x5 ov iv new _ I5 r1 r2 r5 q5) fun _ s6 ⟨H6,I6,q6⟩=>⟨σ,H6,I6,q6⟩
def ipI (f:Int→Int→Int):TIp:=fun x y H Q=>∃ i j,x=.int i∧y=.int j∧Q (.int (f i j)) H
theorem Hz:PIp X .Add (ipI fun i j=>i+j):=by
 intro pins s σ H x y v u Q I r1 r2 h
 obtain⟨i,j,e1,e2,q⟩:=h
 subst e1; subst e2
 obtain⟨t,rfl⟩:=r1
 obtain⟨t',rfl⟩:=r2
 exact iadd_int ⟨.int _,H,I.tok _,⟨_,rfl⟩,q⟩
end
section
variable {X:Cx}{pos:Pos}
def vM (c:TT) (tb:TS):TS:=fun D σ H=>∃ W:Nat→St→Hp→Prop,(∃ m,W m σ H)∧∀ m σ H,W m σ H →
 c σ H fun b H1=>if b=true then ∃ N:St→Hp→Prop,(∀ σ' H',N σ' H'→∃ m',m'<m∧W m' σ' H')∧tb { D with nx:=N,ct:=N,bk:=D.nx } σ H1 else D.nx σ H1
theorem aeN {c:Expr}{body:List Stmt}{tc:TT}{tb:TS} (hp:PassesOwn (model X.prog X.w) X.A X.env X.xe) (hc:PT X c tc) (hb:PSs X body tb):PS X (.While c body [] pos) (vM tc tb):=by
 intro pins s σ H D I h
 obtain⟨W,⟨m0,w0⟩,turn⟩:=h
 refine wpAny_While (codeAny_whileLoop (fun n s'=>∃ σ' H',Inv X pins σ' H' s'∧W n σ' H') ?_ m0 ⟨σ,H,I,w0⟩)
 rintro n s1 ⟨σ1,H1,I1,w1⟩
 refine wpAny_passesOwn hp (thn (hc pins s1 σ1 H1 _ I1 (turn n σ1 H1 w1)) fun b s2 ⟨H2,I2,q2⟩=>?_)
 cases b with
 | true =>
  obtain⟨N,hN,q2⟩:=q2
  rw [if_pos rfl]
  refine wpAny_passesOwn hp (thn (hb pins s2 σ1 H2 _ I2 q2) fun f s3 q3=>?_)
  cases f with
  | next =>
   obtain⟨σ3,H3,I3,n3⟩:=q3
   obtain⟨m',hm,w3⟩:=hN σ3 H3 n3
   exact⟨m',hm,σ3,H3,I3,w3⟩
  | cont =>
   obtain⟨σ3,H3,I3,n3⟩:=q3
   obtain⟨m',hm,w3⟩:=hN σ3 H3 n3
   exact⟨m',hm,σ3,H3,I3,w3⟩
  | brk=>exact q3
  | ret v=>exact q3
 | false =>
  rw [if_neg Bool.false_ne_true]
  exact wpAny_execs_nil ⟨σ1,H2,I2,q2⟩
end
structure It where
 go:Nat→Hp→Prop
 yld:Nat→Hp→V→Hp→Prop
 stop:Nat→Hp→Prop
def FpOk (X:Cx) (pins:List (Addr×Obj)) (H:Hp) (b:Addr):Prop :=
 H b=none∧b≠X.env.locals∧b ∉ X.fs∧(b∈X.ex∨X.s₀.heap.objs.size≤b)∧(∀ x c,X.env.cells.lookup x=some c→c≠b)∧∀ p∈X.pn++pins,p.1≠b
theorem Inv.fpOk {X:Cx}{pins:List (Addr×Obj)}{σ:St}{H H':Hp}{s:Shared}{b:Addr} (I:Inv X pins σ H s) (hb:s.heap.objs.size≤b) (hn:H' b=none):FpOk X pins H' b:=by
 refine⟨hn,Nat.ne_of_gt (Nat.lt_of_lt_of_le I.lt hb),I.nofs hb,.inr (Nat.le_trans I.sz hb),fun x c e z=>?_,fun p hp z=>?_⟩
 ·obtain⟨v,q⟩:=I.cell x c e
  exact absurd (Nat.lt_of_lt_of_le q.lt (by rw [z]; exact hb)) (Nat.lt_irrefl _)
 ·exact absurd (Nat.lt_of_lt_of_le (Heap.lt_size (I.pin p hp).1) (by rw [z]; exact hb)) (Nat.lt_irrefl _)
structure Turn (P:Program) (w:World) (K:PySem.W.Frag) (tg:Expr) (J:It) (fp:List Addr) (it:Addr) (tn:Nat→Heap→Prop):Prop where
 mem:it∈fp
 obj:∀ i h,tn i h→∀ b∈fp,∃ o,h.get? b=some o∧∀ v,o.data≠.cell v
 keep:∀ i h h',tn i h→(∀ b∈fp,∀ o,h.get? b=some o→h'.get? b=some o)→tn i h'
 item:∀ (X:Cx),X.prog=P→X.w=w→X.K=K→X.calm=true→∀ (i:Nat) (pins:List (Addr×Obj)) (s:Shared) (σ:St) (H:Hp) (E:Value→Shared→Prop),Inv X pins σ H s→(∀ b∈fp,FpOk X pins H b)→tn i s.heap→J.go i H →
  wpAny (model P w) X.A (pyNext (.ref it)) (fun r s1=>∃ u,r=some u ∧
   wpAny (model P w) X.A (letOwnedTupleGo tg (.ref it) u) (fun _ s2=>∃ x H',Inv X pins σ H' s2∧RelV x u∧J.yld i H x H'∧tn (i+1) s2.heap∧∀ b∈fp,H' b=none) E s1) E s
 done:∀ (X:Cx),X.prog=P→X.w=w→X.K=K→X.calm=true→∀ (i:Nat) (pins:List (Addr×Obj)) (s:Shared) (σ:St) (H:Hp) (E:Value→Shared→Prop),Inv X pins σ H s→(∀ b∈fp,FpOk X pins H b)→tn i s.heap→J.stop i H →
  wpAny (model P w) X.A (pyNext (.ref it)) (fun r s1=>r=none∧Inv X pins σ H s1) E s
 self:∀ (A:Around) (i:Nat) (s:Shared) (Q:Value→Shared→Prop) (E:Value→Shared→Prop),tn i s.heap→Q (.ref it) s→wpAny (model P w) A (pyIter (.ref it)) Q E s
abbrev TI:=St→Hp→(It→Hp→Prop)→Prop
def PIE (X:Cx) (pins:List (Addr×Obj)) (σ:St) (tg:Expr) (R:It→Hp→Prop) (itv:Value) (s2:Shared):Prop :=
 ∃ (it:Addr) (fp:List Addr) (tn:Nat→Heap→Prop) (J:It) (H':Hp),itv=.ref it∧Inv X pins σ H' s2∧Turn X.prog X.w X.K tg J fp it tn∧tn 0 s2.heap∧(∀ b∈fp,FpOk X pins H' b)∧R J H'
def PI (X:Cx) (tg iter:Expr) (wi:TI):Prop :=
 ∀ (pins:List (Addr×Obj)) (s:Shared) (σ:St) (H:Hp) (R:It→Hp→Prop),Inv X pins σ H s→wi σ H R →
  wpAny (model X.prog X.w) X.A (eval iter X.env) (fun v s1=>wpAny (model X.prog X.w) X.A (pyIter v) (PIE X pins σ tg R) X.xe s1) X.xe s
theorem go_of {M:Model}{A:Around}{E:Value→Shared→Prop}{s:Shared}{tg:Expr}{it:Addr}{u:Value}{o:Obj}{n:String}{vs:Array Value}{Q:Unit→Shared→Prop} (ho:s.heap.get? it=some o) (hc:o.cls=.type n) (hd:o.data=.fields vs)
  (hn:["enumerate","zip","dict_itemiterator","dict_reverseitemiterator","odict_iterator","itertools.zip_longest","itertools.pairwise"].contains n=false) (hQ:Q () s):wpAny M A (letOwnedTupleGo tg (.ref it) u) Q E s:=by
 unfold letOwnedTupleGo
 cases tg <;> first
  | exact wpAny_pure hQ
  | (cases u <;> first
    | exact wpAny_pure hQ
    | (refine wpAny_bind (wpAny_load ho ?_);rw [hc,hd];show wpAny M A (if (["enumerate","zip","dict_itemiterator","dict_reverseitemiterator","odict_iterator","itertools.zip_longest","itertools.pairwise"].contains n && vs[0]? == some (rawInt _))=true then _ else _) Q E s;rw [if_neg (by intro h; rw [hn,Bool.false_and] at h; cases h)];exact wpAny_pure hQ))
def Itl (K:PySem.W.Frag) (a:Addr):It :=
 ⟨fun i H=>∃ xs x,SqL K H a xs∧xs[i]?=some x,fun i H x H'=>H'=H∧∀ xs,SqL K H a xs→xs[i]?=some x,fun i H=>∃ xs,SqL K H a xs∧xs.length≤i⟩
def Itt (K:PySem.W.Frag) (a:Addr):It :=
 ⟨fun i H=>∃ xs x,SqT K H a xs∧xs[i]?=some x,fun i H x H'=>H'=H∧∀ xs,SqT K H a xs→xs[i]?=some x,fun i H=>∃ xs,SqT K H a xs∧xs.length≤i⟩
def Itr (lo:Int) (n:Nat):It:=⟨fun i _=>i<n,fun i H x H'=>H'=H∧x=.int (lo+i),fun i _=>n≤i⟩
theorem turn_list {P:Program}{w:World}{K:PySem.W.Frag}{tg:Expr} (a it:Addr):Turn P w K tg (Itl K a) [it] it (fun i h=>h.IsListIter it a i) where
 mem:=by simp
 obj:=fun i h st b hb=>by
  have e:b=it:=by simpa using hb
  subst e
  obtain⟨o,e,c,d⟩:=st
  exact⟨o,e,fun v z=>by rw [d] at z; cases z⟩
 keep:=fun i h h' st k=>st.at fun o e=>k it (by simp) o e
 item:=by
  intro X hP hw hK hc i pins s σ H E I hf st hg
  subst hP hw hK
  obtain⟨xs,x,hq,hx⟩:=hg
  obtain⟨its,rv,p,hz⟩:=I.list hq
  obtain⟨u,hu,ru⟩:=rv.get hx
  obtain⟨f0,f1,f2,f3,f4,f5⟩:=hf it (by simp)
  refine wpAny_pyNext_list_item st p.isList (x:=u) (by simpa using hu) fun h' st' sb=>?_
  have I1:Inv X pins σ H { s with heap:=h' }:=I.turned (t':=s.toks) (fun b o hb e=>(sb.2 b hb).trans e) f0 f1 f3 f4 f5
  obtain⟨o,e,c,d⟩:=id st'
  exact⟨u,rfl,go_of (s:={ s with heap:=h' }) e c d (by decide) ⟨x,H,I1,ru,⟨rfl,fun ys hy=>by rw [I.list_inj hy hq]; exact hx⟩,st',fun b hb=>(hf b hb).1⟩⟩
 done:=by
  intro X hP hw hK hc i pins s σ H E I hf st hg
  subst hP hw hK
  obtain⟨xs,hq,hx⟩:=hg
  obtain⟨its,rv,p,hz⟩:=I.list hq
  obtain⟨f0,f1,f2,f3,f4,f5⟩:=hf it (by simp)
  have hl:=rv.length
  exact wpAny_pyNext_list_end (I.ok.hd hc) st p.isList (by simp; lia) fun h' eb=>⟨rfl,I.turned (t':=s.toks) (fun b o hb e=>eb b o hb e) f0 f1 f3 f4 f5⟩
 self:=fun _ _ _ _ _ st h=>wpAny_pyIter_listiter st h
theorem aaH {P:Program}{w:World}{K:PySem.W.Frag}{tg:Expr} (a it:Addr):Turn P w K tg (Itt K a) [it] it (fun i h=>h.IsTupleIter it a i) where
 mem:=by simp
 obj:=fun i h st b hb=>by
  have e:b=it:=by simpa using hb
  subst e
  obtain⟨o,e,c,d⟩:=st
  exact⟨o,e,fun v z=>by rw [d] at z; cases z⟩
 keep:=fun i h h' st k=>st.at fun o e=>k it (by simp) o e
 item:=by
  intro X hP hw hK hc i pins s σ H E I hf st hg
  subst hP hw hK
  obtain⟨xs,x,hq,hx⟩:=hg
  obtain⟨its,rv,p,hz⟩:=I.tuple hq
  obtain⟨u,hu,ru⟩:=rv.get hx
  obtain⟨f0,f1,f2,f3,f4,f5⟩:=hf it (by simp)
  refine wpAny_pyNext_tuple_item st (show s.heap.IsTuple a its.toArray from p) (x:=u) (by simpa using hu) fun h' st' sb=>?_
  have I1:Inv X pins σ H { s with heap:=h' }:=I.turned (t':=s.toks) (fun b o hb e=>(sb.2 b hb).trans e) f0 f1 f3 f4 f5
  obtain⟨o,e,c,d⟩:=id st'
  exact⟨u,rfl,go_of (s:={ s with heap:=h' }) e c d (by decide) ⟨x,H,I1,ru,⟨rfl,fun ys hy=>by rw [I.sI hy hq]; exact hx⟩,st',fun b hb=>(hf b hb).1⟩⟩
 done:=by
  intro X hP hw hK hc i pins s σ H E I hf st hg
  subst hP hw hK
  obtain⟨xs,hq,hx⟩:=hg
  obtain⟨its,rv,p,hz⟩:=I.tuple hq
  obtain⟨f0,f1,f2,f3,f4,f5⟩:=hf it (by simp)
  have hl:=rv.length
  exact wpAny_pyNext_tuple_end (I.ok.hd hc) st (show s.heap.IsTuple a its.toArray from p) (by simp; lia) fun h' eb=>⟨rfl,I.turned (t':=s.toks) (fun b o hb e=>eb b o hb e) f0 f1 f3 f4 f5⟩
 self:=fun _ _ _ _ _ st h=>wpAny_pyIter_tupleiter st h
theorem aaI {P:Program}{w:World}{K:PySem.W.Frag}{tg:Expr} (it:Addr) (lo:Int) (n:Nat):Turn P w K tg (Itr lo n) [it] it (fun i h=>IsRangeIter h it (lo+(i:Nat) * 1) ((n:Int) - (i:Nat)) 1) where
 mem:=by simp
 obj:=fun i h st b hb=>by
  have e:b=it:=by simpa using hb
  subst e
  exact⟨_,st,fun v z=>by
   have z':Data.fields _=Data.cell v:=z
   cases z'⟩
 keep:=fun i h h' st k=>k it (by simp) _ st
 item:=by
  intro X hP hw hK hc i pins s σ H E I hf st hg
  subst hP hw hK
  obtain⟨f0,f1,f2,f3,f4,f5⟩:=hf it (by simp)
  have W:=Walks.range (prog:=X.prog) (w:=X.w) (I.ok.hd hc) it lo 1 n
  refine W.item i s _ _ hg st fun v h' tk hv st' kk=>?_
  obtain⟨t,rfl⟩:=hv
  have I1:Inv X pins σ H { s with heap:=h',toks:=tk }:=I.turned (fun b o hb e=>kk b o (by simpa using hb) e) f0 f1 f3 f4 f5
  refine⟨_,rfl,go_of (s:={ s with heap:=h',toks:=tk }) (n:="range_iterator") st' rfl rfl (by decide) ⟨.int (lo+i),H,I1,⟨t,?_⟩,⟨rfl,rfl⟩,st',fun b hb=>(hf b hb).1⟩⟩
  rw [Int.mul_one]
 done:=by
  intro X hP hw hK hc i pins s σ H E I hf st hg
  subst hP hw hK
  obtain⟨f0,f1,f2,f3,f4,f5⟩:=hf it (by simp)
  exact wpAny_pyNext_range_end (I.ok.hd hc) st (by have:n≤i:=hg; lia) fun h' eb=>⟨rfl,I.turned (t':=s.toks) (fun b o hb e=>eb b o hb e) f0 f1 f3 f4 f5⟩
 self:=fun _ _ _ _ _ st h=>wpAny_pyIter_rangeiter st h
end L2
namespace L2
open PySem PySem.Spec PyProof.Rows
section
variable {X:Cx}{tg:Expr}
def iList (K:PySem.W.Frag) (tl:TE):TI:=fun σ H R=>tl σ H fun x H1=>∃ a,x=.ref a∧(∃ xs,SqL K H1 a xs)∧R (Itl K a) H1
def aiI (K:PySem.W.Frag) (tl:TE):TI:=fun σ H R=>tl σ H fun x H1=>∃ a,x=.ref a∧(∃ xs,SqT K H1 a xs)∧R (Itt K a) H1
theorem pi_list {l:Expr}{tl:TE} (hl:PE X l tl):PI X tg l (iList X.K tl):=by
 intro pins s σ H R I h
 refine thn (hl pins s σ H _ I h) fun v s1 ⟨x,H1,I1,r1,q1⟩=>?_
 obtain⟨a,e,⟨xs,hq⟩,q⟩:=q1
 subst e
 cases r1
 obtain⟨its,rv,p,hz⟩:=I1.list hq
 refine wpAny_pyIter_list p.isList ?_
 refine⟨s1.heap.objs.size,[s1.heap.objs.size],_,_,H1,rfl,I1.kept (t':=s1.toks) fun b o e=>Heap.get?_push_of_some _ e,turn_list a _,⟨_,Heap.get?_push_size _ rfl,rfl,rfl⟩,fun b hb=>?_,q⟩
 have e:b=s1.heap.objs.size:=by simpa using hb
 subst e
 exact I1.fpOk (Nat.le_refl _) (I1.hok.fresh (Nat.le_refl _))
theorem ah0 {l:Expr}{tl:TE} (hl:PE X l tl):PI X tg l (aiI X.K tl):=by
 intro pins s σ H R I h
 refine thn (hl pins s σ H _ I h) fun v s1 ⟨x,H1,I1,r1,q1⟩=>?_
 obtain⟨a,e,⟨xs,hq⟩,q⟩:=q1
 subst e
 cases r1
 obtain⟨its,rv,p,hz⟩:=I1.tuple hq
 refine wpAny_pyIter_tuple (show s1.heap.IsTuple a its.toArray from p) ?_
 refine⟨s1.heap.objs.size,[s1.heap.objs.size],_,_,H1,rfl,I1.kept (t':=s1.toks) fun b o e=>Heap.get?_push_of_some _ e,aaH a _,⟨_,Heap.get?_push_size _ rfl,rfl,rfl⟩,fun b hb=>?_,q⟩
 have e:b=s1.heap.objs.size:=by simpa using hb
 subst e
 exact I1.fpOk (Nat.le_refl _) (I1.hok.fresh (Nat.le_refl _))
theorem aeI {pins:List (Addr×Obj)}{σ:St}{H:Hp}{s:Shared}{R:It→Hp→Prop}{E:Value→Shared→Prop}{lo hi:Int}{t u v:Tok}{tk:Nat} (I:Inv X pins σ H s) (h1:-(2 ^ 62)≤lo) (h2:lo<2 ^ 62) (h3:-(2 ^ 62)≤hi) (h4:hi<2 ^ 62)
  (q:R (Itr lo (hi - lo).toNat) H):wpAny (model X.prog X.w) X.A (pyIter (.ref s.heap.objs.size)) (PIE X pins σ tg R) E { s with heap:=s.heap.push { cls:=.type "range",data:=.fields #[.int lo t,.int hi u,.int 1 v] },toks:=tk }:=by
 refine wpAny_pyIter_range (IsRange.new ..) (small_one h1 h2 h3 h4) ?_
 have I1:Inv X pins σ H { s with heap:=s.heap.push { cls:=.type "range",data:=.fields #[.int lo t,.int hi u,.int 1 v] },toks:=tk }:=I.kept fun b o e=>Heap.get?_push_of_some _ e
 refine⟨(s.heap.push { cls:=.type "range",data:=.fields #[.int lo t,.int hi u,.int 1 v] }).objs.size,[(s.heap.push { cls:=.type "range",data:=.fields #[.int lo t,.int hi u,.int 1 v] }).objs.size],_,_,H,rfl,
  I1.kept (t':=tk) fun b o e=>Heap.get?_push_of_some _ e,aaI _ lo (hi - lo).toNat,?_,fun b hb=>?_,q⟩
 ·have e1:lo+((0:Nat):Int) * 1=lo:=by simp
  have e2:(((hi - lo).toNat:Nat):Int) - ((0:Nat):Int)=Builtin.Range.rangeSize lo hi 1:=by rw [rangeSize_one]; split <;> lia
  show IsRangeIter _ _ (lo+((0:Nat):Int) * 1) ((((hi - lo).toNat:Nat):Int) - ((0:Nat):Int)) 1
  rw [e1,e2]
  exact Heap.get?_push_size _ rfl
 ·have e:b=(s.heap.push { cls:=.type "range",data:=.fields #[.int lo t,.int hi u,.int 1 v] }).objs.size:=by simpa using hb
  subst e
  exact I1.fpOk (Nat.le_refl _) (I1.hok.fresh (Nat.le_refl _))
def afW (ta:TA):TI:=fun σ H R=>ta σ H fun vs H1=>∃ j:Int,vs=[.int j]∧-(2 ^ 62)≤j∧j<2 ^ 62∧R (Itr 0 j.toNat) H1
theorem ac4 {a:Expr}{ta:TA}{p pos:Pos} (hg:Gl X "range") (hm:X.mg "range"=none) (ha:PA X [a] ta) (hs:starEach [a] X.env=[(false,eval a X.env)]:=by rfl):PI X tg (.Call (.Name "range" p) [a] [] pos) (afW ta):=by
 intro pins s σ H R I h
 refine Call_ (ld_blt I hg hm boot_range (PyProof.Rows.callWith_type1 (thn (ha pos pins s σ H _ I h) fun us s1 ⟨vs,H1,I1,r1,q1⟩=>?_) hs rfl))
 obtain⟨j,e,q1,q2,q⟩:=q1
 subst e
 cases r1 with
 | cons r rr =>
  cases rr
  obtain⟨t,rfl⟩:=r
  exact call_range_1 (aeI I1 (by lia) (by lia) q1 q2 (by simpa using q))
def tFor (wi:TI) (g:TG) (tb:TS):TS:=fun D σ H=>wi σ H fun J H1=>∃ W:Nat→Nat→St→Hp→Prop,(∃ m,W 0 m σ H1)∧∀ i m σ H,W i m σ H →
 (J.stop i H∧D.nx σ H)∨(J.go i H∧∃ N:St→Hp→Prop,(∀ σ' H',N σ' H'→∃ m',m'<m∧W (i+1) m' σ' H')∧∀ x H',J.yld i H x H'→g x σ H' fun σ2 H2=>tb { D with nx:=N,ct:=N,bk:=D.nx } σ2 H2)
def pinsAt (fp:List Addr) (h:Heap):List (Addr×Obj):=fp.filterMap fun b=>(h.get? b).map fun o=>(b,o)
theorem mem_pinsAt {fp:List Addr}{h:Heap}{b:Addr}{o:Obj} (hb:b∈fp) (e:h.get? b=some o):(b,o)∈pinsAt fp h:=List.mem_filterMap.mpr ⟨b,hb,by rw [e]; rfl⟩
theorem of_pinsAt {fp:List Addr}{h:Heap}{p:Addr×Obj} (hp:p∈pinsAt fp h):p.1∈fp∧h.get? p.1=some p.2:=by
 obtain⟨b,hb,e⟩:=List.mem_filterMap.mp hp
 cases q:h.get? b with
 | none=>rw [q] at e; cases e
 | some o =>
  rw [q] at e
  have e':(b,o)=p:=Option.some.inj e
  subst e'
  exact⟨hb,q⟩
theorem Inv.pinned {pins:List (Addr×Obj)}{σ:St}{H:Hp}{s:Shared}{fp:List Addr} (I:Inv X pins σ H s) (hf:∀ b∈fp,FpOk X pins H b) (ho:∀ b∈fp,∃ o,s.heap.get? b=some o∧∀ v,o.data≠.cell v):Inv X (pins++pinsAt fp s.heap) σ H s :=
 I.pins_of fun p hp=>(List.mem_append.mp hp).elim (fun z=>I.pin p (List.mem_append_right _ z)) fun z=>by
  obtain⟨hb,e⟩:=of_pinsAt z
  obtain⟨f0,f1,f2,_⟩:=hf p.1 hb
  obtain⟨o,e',d⟩:=ho p.1 hb
  rw [e] at e'; cases e'
  exact⟨e,f0,f1,f2,d⟩
theorem Inv.unpinned {pins pl:List (Addr×Obj)}{σ:St}{H:Hp}{s:Shared} (I:Inv X (pins++pl) σ H s):Inv X pins σ H s:=I.pins_of fun p hp=>I.pin p (List.mem_append_right _ (List.mem_append_left _ hp))
theorem ps_for {iter:Expr}{body:List Stmt}{wi:TI}{g:TG}{tb:TS}{pos:Pos} (hp:PassesOwn (model X.prog X.w) X.A X.env X.xe) (hc:X.calm=true) (hi:PI X tg iter wi) (hg:PG X tg g) (hb:PSs X body tb)
  (hs:∀ x,foldedSetIterable iter X.env x=pure x:=by intro _; rfl):PS X (.For tg iter body [] pos) (tFor wi g tb):=by
 intro pins s σ H D I h
 refine wpAny_For (thn (hi pins s σ H _ I h) fun v s1 h1=>thn h1 fun itv s2 h2=>?_) hs
 obtain⟨it,fp,tn,J,H2,e,I2,T,st2,f2,W,⟨m0,w0⟩,turn⟩:=h2
 subst e
 have stat:∀ {H':Hp},(∀ b∈fp,H' b=none)→∀ b∈fp,FpOk X pins H' b:=fun hn b hb=>⟨hn b hb,(f2 b hb).2⟩
 refine codeAny_forLoop_any (fun n s'=>∃ i σ' H',Inv X pins σ' H' s'∧tn i s'.heap∧(∀ b∈fp,H' b=none)∧W i n σ' H') ?_ m0 ⟨0,σ,H2,I2,st2,fun b hb=>(f2 b hb).1,w0⟩
 rintro n s3 ⟨i,σ3,H3,I3,st3,fr3,w3⟩
 rcases turn i n σ3 H3 w3 with⟨stop,qn⟩ | ⟨go,N,hN,step⟩
 ·refine wpAny_passesOwn hp (thn (T.done X rfl rfl rfl hc i pins s3 σ3 H3 X.xe I3 (stat fr3) st3 stop) fun r s4 ⟨hr,I4⟩=>?_)
  subst hr
  exact wpAny_execs_nil ⟨σ3,H3,I4,qn⟩
 ·refine wpAny_passesOwn hp (thn (T.item X rfl rfl rfl hc i pins s3 σ3 H3 X.xe I3 (stat fr3) st3 go) fun r s4 ⟨u,hr,h4⟩=>?_)
  subst hr
  refine wpAny_passesOwn hp (thn h4 fun _ s5 ⟨x,H5,I5,r5,y5,st5,fr5⟩=>?_)
  have I5':=I5.pinned (stat fr5) (T.obj _ _ st5)
  refine wpAny_passesOwn hp (thn (hg _ s5 σ3 H5 x u _ I5' r5 (step x H5 y5)) fun _ s6 ⟨σ6,H6,I6,q6⟩=>?_)
  refine wpAny_passesOwn hp (thn (hb _ s6 σ6 H6 _ I6 q6) fun f s7 q7=>?_)
  have again:∀ {σ7:St}{H7:Hp},Inv X (pins++pinsAt fp s5.heap) σ7 H7 s7→N σ7 H7→∃ m,m<n∧∃ i σ' H',Inv X pins σ' H' s7∧tn i s7.heap∧(∀ b∈fp,H' b=none)∧W i m σ' H':=fun {σ7 H7} I7 n7=>by
   obtain⟨m',hm,w7⟩:=hN σ7 H7 n7
   refine⟨m',hm,i+1,σ7,H7,I7.unpinned,T.keep _ _ _ st5 fun b hb o e=>(I7.pin (b,o) (List.mem_append_right _ (List.mem_append_right _ (mem_pinsAt hb e)))).1,fun b hb=>?_,w7⟩
   obtain⟨o,e,d⟩:=T.obj _ _ st5 b hb
   exact (I7.pin (b,o) (List.mem_append_right _ (List.mem_append_right _ (mem_pinsAt hb e)))).2.1
  cases f with
  | next=>obtain⟨σ7,H7,I7,n7⟩:=q7; exact again I7 n7
  | cont=>obtain⟨σ7,H7,I7,n7⟩:=q7; exact again I7 n7
  | brk=>obtain⟨σ7,H7,I7,q7⟩:=q7; exact⟨σ7,H7,I7.unpinned,q7⟩
  | ret v=>obtain⟨x7,σ7,H7,I7,r7,q7⟩:=q7; exact⟨x7,σ7,H7,I7.unpinned,r7,q7⟩
end
theorem for_list {K:PySem.W.Frag}{a:Addr}{xs:List V}{g:TG}{tb:TS}{D:Ends}{σ:St}{H:Hp} (Pv:Nat→St→Hp→Prop) (h0:Pv 0 σ H) (hl:∀ i σ H,i≤xs.length→Pv i σ H→SqL K H a xs)
  (hs:∀ i x σ H,xs[i]?=some x→Pv i σ H→g x σ H fun σ2 H2=>tb { D with nx:=Pv (i+1),ct:=Pv (i+1),bk:=D.nx } σ2 H2) (hd:∀ σ H,Pv xs.length σ H→D.nx σ H) :
  ∃ W:Nat→Nat→St→Hp→Prop,(∃ m,W 0 m σ H)∧∀ i m σ H,W i m σ H →
   ((Itl K a).stop i H∧D.nx σ H)∨((Itl K a).go i H∧∃ N:St→Hp→Prop,(∀ σ' H',N σ' H'→∃ m',m'<m∧W (i+1) m' σ' H')∧∀ x H',(Itl K a).yld i H x H'→g x σ H' fun σ2 H2=>tb { D with nx:=N,ct:=N,bk:=D.nx } σ2 H2):=by
 refine⟨fun i m σ H=>m=xs.length - i∧i≤xs.length∧Pv i σ H,⟨xs.length,by simp,Nat.zero_le _,h0⟩,?_⟩
 rintro i m σ H ⟨rfl,hi,p⟩
 have q:=hl i σ H hi p
 by_cases hlt:i<xs.length
 ·refine .inr ⟨⟨xs,xs[i],q,by simp [hlt]⟩,Pv (i+1),fun σ' H' p'=>⟨xs.length - (i+1),by lia,rfl,hlt,p'⟩,fun x H' y=>?_⟩
  obtain⟨e,y⟩:=y
  subst e
  exact hs i x σ _ (y xs q) p
 ·have e:i=xs.length:=by lia
  subst e
  exact .inl ⟨⟨xs,q,Nat.le_refl _⟩,hd σ H p⟩
theorem HD {lo:Int}{n:Nat}{g:TG}{tb:TS}{D:Ends}{σ:St}{H:Hp} (Pv:Nat→St→Hp→Prop) (h0:Pv 0 σ H)
  (hs:∀ i σ H,i<n→Pv i σ H→g (.int (lo+i)) σ H fun σ2 H2=>tb { D with nx:=Pv (i+1),ct:=Pv (i+1),bk:=D.nx } σ2 H2) (hd:∀ σ H,Pv n σ H→D.nx σ H) :
  ∃ W:Nat→Nat→St→Hp→Prop,(∃ m,W 0 m σ H)∧∀ i m σ H,W i m σ H →
   ((Itr lo n).stop i H∧D.nx σ H)∨((Itr lo n).go i H∧∃ N:St→Hp→Prop,(∀ σ' H',N σ' H'→∃ m',m'<m∧W (i+1) m' σ' H')∧∀ x H',(Itr lo n).yld i H x H'→g x σ H' fun σ2 H2=>tb { D with nx:=N,ct:=N,bk:=D.nx } σ2 H2):=by
 refine⟨fun i m σ H=>m=n - i∧i≤n∧Pv i σ H,⟨n,by simp,Nat.zero_le _,h0⟩,?_⟩
 rintro i m σ H ⟨rfl,hi,p⟩
 by_cases hlt:i<n
 ·refine .inr ⟨hlt,Pv (i+1),fun σ' H' p'=>⟨n - (i+1),by lia,rfl,hlt,p'⟩,fun x H' y=>?_⟩
  obtain⟨e,y⟩:=y
  subst e y
  exact hs i σ _ hlt p
 ·have e:i=n:=by lia
  subst e
  exact .inl ⟨Nat.le_refl _,hd σ H p⟩
end L2
namespace L2
open PySem PySem.Spec PyProof.Rows
abbrev R2:=V→V→Hp→VK→Prop
def OpR (X:Cx) (f:Value→Value→Sem Value) (r:R2):Prop :=
 ∀ (pins:List (Addr×Obj)) (s:Shared) (σ:St) (H:Hp) (x y:V) (v u:Value) (Q:VK),Inv X pins σ H s→RelV x v→RelV y u→r x y H Q →
  wpAny (model X.prog X.w) X.A (f v u) (EP X pins σ Q) X.xe s
def UnR (X:Cx) (f:Value→Sem Value) (r:V→Hp→VK→Prop):Prop :=
 ∀ (pins:List (Addr×Obj)) (s:Shared) (σ:St) (H:Hp) (x:V) (v:Value) (Q:VK),Inv X pins σ H s→RelV x v→r x H Q →
  wpAny (model X.prog X.w) X.A (f v) (EP X pins σ Q) X.xe s
def CallR (X:Cx) (f:Value) (r:List V→Hp→VK→Prop):Prop :=
 ∀ (pins:List (Addr×Obj)) (s:Shared) (σ:St) (H:Hp) (xs:List V) (us:List Value) (Q:VK),Inv X pins σ H s→Vals xs us→r xs H Q →
  wpAny (model X.prog X.w) X.A (call f us) (EP X pins σ Q) X.xe s
def aqU (X:Cx) (r:V→Hp→(Bool→Hp→Prop)→Prop):Prop :=
 ∀ (pins:List (Addr×Obj)) (s:Shared) (σ:St) (H:Hp) (x:V) (v:Value) (Q:Bool→Hp→Prop),Inv X pins σ H s→RelV x v→r x H Q →
  wpAny (model X.prog X.w) X.A (truthy v) (TP X pins σ Q) X.xe s
def tOp (r:R2) (ta tb:TE):TE:=fun σ H Q=>ta σ H fun x H1=>tb σ H1 fun y H2=>r x y H2 Q
def tUn (r:V→Hp→VK→Prop) (ta:TE):TE:=fun σ H Q=>ta σ H fun x H1=>r x H1 Q
def rI (C:Int→Int→Prop) (g:Int→Int→V):R2:=fun x y H Q=>∃ i j,x=.int i∧y=.int j∧C i j∧Q (g i j) H
def rI0 (g:Int→Int→V):R2:=fun x y H Q=>∃ i j,x=.int i∧y=.int j∧Q (g i j) H
def rU (g:Int→V):V→Hp→VK→Prop:=fun x H Q=>∃ i,x=.int i∧Q (g i) H
section
variable {X:Cx}{a b c:Expr}{ta tb tc:TE}{pos:Pos}
theorem binT (ha:PE X a ta) (hb:PE X b tb) {pins:List (Addr×Obj)}{s:Shared}{σ:St}{H:Hp}{R:V→V→Hp→Prop} (I:Inv X pins σ H s)
  (h:ta σ H fun x H1=>tb σ H1 fun y H2=>R x y H2) {Q:Value→Shared→Prop}{f:Value→Value→Sem Value}
  (hf:∀ v u s2 x y H2,Inv X pins σ H2 s2→RelV x v→RelV y u→R x y H2→wpAny (model X.prog X.w) X.A (f v u) Q X.xe s2) :
  wpAny (model X.prog X.w) X.A (eval a X.env) (fun v s₁=>wpAny (model X.prog X.w) X.A (eval b X.env) (fun u s₂=>wpAny (model X.prog X.w) X.A (f v u) Q X.xe s₂) X.xe s₁) X.xe s:=by
 refine thn (ha pins s σ H _ I h) fun v s1 ⟨x,H1,I1,r1,q1⟩=>?_
 refine thn (hb pins s1 σ H1 _ I1 q1) fun u s2 ⟨y,H2,I2,r2,q2⟩=>?_
 exact hf v u s2 x y H2 I2 r1 r2 q2
theorem pe_op {op:Operator}{r:R2} (ho:OpR X (binaryOp op) r) (ha:PE X a ta) (hb:PE X b tb):PE X (.BinOp a op b pos) (tOp r ta tb):=by
 intro pins s σ H Q I h
 exact wpAny_BinOp (binT ha hb I h fun v u s2 x y H2 I2 rx ry q=>ho pins s2 σ H2 x y v u Q I2 rx ry q)
theorem akg {op:UnaryOp}{r:V→Hp→VK→Prop} (ho:UnR X (unaryOp op) r) (ha:PE X a ta):PE X (.UnaryOp op a pos) (tUn r ta):=by
 intro pins s σ H Q I h
 exact UnaryOp_ (thn (ha pins s σ H _ I h) fun v s1 ⟨x,H1,I1,r1,q1⟩=>ho pins s1 σ H1 x v Q I1 r1 q1)
theorem opI {f:Value→Value→Sem Value}{C:Int→Int→Prop}{g:Int→Int→Int}
  (rule:∀ (i j:Int) (t u:Tok) (s:Shared) (Q:Value→Shared→Prop) (E:Value→Shared→Prop),C i j→Q (.int (g i j) s.toks) { s with toks:=s.toks+1 }→wpAny (model X.prog X.w) X.A (f (.int i t) (.int j u)) Q E s) :
  OpR X f (rI C fun i j=>.int (g i j)):=by
 intro pins s σ H x y v u Q I rx ry h
 obtain⟨i,j,rfl,rfl,hc,q⟩:=h
 obtain⟨t,rfl⟩:=rx
 obtain⟨t',rfl⟩:=ry
 exact rule i j t t' s _ _ hc ⟨.int (g i j),H,I.tok _,⟨_,rfl⟩,q⟩
theorem opI0 {f:Value→Value→Sem Value}{g:Int→Int→Int}
  (rule:∀ (i j:Int) (t u:Tok) (s:Shared) (Q:Value→Shared→Prop) (E:Value→Shared→Prop),Q (.int (g i j) s.toks) { s with toks:=s.toks+1 }→wpAny (model X.prog X.w) X.A (f (.int i t) (.int j u)) Q E s) :
  OpR X f (rI0 fun i j=>.int (g i j)):=by
 intro pins s σ H x y v u Q I rx ry h
 obtain⟨i,j,rfl,rfl,q⟩:=h
 obtain⟨t,rfl⟩:=rx
 obtain⟨t',rfl⟩:=ry
 exact rule i j t t' s _ _ ⟨.int (g i j),H,I.tok _,⟨_,rfl⟩,q⟩
theorem opB0 {f:Value→Value→Sem Value}{g:Int→Int→Bool}
  (rule:∀ (i j:Int) (t u:Tok) (s:Shared) (Q:Value→Shared→Prop) (E:Value→Shared→Prop),Q (.bool (g i j)) s→wpAny (model X.prog X.w) X.A (f (.int i t) (.int j u)) Q E s) :
  OpR X f (rI0 fun i j=>.bl (g i j)):=by
 intro pins s σ H x y v u Q I rx ry h
 obtain⟨i,j,rfl,rfl,q⟩:=h
 obtain⟨t,rfl⟩:=rx
 obtain⟨t',rfl⟩:=ry
 exact rule i j t t' s _ _ ⟨.bl (g i j),H,I,rfl,q⟩
def CDiv (i j:Int):Prop:=0<j∧j<1073741824
def aqY (i j:Int):Prop:=0≤j∧j≤1000000∧i.natAbs<2 ^ 64
def CMul (i j:Int):Prop:=(-(2 ^ 64)<i∧i<2 ^ 64)∨(-(2 ^ 64)<j∧j<2 ^ 64)
theorem CMul.ok {i j:Int} (h:CMul i j):IntMulOk i j:=by
 rcases h with⟨h1,h2⟩ | ⟨h1,h2⟩
 ·exact .of_left (intBits_le_64 h1 h2)
 ·exact .of_right (intBits_le_64 h1 h2)
theorem op_add:OpR X (binaryOp .Add) (rI0 fun i j=>.int (i+j)):=opI0 fun _ _ _ _ _ _ _ q=>add_int q
theorem op_sub:OpR X (binaryOp .Sub) (rI0 fun i j=>.int (i - j)):=opI0 fun _ _ _ _ _ _ _ q=>sub_int q
theorem tM:OpR X (binaryOp .Mult) (rI CMul fun i j=>.int (i * j)):=opI fun _ _ _ _ _ _ _ hc q=>mul_int q hc.ok
theorem op_fdiv:OpR X (binaryOp .FloorDiv) (rI CDiv fun i j=>.int (i / j)):=opI fun i j _ _ _ _ _ hc q=>by
 have h1:(0:Int)<j:=hc.1
 have h2:j<1073741824:=hc.2
 exact floordiv_int (by lia) (by rw [Int.fdiv_eq_ediv_of_nonneg i (by lia)]; exact q) (.inl (PyProof.noPylong_small (by lia)))
theorem op_mod:OpR X (binaryOp .Mod) (rI (fun _ j=>0<j) fun i j=>.int (i % j)):=opI fun i j _ _ _ _ _ hc q=>by
 have h1:(0:Int)<j:=hc
 exact mod_int' (by lia) (by rw [Int.fmod_eq_emod_of_nonneg i (by lia)]; exact q)
theorem ah_:OpR X (binaryOp .Pow) (rI aqY fun i j=>.int (i ^ j.toNat)):=opI fun _ _ _ _ _ _ _ hc q=>pow_int_small hc.1 hc.2.1 hc.2.2 q
theorem unI {f:Value→Sem Value}{g:Int→Int}
  (rule:∀ (i:Int) (t:Tok) (s:Shared) (Q:Value→Shared→Prop) (E:Value→Shared→Prop),Q (.int (g i) s.toks) { s with toks:=s.toks+1 }→wpAny (model X.prog X.w) X.A (f (.int i t)) Q E s) :
  UnR X f (rU fun i=>.int (g i)):=by
 intro pins s σ H x v Q I rx h
 obtain⟨i,rfl,q⟩:=h
 obtain⟨t,rfl⟩:=rx
 exact rule i t s _ _ ⟨.int (g i),H,I.tok _,⟨_,rfl⟩,q⟩
theorem vI:UnR X (unaryOp .USub) (rU fun i=>.int (-i)):=unI fun _ _ _ _ _ q=>neg_int q
end
def scal:V→V→Bool
 | .non,.non=>true | .non,.int _=>true | .int _,.non=>true | .non,.bl _=>true | .bl _,.non=>true | .non,.str _=>true | .str _,.non=>true
 | .int _,.int _=>true | .bl _,.bl _=>true | .str _,.str _=>true | .byt _,.byt _=>true
 | .int _,.str _=>true | .str _,.int _=>true | .bl _,.str _=>true | .str _,.bl _=>true
 | _,_=>false
def rEq:R2:=fun x y H Q=>scal x y=true∧Q (.bl (decide (x=y))) H
def rNe:R2:=fun x y H Q=>scal x y=true∧Q (.bl (!decide (x=y))) H
theorem dec_int {i j:Int}:decide (V.int i=V.int j)=(i == j):=by
 rw [Bool.eq_iff_iff]
 simp
theorem dec_bl {i j:Bool}:decide (V.bl i=V.bl j)=(i == j):=by
 rw [Bool.eq_iff_iff]
 simp
theorem dec_str {i j:Str}:decide (V.str i=V.str j)=(i == j):=by
 rw [Bool.eq_iff_iff]
 simp
theorem dec_byt {i j:Array UInt8}:decide (V.byt i=V.byt j)=(i.toList == j.toList):=by
 rw [Bool.eq_iff_iff]
 cases i
 cases j
 simp
section
variable {X:Cx}{a b c:Expr}{ta tb tc:TE}{pos:Pos}
theorem fin_bl {pins:List (Addr×Obj)}{σ:St}{H:Hp}{s:Shared}{Q:VK}{k k':Bool} (I:Inv X pins σ H s) (q:Q (.bl k) H) (e:k=k'):EP X pins σ Q (.bool k') s:=by
 subst e
 exact⟨.bl k,H,I,rfl,q⟩
theorem op_eq:OpR X (compareOp .Eq) rEq:=by
 intro pins s σ H x y v u Q I rx ry h
 obtain⟨hs,q⟩:=h
 cases x with
 | non =>
  cases rx
  cases y with
  | non=>cases ry; exact PySem.EqNone.eq_none_none (fin_bl I q (by simp))
  | bl j=>cases ry; exact PySem.EqNone.eq_none_bool (fin_bl I q (by simp))
  | int j=>obtain⟨t',rfl⟩:=ry; exact PySem.EqNone.eq_none_int (fin_bl I q (by simp))
  | str j=>obtain⟨t',rfl⟩:=ry; exact PySem.EqNone.eq_none_str (fin_bl I q (by simp))
  | _=>exact absurd (show false=true from hs) Bool.false_ne_true
 | bl i =>
  cases rx
  cases y with
  | non=>cases ry; exact PySem.EqNone.eq_bool_none (fin_bl I q (by simp))
  | bl j=>cases ry; exact eq_bool (fin_bl I q dec_bl)
  | str j=>obtain⟨t',rfl⟩:=ry; exact PySem.EqMixed.eq_bool_str (fin_bl I q (by simp))
  | _=>exact absurd (show false=true from hs) Bool.false_ne_true
 | int i =>
  obtain⟨t,rfl⟩:=rx
  cases y with
  | non=>cases ry; exact PySem.EqNone.eq_int_none (fin_bl I q (by simp))
  | int j=>obtain⟨t',rfl⟩:=ry; exact eq_int (fin_bl I q dec_int)
  | str j=>obtain⟨t',rfl⟩:=ry; exact PySem.EqMixed.eq_int_str (fin_bl I q (by simp))
  | _=>exact absurd (show false=true from hs) Bool.false_ne_true
 | str i =>
  obtain⟨t,rfl⟩:=rx
  cases y with
  | non=>cases ry; exact PySem.EqNone.eq_str_none (fin_bl I q (by simp))
  | bl j=>cases ry; exact PySem.EqMixed.eq_str_bool (fin_bl I q (by simp))
  | int j=>obtain⟨t',rfl⟩:=ry; exact PySem.EqMixed.eq_str_int (fin_bl I q (by simp))
  | str j=>obtain⟨t',rfl⟩:=ry; exact eq_str (fin_bl I q dec_str)
  | _=>exact absurd (show false=true from hs) Bool.false_ne_true
 | byt i =>
  obtain⟨t,rfl⟩:=rx
  cases y with
  | byt j=>obtain⟨t',rfl⟩:=ry; exact PySem.W.eq_bytes (fin_bl I q dec_byt)
  | _=>exact absurd (show false=true from hs) Bool.false_ne_true
 | _=>cases y <;> exact absurd (show false=true from hs) Bool.false_ne_true
theorem op_ne:OpR X (compareOp .NotEq) rNe:=by
 intro pins s σ H x y v u Q I rx ry h
 obtain⟨hs,q⟩:=h
 cases x with
 | non =>
  cases rx
  cases y with
  | non=>cases ry; exact PySem.EqNone.ne_none_none (fin_bl I q (by simp))
  | bl j=>cases ry; exact PySem.EqNone.ne_none_bool (fin_bl I q (by simp))
  | int j=>obtain⟨t',rfl⟩:=ry; exact PySem.EqNone.ne_none_int (fin_bl I q (by simp))
  | str j=>obtain⟨t',rfl⟩:=ry; exact PySem.EqNone.ne_none_str (fin_bl I q (by simp))
  | _=>exact absurd (show false=true from hs) Bool.false_ne_true
 | bl i =>
  cases rx
  cases y with
  | non=>cases ry; exact PySem.EqNone.ne_bool_none (fin_bl I q (by simp))
  | bl j=>cases ry; exact ne_bool (fin_bl I q (congrArg not dec_bl))
  | str j=>obtain⟨t',rfl⟩:=ry; exact PySem.EqMixed.ne_bool_str (fin_bl I q (by simp))
  | _=>exact absurd (show false=true from hs) Bool.false_ne_true
 | int i =>
  obtain⟨t,rfl⟩:=rx
  cases y with
  | non=>cases ry; exact PySem.EqNone.ne_int_none (fin_bl I q (by simp))
  | int j=>obtain⟨t',rfl⟩:=ry; exact ne_int (fin_bl I q (congrArg not dec_int))
  | str j=>obtain⟨t',rfl⟩:=ry; exact PySem.EqMixed.ne_int_str (fin_bl I q (by simp))
  | _=>exact absurd (show false=true from hs) Bool.false_ne_true
 | str i =>
  obtain⟨t,rfl⟩:=rx
  cases y with
  | non=>cases ry; exact PySem.EqNone.ne_str_none (fin_bl I q (by simp))
  | bl j=>cases ry; exact PySem.EqMixed.ne_str_bool (fin_bl I q (by simp))
  | int j=>obtain⟨t',rfl⟩:=ry; exact PySem.EqMixed.ne_str_int (fin_bl I q (by simp))
  | str j=>obtain⟨t',rfl⟩:=ry; exact ne_str (fin_bl I q (congrArg not dec_str))
  | _=>exact absurd (show false=true from hs) Bool.false_ne_true
 | byt i =>
  obtain⟨t,rfl⟩:=rx
  cases y with
  | byt j=>obtain⟨t',rfl⟩:=ry; exact PySem.W.ne_bytes (fin_bl I q (congrArg not dec_byt))
  | _=>exact absurd (show false=true from hs) Bool.false_ne_true
 | _=>cases y <;> exact absurd (show false=true from hs) Bool.false_ne_true
theorem Ow:OpR X (compareOp .Lt) (rI0 fun i j=>.bl (decide (i<j))):=opB0 fun _ _ _ _ _ _ _ q=>lt_int q
theorem akm:OpR X (compareOp .LtE) (rI0 fun i j=>.bl (decide (i≤j))):=opB0 fun _ _ _ _ _ _ _ q=>le_int q
theorem wY:OpR X (compareOp .Gt) (rI0 fun i j=>.bl (decide (j<i))):=opB0 fun _ _ _ _ _ _ _ q=>gt_int q
theorem ac_:OpR X (compareOp .Is) (fun x y H Q=>y=.non∧Q (.bl (decide (x=.non))) H):=by
 intro pins s σ H x y v u Q I rx ry h
 obtain⟨rfl,q⟩:=h
 cases ry
 refine is_none_gen (fin_bl I q ?_)
 cases x <;> first
  | (cases rx; rfl)
  | (obtain⟨t,rfl⟩:=rx; rfl)
theorem nomark (b:Expr) {op:CmpOp} (h:op≠.In:=by decide) (h2:op≠.NotIn:=by decide):behindInMarks op b=false:=by
 have e1:(op == CmpOp.In)=false:=by cases op <;> first | rfl | exact absurd rfl h
 have e2:(op == CmpOp.NotIn)=false:=by cases op <;> first | rfl | exact absurd rfl h2
 cases b <;> simp [behindInMarks,e1,e2]
theorem pe_cmpR {op:CmpOp}{r:R2} (ho:OpR X (compareOp op) r) (ha:PE X a ta) (hb:PE X b tb) (hm:behindInMarks op b=false):PE X (.Compare a [op] [b] pos) (tOp r ta tb):=by
 intro pins s σ H Q I h
 exact wpAny_Compare1 (binT ha hb I h fun v u s2 x y H2 I2 rx ry q=>ho pins s2 σ H2 x y v u Q I2 rx ry q) hm
def tTest (t:TE):TT:=fun σ H Q=>t σ H fun x H'=>∃ k,x=.bl k∧Q k H'
theorem pt_cmpR {op:CmpOp}{r:R2} (ho:OpR X (compareOp op) r) (ha:PE X a ta) (hb:PE X b tb) (hm:behindInMarks op b=false):PT X (.Compare a [op] [b] pos) (tTest (tOp r ta tb)):=by
 intro pins s σ H Q I h
 refine wpAny_isTrue_Compare1 (thn (ha pins s σ H _ I h) fun v s1 ⟨x,H1,I1,r1,q1⟩=>thn (hb pins s1 σ H1 _ I1 q1) fun u s2 ⟨y,H2,I2,r2,q2⟩ =>
  thn (ho pins s2 σ H2 x y v u _ I2 r1 r2 q2) fun c s3 ⟨z,H3,I3,r3,k,e,q3⟩=>?_) hm
 subst e
 cases r3
 exact wpAny_truthy_bool ⟨H3,I3,q3⟩
def Yd (K:PySem.W.Frag) (x:V) (H:Hp) (k:Bool):Prop :=
 match x with
 | .non=>k=false
 | .bl b=>k=b
 | .int i=>k=(i != 0)
 | .str y=>y.length≤sizeLine∧k=((y.length:Int) != 0)
 | .byt y=>y.size≤sizeLine∧k=((y.size:Int) != 0)
 | .ref p=>(∃ xs,SqL K H p xs∧k=!xs.isEmpty)∨(∃ xs,SqT K H p xs∧k=!xs.isEmpty)∨∃ kvs,H p=some (.dK kvs)∧k=!kvs.isEmpty
 | _=>False
theorem abw {κ:Type}{kvs:List (κ×V)}{vs:List (κ×Value)} (r:KV kvs vs):(!vs.isEmpty)=!kvs.isEmpty:=by
 cases r <;> rfl
theorem Pq {xs:List V}{its:List Value} (r:Vals xs its):(!its.toArray.isEmpty)=!xs.isEmpty:=by
 cases r <;> simp
theorem line63:(sizeLine:Nat)<2 ^ 63:=by rw [sizeLine_eq]; decide
theorem acH:aqU X (fun x H Q=>∃ k,Yd X.K x H k∧Q k H):=by
 intro pins s σ H x v Q I rx h
 obtain⟨k,e,q⟩:=h
 have hl:=line63
 have hs:sizeLine=16777216:=sizeLine_eq
 cases x with
 | non =>
  cases rx
  have e':k=false:=e
  subst e'
  exact truthy_none ⟨H,I,q⟩
 | bl b =>
  cases rx
  have e':k=b:=e
  subst e'
  exact wpAny_truthy_bool ⟨H,I,q⟩
 | int i =>
  obtain⟨t,rfl⟩:=rx
  have e':k=(i != 0):=e
  subst e'
  exact PySem.P.truthy_int ⟨H,I,q⟩
 | str y =>
  obtain⟨t,rfl⟩:=rx
  obtain⟨hy,e'⟩:y.length≤sizeLine∧k=((y.length:Int) != 0):=e
  subst e'
  exact PySem.P.truthy_str (by lia) ⟨H,I.tok _,q⟩
 | byt y =>
  obtain⟨t,rfl⟩:=rx
  obtain⟨hy,e'⟩:y.size≤sizeLine∧k=((y.size:Int) != 0):=e
  subst e'
  exact PySem.W.truthy_bytes (by lia) ⟨H,I.tok _,q⟩
 | ref p =>
  cases rx
  have e':(∃ xs,SqL X.K H p xs∧k=!xs.isEmpty)∨(∃ xs,SqT X.K H p xs∧k=!xs.isEmpty)∨∃ kvs,H p=some (.dK kvs)∧k=!kvs.isEmpty:=e
  rcases e' with⟨xs,hx,e'⟩ | ⟨xs,hx,e'⟩ | ⟨kvs,hx,e'⟩
  ·subst e'
   obtain⟨its,r,pl,hz⟩:=I.list hx
   have hlen:=r.length
   exact wpAny_truthy_list pl.isList (by simp only [List.size_toArray]; lia) ⟨H,I.tok _,by rw [Pq r]; exact q⟩
  ·subst e'
   obtain⟨its,r,pl,hz⟩:=I.tuple hx
   have hlen:=r.length
   exact truthy_tuple pl (by simp only [List.size_toArray]; lia) ⟨H,I.tok _,by rw [Pq r]; exact q⟩
  ·subst e'
   obtain⟨hz,hS,vs,r,m⟩:kvs.length≤sizeLine∧(p == sysModules)=false∧∃ vs,KV kvs vs∧s.heap.DictOf (mixKind X.prog X.w) p vs:=I.hok p _ hx
   have hlen:kvs.length=vs.length:=Paired.length r
   exact wpAny_truthy_dict hS m (by lia) ⟨H,I.tok _,by rw [abw r]; exact q⟩
 | _=>exact (show False from e).elim
theorem aeM (ha:PE X a ta) (he:∀ whole,isTrue a X.env whole=(do let v ← whole; standAt a.pos; holding [v] (truthy v))) :
  PT X a (fun σ H Q=>ta σ H fun x H'=>∃ k,Yd X.K x H' k∧Q k H'):=by
 intro pins s σ H Q I h
 exact isTrue_plain (thn (ha pins s σ H _ I h) fun v s1 ⟨x,H1,I1,r1,q1⟩=>acH pins s1 σ H1 x v Q I1 r1 q1) (he _)
theorem vals1 {x:V}{us:List Value} (r:Vals [x] us):∃ u,us=[u]∧RelV x u:=by
 cases r with
 | cons r1 r2=>cases r2; exact⟨_,rfl,r1⟩
theorem vals2 {x y:V}{us:List Value} (r:Vals [x,y] us):∃ u w',us=[u,w']∧RelV x u∧RelV y w':=by
 cases r with
 | cons r1 r2 =>
  cases r2 with
  | cons r3 r4=>cases r4; exact⟨_,_,rfl,r1,r3⟩
theorem Ir (hc:X.calm=true):CallR X (.builtin "min") (fun xs H Q=>∃ i j,xs=[.int i,.int j]∧Q (.int (if j<i then j else i)) H):=by
 intro pins s σ H xs us Q I r h
 obtain⟨i,j,rfl,q⟩:=h
 obtain⟨u,w',rfl,⟨t,rfl⟩,⟨t',rfl⟩⟩:=vals2 r
 refine min_two_ints (I.ok.hd hc) fun h' tk k=>⟨_,H,I.kept k,?_,q⟩
 by_cases hj:j<i
 ·rw [if_pos hj,if_pos hj]; exact⟨_,rfl⟩
 ·rw [if_neg hj,if_neg hj]; exact⟨_,rfl⟩
theorem adM:CallR X (.type "int") (fun xs H Q=>(∃ i,xs=[.int i]∧Q (.int i) H)∨∃ k,xs=[.bl k]∧Q (.int (if k then 1 else 0)) H):=by
 intro pins s σ H xs us Q I r h
 rcases h with⟨i,rfl,q⟩ | ⟨k,rfl,q⟩
 ·obtain⟨u,rfl,t,rfl⟩:=vals1 r
  exact call_int_int ⟨.int i,H,I,⟨_,rfl⟩,q⟩
 ·obtain⟨u,rfl,r1⟩:=vals1 r
  cases r1
  exact call_int_bool ⟨.int (if k then 1 else 0),H,I.tok _,⟨_,rfl⟩,q⟩
end
end L2
namespace L2
open PySem PySem.Spec PyProof.Rows
structure ObjM (h:Heap) (x dx C:Addr) (mA:Str→Option Value):Prop where
 obj:h.get? x=some (PySem.W.instObj C dx)
 ns:h.Ns1 dx mA
 ne:dx≠x
theorem lookIn_ns {h:Heap}{dx:Addr}{mA:Str→Option Value} (n:h.Ns1 dx mA):∃ od,h.get? dx=some od∧∀ name,PySem.W.lookIn name od=some (mA name):=by
 obtain⟨o,es,ep,ho,hd,hk,_,hm⟩:=n
 refine⟨o,ho,fun name=>?_⟩
 have e:=hm name
 unfold nsFind findBy at e
 rw [← Array.find?_toList] at e
 unfold PySem.W.lookIn
 rw [hd]
 dsimp only
 split
 ·rename_i y q
  rw [q] at e
  exact congrArg some e
 ·rename_i q
  rw [q] at e
  have a:es.toList.any (·.refKey)=false:=by
   rw [List.any_eq_false]
   intro y hy
   obtain⟨z,t,hkey⟩:=hk y (Array.mem_toList_iff.mp hy)
   simp [DictEntry.refKey,hkey]
  have a':¬ es.toList.any (·.refKey)=true:=by rw [a]; exact Bool.false_ne_true
  rw [if_neg a']
  exact congrArg some e
theorem ObjM.look {h:Heap}{x dx C:Addr}{mA:Str→Option Value} (I:ObjM h x dx C mA):∃ od,PySem.W.InstAt h x (PySem.W.instObj C dx) C (some od)∧∀ name,PySem.W.lookIn name od=some (mA name) :=
 let ⟨od,ho,hl⟩:=lookIn_ns I.ns
 ⟨od,⟨I.obj,rfl,rfl,ho⟩,hl⟩
section
variable {prog:Program}{w:World}{A:Around}{E:Value→Shared→Prop}{s:Shared}{K:PySem.W.Frag}{x dx C f:Addr}{mA:Str→Option Value}{name:Str}{v:Value}
theorem get_map {expr:Bool}{Q:Value→Shared→Prop} (X:K.In s.heap) (I:ObjM s.heap x dx C mA) (hg:PySem.W.plainGet K C name=true) (hh:PySem.W.hasDictIn K C=true)
  (ha:PySem.W.findIn K (.ref C) name=some none) (hv:mA name=some v) (hv':PySem.W.handedIn v=true) (h:Q v { s with toks:=s.toks+1 }) :
  wpAny (model prog w) A (getAttr (.ref x) name expr) Q E s:=by
 obtain⟨od,J,hl⟩:=I.look
 exact PySem.W.get_value X J (PySem.W.plainGet_of hg).1 (PySem.W.findObj_own hh ha rfl (by rw [hl,hv])) hv' h
theorem get_meth {pl:Sem Bool}{Q:Value×List Value→Shared→Prop} (X:K.In s.heap) (I:ObjM s.heap x dx C mA) (hg:PySem.W.plainGet K C name=true)
  (hf:PySem.W.findIn K (.ref C) name=some (some (.ref f))) (ht:PySem.W.isFn K (.ref f)=true) (hv:mA name=none) (h:Q (.ref f,[.ref x]) s) :
  wpAny (model prog w) A (getMethod (.ref x) name pl) Q E s:=by
 obtain⟨od,J,hl⟩:=I.look
 exact PySem.W.method_fn X J (PySem.W.plainGet_of hg).1 (PySem.W.plainGet_of hg).2 hf (beq_iff_eq.mp ht) (by show (PySem.W.lookIn name od).map (·.isSome)=some false; rw [hl,hv]; rfl) h
theorem set_map {ns:List Str}{Q:Unit→Shared→Prop} (X:K.In s.heap) (I:ObjM s.heap x dx C mA)
  (hs:PySem.W.findIn K (.ref C) "__setattr__"=some (some (.builtin "object.__setattr__"))) (hp:PySem.W.plainOver K C=true) (ht:PySem.W.takerIn K C name=some none) (hh:PySem.W.hasDictIn K C=true)
  (hw:PySem.Within mA ns) (hsz:ns.length≤sizeLine)
  (h:∀ h',ObjM h' x dx C (fun y=>if y=name then some v else mA y)→Heap.SameBut dx s.heap h'→Q () { s with heap:=h',toks:=s.toks+2 }) :
  wpAny (model prog w) A (setAttr (.ref x) name v) Q E s:=by
 obtain⟨od,J,hl⟩:=I.look
 refine PySem.W.set_plain X J hs (PySem.W.osa_open (s:={ s with toks:=s.toks+1 }) (r:=none) X J hp ht fun b=>?_)
 obtain⟨cd,hc,hd'⟩:=PySem.W.any_some hh
 have hx:s.heap.get? x=some ⟨.ref C,some dx,.plain,#[]⟩:=I.obj
 refine wpAny_bind (wpAny_pure (wpAny_bind (wpAny_bind (wpAny_loadPart hx (wpAny_bind (PySem.W.Looks.here (s:={ s with toks:=s.toks+1 }) (PySem.W.looks_clsIn X hc) ?_))))))
 rw [hd']
 refine wpAny_pure (a:=some dx) (wpAny_bind (wpAny_pure (wpAny_bind ?_)))
 refine wpAny_nsSet1 (s:={ s with toks:=s.toks+1 }) I.ns fun h' hn2 hs2=>?_
 obtain⟨oD,esD,epD,hoD,hdD,hcD⟩:=hn2.count (PySem.Within.cons name v hw)
 refine wpAny_bind (wpAny_lookBehind hoD (by rw [hdD]; exact pastItsLine_dict (Nat.le_trans hcD (by rw [List.length_cons]; lia))) ?_)
 exact wpAny_pure (h _ ⟨(hs2.2 _ (Ne.symm I.ne)).trans I.obj,hn2,I.ne⟩ hs2)
theorem make_map {R:Result→Shared→Prop}{vs:List Value}{kw:List (Str×Value)} (X:K.In s.heap) (hm:PySem.W.makesIn K C=true)
  (hi:PySem.W.findIn K (.ref C) "__init__"=some (some (.ref f))) (hf:PySem.W.typeIn K (.ref f)=some (.type "function"))
  (h:codeAny (model prog w) (A.under (.builtin "type.__call__" ⟨.ref C::vs,kw⟩)) (.call (.ref f) ⟨.ref (s.heap.objs.size+1)::vs,kw⟩) (PySem.W.InitBack (s.heap.objs.size+1) R)
   { s with heap:=(s.heap.push PySem.W.emptyDict).push (PySem.W.instObj C s.heap.objs.size) }) :
  codeAny (model prog w) A (.call (.ref C) ⟨vs,kw⟩) R s:=by
 obtain⟨hh,g,d,t,os⟩:=s
 exact PySem.W.make_core (PySem.W.makes_of X hm) (PySem.W.looks_findIn X hi) (fun self=>PySem.W.bind_fn X self hf) (.inl rfl) h
end
def putF (f:Str) (v:V):List (Str×V)→List (Str×V)
 | []=>[(f,v)]
 | (g,x)::r=>if g=f then (g,v)::r else (g,x)::putF f v r
theorem lookup_putF (f g:Str) (v:V):∀ fs:List (Str×V),(putF f v fs).lookup g=if g=f then some v else fs.lookup g
 | []=>by
  show List.lookup g [(f,v)]=_
  by_cases h:g=f
  ·have hb:(g == f)=true:=beq_iff_eq.mpr h
   simp only [List.lookup,hb,if_pos h]
  ·have hb:(g == f)=false:=beq_eq_false_iff_ne.mpr h
   simp only [List.lookup,hb,if_neg h]
 | (k,x)::r=>by
  have ih:=lookup_putF f g v r
  rw [show putF f v ((k,x)::r)=(if k=f then (k,v)::r else (k,x)::putF f v r) from rfl]
  by_cases hk:k=f
  ·rw [if_pos hk]
   by_cases h:g=k
   ·have hb:(g == k)=true:=beq_iff_eq.mpr h
    simp only [List.lookup,hb,if_pos (h.trans hk)]
   ·have hb:(g == k)=false:=beq_eq_false_iff_ne.mpr h
    simp only [List.lookup,hb,if_neg (fun e:g=f=>h (e.trans hk.symm))]
  ·rw [if_neg hk]
   by_cases h:g=k
   ·have hb:(g == k)=true:=beq_iff_eq.mpr h
    simp only [List.lookup,hb,if_neg (fun e:g=f=>hk (h.symm.trans e))]
   ·have hb:(g == k)=false:=beq_eq_false_iff_ne.mpr h
    simp only [List.lookup,hb]
    exact ih
theorem keys_putF (f:Str) (v:V):∀ fs:List (Str×V),f∈(putF f v fs).map (·.1)∧∀ g,g∈fs.map (·.1)→g∈(putF f v fs).map (·.1)
 | []=>⟨by simp [putF],fun g h=>by simp at h⟩
 | (k,x)::r=>by
  obtain⟨i1,i2⟩:=keys_putF f v r
  rw [show putF f v ((k,x)::r)=(if k=f then (k,v)::r else (k,x)::putF f v r) from rfl]
  by_cases hk:k=f
  ·rw [if_pos hk]
   subst hk
   exact⟨by simp,fun g h=>by simpa using h⟩
  ·rw [if_neg hk]
   refine⟨?_,fun g h=>?_⟩
   ·rw [List.map_cons]
    exact List.mem_cons_of_mem _ i1
   ·rw [List.map_cons] at h ⊢
    rcases List.mem_cons.mp h with e | e
    ·exact List.mem_cons.mpr (.inl e)
    ·exact List.mem_cons_of_mem _ (i2 g e)
theorem length_putF (f:Str) (v:V):∀ fs:List (Str×V),(putF f v fs).length≤fs.length+1
 | []=>by simp [putF]
 | (k,x)::r=>by
  have ih:=length_putF f v r
  rw [show putF f v ((k,x)::r)=(if k=f then (k,v)::r else (k,x)::putF f v r) from rfl]
  by_cases hk:k=f
  ·rw [if_pos hk,List.length_cons,List.length_cons]; lia
  ·rw [if_neg hk,List.length_cons,List.length_cons]; lia
theorem RelO.some_of {v:V}{o:Option Value} (r:RelO (some v) o):∃ u,o=some u∧RelV v u:=by
 cases o with
 | none=>exact (show False from r).elim
 | some u=>exact⟨u,rfl,r⟩
theorem RelO.none_of {o:Option Value} (r:RelO none o):o=none:=by
 cases o with
 | none=>rfl
 | some u=>exact (show False from r).elim
theorem handed_of {v:V}{u:Value} (r:RelV v u):PySem.W.handedIn u=true:=by
 cases v with
 | non=>cases (show u=Value.none from r); rfl
 | bl b=>cases (show u=Value.bool b from r); rfl
 | int i=>obtain⟨t,e⟩:=(show ∃ t,u=Value.int i t from r); cases e; rfl
 | str x=>obtain⟨t,e⟩:=(show ∃ t,u=Value.str x t from r); cases e; rfl
 | byt b=>obtain⟨t,e⟩:=(show ∃ t,u=Value.bytes b t from r); cases e; rfl
 | flt b=>obtain⟨t,e⟩:=(show ∃ t,u=Value.float b t from r); cases e; rfl
 | ref a=>cases (show u=Value.ref a from r); rfl
 | ty n=>cases (show u=Value.type n from r); rfl
section
variable {P:Program}{w:World}{H H':Hp}{h h':Heap}{a C dx:Addr}{fs fs':List (Str×V)}
theorem ins_get (hok:HOk P w H h) (e:H a=some (.ins C dx fs)):∃ mA,ObjM h a dx C mA∧(∀ f,RelO (fs.lookup f) (mA f))∧PySem.Within mA (fs.map (·.1))∧fs.length≤1000∧H dx=some (.own a):=by
 obtain⟨d,z,ne,ob,mA,n,r,q⟩:=(show ObjOk P w H h a (.ins C dx fs) from hok a _ e)
 exact⟨mA,⟨ob,n,ne⟩,r,q,z,d⟩
end
structure Cls (K:PySem.W.Frag) (C:Addr):Prop where
 pg:PySem.W.plainGet K C Str.empty=true
 hd:PySem.W.hasDictIn K C=true
 po:PySem.W.plainOver K C=true
 sa:PySem.W.findIn K (.ref C) "__setattr__"=some (some (.builtin "object.__setattr__"))
theorem Cls.get {K:PySem.W.Frag}{C:Addr} (c:Cls K C) (f:Str):PySem.W.plainGet K C f=true:=c.pg
def NoAttr (K:PySem.W.Frag) (C:Addr) (f:Str):Prop:=PySem.W.findIn K (.ref C) f=some none
theorem NoAttr.taker {K:PySem.W.Frag}{C:Addr}{f:Str} (n:NoAttr K C f):PySem.W.takerIn K C f=some none:=by
 unfold PySem.W.takerIn
 rw [show PySem.W.findIn K (.ref C) f=some none from n]
 rfl
structure Meth (K:PySem.W.Frag) (C:Addr) (m:Str) (f:Addr):Prop where
 at_:PySem.W.findIn K (.ref C) m=some (some (.ref f))
 fn:PySem.W.isFn K (.ref f)=true
 kp:PySem.W.keepIn K (.ref f)=true
section
variable {X:Cx}{pins:List (Addr×Obj)}{σ:St}{H:Hp}{s:Shared}{a C dx:Addr}{fs:List (Str×V)}{f:Str}{v:V}{A:Around}{E:Value→Shared→Prop}
theorem getattr_ok {b:Bool}{Q:Value→Shared→Prop} (I:Inv X pins σ H s) (e:H a=some (.ins C dx fs)) (c:Cls X.K C) (n:NoAttr X.K C f) (l:fs.lookup f=some v)
  (h:∀ u s',Inv X pins σ H s'→RelV v u→Q u s'):wpAny (model X.prog X.w) A (getAttr (.ref a) f b) Q E s:=by
 obtain⟨mA,O,r,_,_,_⟩:=ins_get I.hok e
 obtain⟨u,hu,ru⟩:=RelO.some_of (v:=v) (o:=mA f) (by rw [← l]; exact r f)
 exact get_map I.kIn O (c.get f) c.hd n hu (handed_of ru) (h u _ (I.tok _) ru)
theorem getmeth_ok {m:Str}{g:Addr}{pl:Sem Bool}{Q:Value×List Value→Shared→Prop} (I:Inv X pins σ H s) (e:H a=some (.ins C dx fs)) (c:Cls X.K C) (k:Meth X.K C m g) (l:fs.lookup m=none)
  (h:Q (.ref g,[.ref a]) s):wpAny (model X.prog X.w) A (getMethod (.ref a) m pl) Q E s:=by
 obtain⟨mA,O,r,_,_,_⟩:=ins_get I.hok e
 have hn:mA m=none:=RelO.none_of (by rw [← l]; exact r m)
 exact get_meth I.kIn O (c.get m) k.at_ k.fn hn h
theorem setattr_ok {y:V}{u:Value}{Q:Unit→Shared→Prop} (I:Inv X pins σ H s) (e:H a=some (.ins C dx fs)) (c:Cls X.K C) (n:NoAttr X.K C f) (hl:fs.length<1000) (ry:RelV y u)
  (h:∀ s',Inv X pins σ (upd H a (.ins C dx (putF f y fs))) s'→Q () s'):wpAny (model X.prog X.w) A (setAttr (.ref a) f u) Q E s:=by
 obtain⟨mA,O,r,wi,_,ho⟩:=ins_get I.hok e
 have hz:(fs.map (·.1)).length≤sizeLine:=by rw [List.length_map,sizeLine_eq]; lia
 refine set_map I.kIn O c.sa c.po n.taker c.hd wi hz fun h' O' sb=>h _ ?_
 have hd:∃ o,h'.get? dx=some o:=let ⟨o,_,_,e',_⟩:=O'.ns; ⟨o,e'⟩
 refine I.write (x:=a) (e:=dx) (by rw [e]; exact True.intro) (.inr ho) (fun b q hb z=>(sb.2 b hb).trans z) hd ?_
 refine⟨by rw [upd_ne O.ne]; exact ho,?_,O.ne,O'.obj,_,O'.ns,fun g=>?_,fun g hg=>?_⟩
 ·have:=length_putF f y fs; lia
 ·show RelO ((putF f y fs).lookup g) (if g=f then some u else mA g)
  rw [lookup_putF]
  by_cases q:g=f
  ·rw [if_pos q,if_pos q]; exact ry
  ·rw [if_neg q,if_neg q]; exact r g
 ·by_cases q:g=f
  ·rw [q]; exact (keys_putF f y fs).1
  ·refine (keys_putF f y fs).2 g (wi g fun z=>hg ?_)
   show (if g=f then some u else mA g)=none
   rw [if_neg q]; exact z
theorem Inv.made (I:Inv X pins σ H s):Inv X pins σ (upd (upd H s.heap.objs.size (.own (s.heap.objs.size+1))) (s.heap.objs.size+1) (.ins C s.heap.objs.size []))
  { s with heap:=(s.heap.push PySem.W.emptyDict).push (PySem.W.instObj C s.heap.objs.size) }:=by
 have e1:(s.heap.push PySem.W.emptyDict).get? s.heap.objs.size=some PySem.W.emptyDict:=Heap.get?_push_size s.heap rfl
 have e2:((s.heap.push PySem.W.emptyDict).push (PySem.W.instObj C s.heap.objs.size)).get? (s.heap.objs.size+1)=some (PySem.W.instObj C s.heap.objs.size):=by
  have:=Heap.get?_push_size (s.heap.push PySem.W.emptyDict) (o:=PySem.W.instObj C s.heap.objs.size) rfl
  rwa [Heap.size_push] at this
 have e3:(s.heap.push PySem.W.emptyDict).Ns s.heap.objs.size (fun _=>none):=⟨PySem.W.emptyDict,#[],_,e1,rfl,(fun e he=>absurd he (by simp)),fun _=>rfl⟩
 have I1:=I.laid (a:=s.heap.objs.size) (o:=.own (s.heap.objs.size+1)) (h':=s.heap.push PySem.W.emptyDict) (t':=s.toks) (fun b u q=>Heap.get?_push_of_some _ q) (Nat.le_refl _) ⟨_,e1⟩
 refine I1.laid (a:=s.heap.objs.size+1) (o:=.ins C s.heap.objs.size []) (t':=s.toks) (fun b u q=>Heap.get?_push_of_some _ q) (Nat.le_of_eq (Heap.size_push _ _)) ?_
 have ne:s.heap.objs.size≠s.heap.objs.size+1:=Nat.ne_of_lt (Nat.lt_succ_self _)
 refine⟨by rw [upd_ne ne,upd_same],Nat.zero_le _,ne,e2,fun _=>none,(Heap.Ns1.of_empty e3).at fun o q=>Heap.get?_push_of_some _ q,fun _=>True.intro,fun y hy=>absurd rfl hy⟩
theorem attr_of {prog:Program}{w:World}{env:Env}{e:Expr}{f:Str}{pos:Pos}{s:Shared}{Q:Value→Shared→Prop} (hb:attributeBase e f env (eval e env)=eval e env)
  (h:wpAny (model prog w) A (eval e env) (fun o s₁=>wpAny (model prog w) A (getAttr o f true) Q E s₁) E s):wpAny (model prog w) A (eval (.Attribute e f pos) env) Q E s :=
 Attribute_any_ h (by rw [arm_eval_Attribute,hb])
end
def tFld (K:PySem.W.Frag) (ta:TE) (f:Str):TE:=fun σ H Q=>ta σ H fun x H1=>∃ a C dx fs v,x=.ref a∧H1 a=some (.ins C dx fs)∧Cls K C∧NoAttr K C f∧fs.lookup f=some v∧Q v H1
def sFld (K:PySem.W.Frag) (ta tv:TE) (f:Str):TS:=fun D σ H=>tv σ H fun y H1=>ta σ H1 fun x H2=>∃ a C dx fs,x=.ref a∧H2 a=some (.ins C dx fs)∧Cls K C∧NoAttr K C f∧fs.length<1000 ∧
 D.nx σ (upd H2 a (.ins C dx (putF f y fs)))
def acf (X:Cx) (op:Operator) (rd:V→V→Hp→VK→Prop):Prop :=
 ∀ (pins:List (Addr×Obj)) (s:Shared) (σ:St) (H:Hp) (x y:V) (u v:Value) (Q:VK),Inv X pins σ H s→RelV x u→RelV y v→rd x y H Q→wpAny (model X.prog X.w) X.A (inplaceOp op u v) (EP X pins σ Q) X.xe s
def Z6 (K:PySem.W.Frag) (ta tv:TE) (rd:V→V→Hp→VK→Prop) (f:Str):TS:=fun D σ H=>ta σ H fun x H1=>∃ a C dx fs v,x=.ref a∧H1 a=some (.ins C dx fs)∧Cls K C∧NoAttr K C f∧fs.lookup f=some v ∧
 tv σ H1 fun y H2=>rd v y H2 fun z H3=>∃ dx' fs',H3 a=some (.ins C dx' fs')∧fs'.length<1000∧D.nx σ (upd H3 a (.ins C dx' (putF f z fs')))
section
variable {X:Cx}{o e value:Expr}{f:Str}{pos pos' tpos:Pos}{ta tv:TE}
theorem pe_fld (he:PE X e ta) (hb:attributeBase e f X.env (eval e X.env)=eval e X.env):PE X (.Attribute e f pos) (tFld X.K ta f):=by
 intro pins s σ H Q I h
 refine attr_of hb (thn (he pins s σ H _ I h) fun u s1 ⟨x,H1,I1,rx,a,C,dx,fs,v,ex,ea,c,n,l,q⟩=>?_)
 subst ex
 obtain rfl:u=Value.ref a:=rx
 exact getattr_ok I1 ea c n l fun u' s2 I2 ru=>⟨v,H1,I2,ru,q⟩
theorem ps_fld (ha:PE X o ta) (hv:PE X value tv) (hs:swapsWith value (some (.Attribute o f pos')) pos.line X.env=pure false):PS X (.Assign [.Attribute o f pos'] value pos) (sFld X.K ta tv f):=by
 intro pins s σ H D I h
 refine plainObj_wpAny_Assign_Attribute (thn (hv pins s σ H _ I h) fun u s1 ⟨y,H1,I1,ry,q⟩=>thn (ha pins s1 σ H1 _ I1 q) fun ov s2 ⟨x,H2,I2,rx,a,C,dx,fs,ex,ea,c,n,l,q2⟩=>?_) hs
 subst ex
 obtain rfl:ov=Value.ref a:=rx
 exact setattr_ok I2 ea c n l ry fun s3 I3=>⟨σ,_,I3,q2⟩
theorem ac3 {op:Operator}{rd:V→V→Hp→VK→Prop} (ha:PE X o ta) (hv:PE X value tv) (hop:acf X op rd):PS X (.AugAssign (.Attribute o f tpos) op value pos) (Z6 X.K ta tv rd f):=by
 intro pins s σ H D I h
 refine wpAny_AugAssign_AttributeAny (thn (ha pins s σ H _ I h) fun ov s1 ⟨x,H1,I1,rx,a,C,dx,fs,v,ex,ea,c,n,l,q⟩=>?_)
 subst ex
 obtain rfl:ov=Value.ref a:=rx
 refine getattr_ok I1 ea c n l fun u s2 I2 ru=>thn (hv pins s2 σ H1 _ I2 q) fun w3 s3 ⟨y,H2,I3,ry,q3⟩=>thn (hop pins s3 σ H2 v y u w3 _ I3 ru ry q3) fun w4 s4 ⟨z,H3,I4,rz,dx',fs',ea',l',q4⟩=>?_
 exact setattr_ok I4 ea' c n l' rz fun s5 I5=>⟨σ,_,I5,q4⟩
def alv:V→V→Hp→VK→Prop:=fun x y H Q=>∃ i j,x=.int i∧y=.int j∧Q (.int (i+j)) H
def alo:V→V→Hp→VK→Prop:=fun x y H Q=>∃ i j,x=.int i∧y=.int j∧Q (.int (i - j)) H
theorem aiF:acf X .Add alv:=by
 rintro pins s σ H x y u v Q I rx ry ⟨i,j,rfl,rfl,q⟩
 obtain⟨t,rfl⟩:=(show ∃ t,u=Value.int i t from rx)
 obtain⟨t',rfl⟩:=(show ∃ t',v=Value.int j t' from ry)
 exact PyProof.Rows.iadd_int ⟨.int (i+j),H,I.tok _,⟨_,rfl⟩,q⟩
theorem aiE:acf X .Sub alo:=by
 rintro pins s σ H x y u v Q I rx ry ⟨i,j,rfl,rfl,q⟩
 obtain⟨t,rfl⟩:=(show ∃ t,u=Value.int i t from rx)
 obtain⟨t',rfl⟩:=(show ∃ t',v=Value.int j t' from ry)
 exact PyProof.Rows.isub_int ⟨.int (i - j),H,I.tok _,⟨_,rfl⟩,q⟩
end
section
variable {X:Cx}{pins:List (Addr×Obj)}{σ:St}{H:Hp}{s:Shared}{A:Around}{E:Value→Shared→Prop}{Q:Value→Shared→Prop}{c:Value}{b:Bool}
inductive TyOf (K:PySem.W.Frag) (H:Hp):V→Value→Prop where
 | non:TyOf K H .non (.type "NoneType")
 | bl (x:Bool):TyOf K H (.bl x) (.type "bool")
 | int (i:Int):TyOf K H (.int i) (.type "int")
 | str (x:Str):TyOf K H (.str x) (.type "str")
 | flt (x:UInt64):TyOf K H (.flt x) (.type "float")
 | lst {a:Addr}{xs:List V} (e:H a=some (.lst xs)):TyOf K H (.ref a) (.type "list")
 | frz {a:Addr}{o:Obj}{xs:List V} (e:H a=some (.frz o (.lst xs))):TyOf K H (.ref a) (.type "list")
 | tup {a:Addr}{xs:List V} (e:H a=some (.tup xs)):TyOf K H (.ref a) (.type "tuple")
 | dK {a:Addr}{kvs:List (Key×V)} (e:H a=some (.dK kvs)):TyOf K H (.ref a) (.type "dict")
 | dT {a:Addr}{kvs:List (List Key×V)} (e:H a=some (.dT kvs)):TyOf K H (.ref a) (.type "dict")
 | ins {a C dx:Addr}{fs:List (Str×V)} (e:H a=some (.ins C dx fs)) (cl:Cls K C) (ha:PySem.W.findIn K (.ref C) "__class__"=some (some (.builtin "object.__class__")))
   (hn:PySem.W.specialIn K (.builtin "object.__class__") "__get__"=some (some (.builtin "getset_descriptor.__get__"))) (htk:PySem.W.takesIn K (.builtin "object.__class__")=some true)
   (hm:PySem.W.mroIn K C (.type "object")=some true):TyOf K H (.ref a) (.ref C)
theorem adC {x:V}{u t:Value} (I:Inv X pins σ H s) (rx:RelV x u) (ty:TyOf X.K H x t) (e:PySem.W.kitOne X.K t c=some b) (h:∀ tk,Q (.bool b) { s with toks:=tk }) :
  wpAny (model X.prog X.w) A (call (.builtin "isinstance") [u,c]) Q E s:=by
 cases ty with
 | non=>cases (show u=Value.none from rx); exact PySem.W.kia_one PySem.W.kitx_none I.kIn True.intro e (fun z=>nomatch z) h
 | bl y=>cases (show u=Value.bool y from rx); exact PySem.W.kia_one PySem.W.kitx_bool I.kIn True.intro e (fun z=>nomatch z) h
 | int i=>obtain⟨t,q⟩:=(show ∃ t,u=Value.int i t from rx); cases q; exact PySem.W.kia_one PySem.W.kitx_int I.kIn True.intro e (fun z=>nomatch z) h
 | str y=>obtain⟨t,q⟩:=(show ∃ t,u=Value.str y t from rx); cases q; exact PySem.W.kia_one PySem.W.kitx_str I.kIn True.intro e (fun z=>nomatch z) h
 | flt y=>obtain⟨t,q⟩:=(show ∃ t,u=Value.float y t from rx); cases q; exact PySem.W.kia_one PySem.W.kitx_float I.kIn True.intro e (fun z=>nomatch z) h
 | @lst a xs ea =>
  cases (show u=Value.ref a from rx)
  obtain⟨_,_,n,_,h1⟩:=(show ObjOk X.prog X.w H s.heap a (.lst xs) from I.hok a _ ea)
  exact PySem.W.kia_one PySem.W.kitx_list I.kIn ⟨_,h1,rfl⟩ e (fun z=>nomatch z) h
 | @frz a ob xs ea =>
  cases (show u=Value.ref a from rx)
  obtain⟨_,_,_,n,_,h1⟩:=(show ObjOk X.prog X.w H s.heap a (.frz ob (.lst xs)) from I.hok a _ ea)
  exact PySem.W.kia_one PySem.W.kitx_list I.kIn ⟨_,h1,rfl⟩ e (fun z=>nomatch z) h
 | @tup a xs ea =>
  cases (show u=Value.ref a from rx)
  obtain⟨_,_,_,p⟩:=(show ObjOk X.prog X.w H s.heap a (.tup xs) from I.hok a _ ea)
  obtain⟨o,h1,h2,_⟩:=p
  exact PySem.W.kia_one PySem.W.kitx_tuple I.kIn ⟨o,h1,h2⟩ e (fun z=>nomatch z) h
 | @dK a kvs ea =>
  cases (show u=Value.ref a from rx)
  obtain⟨_,_,vs,_,p⟩:=(show ObjOk X.prog X.w H s.heap a (.dK kvs) from I.hok a _ ea)
  obtain⟨o,es,ep,h1,h2,_⟩:=p
  exact PySem.W.kia_one PySem.W.kitx_dict I.kIn ⟨o,h1,h2.1⟩ e (fun z=>nomatch z) h
 | @dT a kvs ea =>
  cases (show u=Value.ref a from rx)
  obtain⟨_,_,xs,_,o,es,ep,h1,h2,_⟩:=(show ObjOk X.prog X.w H s.heap a (.dT kvs) from I.hok a _ ea)
  exact PySem.W.kia_one PySem.W.kitx_dict I.kIn ⟨o,h1,h2.1⟩ e (fun z=>nomatch z) h
 | @ins a C dx fs ea cl ha hn htk hm =>
  cases (show u=Value.ref a from rx)
  obtain⟨mA,O,_⟩:=ins_get I.hok ea
  obtain⟨od,J,_⟩:=O.look
  exact PySem.W.kia_one (PySem.W.kitx_own (cl.get _) cl.hd ha hn htk hm) I.kIn J e (fun z=>nomatch z) h
end
end L2
namespace L2
open PySem PySem.Spec PyProof.Rows
structure Room (k:Nat) (A:Around):Prop where
 hd:A.handled=none
 dp:A.depth+3 * k+5<recursionLimit
 un:A.units+16 * k+200<cLine
theorem Room.mono {j k:Nat}{A:Around} (r:Room k A) (h:j≤k):Room j A:=⟨r.hd,by have:=r.dp; lia,by have:=r.un; lia⟩
theorem Room.deeper {k:Nat}{A:Around} (r:Room (k+1) A) (env:Env):Room k (A.deeper env) :=
 ⟨r.hd,by have:=r.dp; show A.depth+1+3 * k+5<_; lia,by have:=r.un; show A.units+3+16 * k+200<_; lia⟩
theorem make_depth {A:Around}{C:Addr}{us:List Value}{kw:List (Str×Value)}:(A.under (.builtin "type.__call__" ⟨.ref C::us,kw⟩)).depth=A.depth+1:=by
 first | rfl | simp [Around.under,Code.weight,Code.isCreation,Code.isGuard,Code.isCaller,Code.frames,Code.isFrame,guardIds]
theorem make_units {A:Around}{C:Addr}{us:List Value}{kw:List (Str×Value)}:(A.under (.builtin "type.__call__" ⟨.ref C::us,kw⟩)).units=A.units+1:=by
 first | rfl | simp [Around.under,Code.cUnits,Code.frames,Code.isFrame]
theorem Room.make {k:Nat}{A:Around} (r:Room (k+1) A) (C:Addr) (us:List Value) (kw:List (Str×Value)):Room k (A.under (.builtin "type.__call__" ⟨.ref C::us,kw⟩)) :=
 ⟨r.hd,by have:=r.dp; rw [make_depth]; lia,by have:=r.un; rw [make_units]; lia⟩
theorem Room.depth {k:Nat}{A:Around} (r:Room k A):A.depth<recursionLimit:=by have:=r.dp; lia
def tNil:TA:=fun _ H Q=>Q [] H
def tCons (ta:TE) (tr:TA):TA:=fun σ H Q=>ta σ H fun x H1=>tr σ H1 fun xs H2=>Q (x::xs) H2
section
variable {X:Cx}{e:Expr}{es:List Expr}{te:TE}{t:TA}{pos:Pos}
theorem pa_nil:PA X [] tNil:=fun _ _ _ _ H Q I h=>Calls.spliced_nil ⟨[],H,I,.nil,h⟩
theorem pa_cons (ha:PE X e te) (hr:PA X es t) (hs:starEach (e::es) X.env=(false,eval e X.env)::starEach es X.env:=by rfl):PA X (e::es) (tCons te t):=by
 intro pos pins s σ H Q I h
 rw [hs]
 show wpAny _ _ (spliced ((false,eval e X.env)::backTo pos (starEach es X.env))) _ _ s
 refine Calls.spliced_cons (thn (ha pins s σ H _ I h) fun u s1 ⟨x,H1,I1,r1,q1⟩=>?_)
 exact thn (hr pos pins s1 σ H1 _ I1 q1) fun us s2 ⟨xs,H2,I2,r2,q2⟩=>⟨x::xs,H2,I2,.cons r1 r2,q2⟩
def ahv (t:TA):TE:=fun σ H Q=>t σ H fun xs H1=>xs.length≤sizeLine∧∀ p,H1 p=none→Q (.ref p) (upd H1 p (.tup xs))
def tLst (t:TA):TE:=fun σ H Q=>t σ H fun xs H1=>xs.length≤sizeLine∧∀ p,H1 p=none→Q (.ref p) (upd H1 p (.lst xs))
theorem ah2 {x1} (h:PA X es t):PE X (.Tuple es x1 pos) (ahv t):=by
 intro pins s σ H Q I hq
 refine wpAny_Tuple_spliced (thn (h pos pins s σ H _ I hq) fun us s1 ⟨xs,H1,I1,r,z,q⟩=>⟨by rw [← r.length]; exact z,?_⟩)
 have hf:H1 s1.heap.objs.size=none:=I1.hok.fresh (Nat.le_refl _)
 refine⟨.ref s1.heap.objs.size,upd H1 s1.heap.objs.size (.tup xs),I1.laid (t':=s1.toks) (fun b u e=>Heap.get?_push_of_some _ e) (Nat.le_refl _) ?_,rfl,q _ hf⟩
 exact⟨z,us,r,⟨_,Heap.get?_push_size _ rfl,rfl,_,rfl⟩⟩
theorem pe_lst (h:PA X es t):PE X (.List es pos) (tLst t):=by
 intro pins s σ H Q I hq
 refine wpAny_List_spliced (thn (h pos pins s σ H _ I hq) fun us s1 ⟨xs,H1,I1,r,z,q⟩=>⟨by rw [← r.length]; exact z,?_⟩)
 have hf:H1 s1.heap.objs.size=none:=I1.hok.fresh (Nat.le_refl _)
 refine⟨.ref s1.heap.objs.size,upd H1 s1.heap.objs.size (.lst xs),I1.laid (t':=s1.toks) (fun b u e=>Heap.get?_push_of_some _ e) (Nat.le_refl _) ?_,rfl,q _ hf⟩
 exact⟨z,us,0,r,Heap.get?_push_size _ rfl⟩
end
abbrev Sp:=List V→Hp→VK→XK→Prop
abbrev CXT:=List Env→Hp→Shared→XK→Value→Shared→Prop
structure Env0 (P:Program) (w:World) (K:PySem.W.Frag) (mg:Str→Option Value) (base:Heap) (A:Around) (outer:List Env) (s:Shared) (H:Hp):Prop where
 frames:A.frames=some outer
 mod:Mod K mg base
 bs:∀ b o,base.get? b=some o→s.heap.get? b=some o∧H b=none
 bsz:base.objs.size≤s.heap.objs.size
 funs:s.heap.FunFrames base outer
 frf:∀ b∈frs outer,H b=none
 hok:HOk P w H s.heap
 bare:AllBare s.gens
def CE (outer:List Env) (P:Program) (w:World) (H:Hp) (s:Shared) (Q:VK) (u:Value) (s':Shared):Prop :=
 ∃ v H',s'.os=s.os∧AllBare s'.gens∧Un (frs outer) [] H H' s.heap s'.heap∧HOk P w H' s'.heap∧RelV v u∧Q v H'
def CR (CX:CXT) (outer:List Env) (P:Program) (w:World) (H:Hp) (s:Shared) (Q:VK) (E:XK) (r:Result) (s':Shared):Prop :=
 match r with
 | .ok (.ret u)=>CE outer P w H s Q u s'
 | .ok _=>False
 | .error e=>CX outer H s E e s'
structure FnOk (P:Program) (w:World) (K:PySem.W.Frag) (mg:Str→Option Value) (base:Heap) (CX:CXT) (k:Nat) (f:Addr) (fd:FuncData) (ps:List Str) (sp:Sp):Prop where
 len:∀ vs H Q E,sp vs H Q E→vs.length=ps.length
 run:∀ (A:Around) (outer:List Env) (s:Shared) (H:Hp) (args:Args) (us:List Value) (vs:List V) (Q:VK) (E:XK),Room k A→Env0 P w K mg base A outer s H→BindsTo s fd args (ps.zip us)→Vals vs us→sp vs H Q E →
  codeAny (model P w) A (.call (.ref f) args) (CR CX outer P w H s Q E) s
theorem FnOk.mono {P:Program}{w:World}{K:PySem.W.Frag}{mg:Str→Option Value}{base:Heap}{CX:CXT}{j k:Nat}{f:Addr}{fd:FuncData}{ps:List Str}{sp:Sp} (F:FnOk P w K mg base CX j f fd ps sp) (h:j≤k) :
  FnOk P w K mg base CX k f fd ps sp:=⟨F.len,fun A outer s H args us vs Q E hr=>F.run A outer s H args us vs Q E (hr.mono h)⟩
theorem Env0.make {P:Program}{w:World}{K:PySem.W.Frag}{mg:Str→Option Value}{base:Heap}{A:Around}{outer:List Env}{s:Shared}{H:Hp} (e:Env0 P w K mg base A outer s H) (C:Addr) (us:List Value) (kw:List (Str×Value)) :
  Env0 P w K mg base (A.under (.builtin "type.__call__" ⟨.ref C::us,kw⟩)) outer s H:=⟨by first | exact e.frames | (simpa [Around.under,Code.envs,Code.isFrame,pushEnvs] using e.frames),e.mod,e.bs,e.bsz,e.funs,e.frf,e.hok,e.bare⟩
section
variable {X:Cx}{pins:List (Addr×Obj)}{σ:St}{H:Hp}{s s':Shared}
theorem Inv.env0 (I:Inv X pins σ H s):Env0 X.prog X.w X.K X.mg X.base X.A X.stack s H :=
 ⟨I.ok.frames,I.ok.mod,I.bs,Nat.le_trans I.ok.bsz I.sz,I.stack,I.stkFree,I.hok,I.bare⟩
theorem Inv.after {Q:VK}{u:Value} (I:Inv X pins σ H s) (h:CE X.stack X.prog X.w H s Q u s'):EP X pins σ Q u s':=by
 obtain⟨v,H',os,bare,un,hok,r,q⟩:=h
 obtain⟨hh,g,d,t,os'⟩:=s'
 obtain rfl:os'=s.os:=os
 exact⟨v,H',I.call (h':=hh) (g':=g) (d':=d) (t':=t) (ch:=[]) un hok bare (fun b z=>absurd z (by simp)),r,q⟩
end
def tCall (sp:Sp) (dvs:List V) (E:XK) (t:TA):TE:=fun σ H Q=>t σ H fun vs H1=>sp (vs++dvs) H1 Q E
def tMeth (C:Addr) (m:Str) (sp:Sp) (dvs:List V) (E:XK) (ta:TE) (t:TA):TE:=fun σ H Q=>ta σ H fun x H1=>∃ a dx fs,x=.ref a∧H1 a=some (.ins C dx fs)∧fs.lookup m=none ∧
 t σ H1 fun vs H2=>sp (x::(vs++dvs)) H2 Q E
def tMake (C:Addr) (sp:Sp) (dvs:List V) (E:XK) (t:TA):TE:=fun σ H Q=>t σ H fun vs H1=>∀ x dx,H1 x=none→H1 dx=none→dx≠x →
 sp (.ref x::(vs++dvs)) (upd (upd H1 dx (.own x)) x (.ins C dx [])) (fun v H2=>v=.non∧Q (.ref x) H2) E
def Binds (K:PySem.W.Frag) (fd:FuncData) (ps:List Str) (ds:List Value):Prop :=
 ∀ (s:Shared) (us:List Value),K.In s.heap→(us++ds).length=ps.length→BindsTo s fd ⟨us,[]⟩ (ps.zip (us++ds))
theorem Binds.all {K:PySem.W.Frag}{fd:FuncData}{ps:List Str} (h:∀ us:List Value,us.length=ps.length→bindArgs fd ⟨us,[]⟩=pure (ps.zip us)):Binds K fd ps []:=fun s us _ hl=>by
 rw [List.append_nil] at hl ⊢
 exact .of_eq (h us hl)
def Passes (CX:CXT) (X:Cx) (E:XK):Prop:=∀ (pins:List (Addr×Obj)) (σ:St) (H:Hp) (s:Shared) (e:Value) (s':Shared),Inv X pins σ H s→CX X.stack H s E e s'→X.xe e s'
section
variable {X:Cx}{CX:CXT}{k:Nat}{f C:Addr}{fd:FuncData}{ps:List Str}{sp:Sp}{dvs:List V}{ds:List Value}{E:XK}{x m:Str}{p pos apos:Pos}{e o:Expr}{es:List Expr}{ta:TE}{t:TA}
theorem run_fn {pins:List (Addr×Obj)}{σ:St}{H:Hp}{s:Shared}{Q:VK}{us:List Value}{vs:List V} (F:FnOk X.prog X.w X.K X.mg X.base CX k f fd ps sp) (hr:Room k X.A) (hb:Binds X.K fd ps ds) (hd:Vals dvs ds) (hx:Passes CX X E)
  (I:Inv X pins σ H s) (r:Vals vs us) (h:sp (vs++dvs) H Q E):wpAny (model X.prog X.w) X.A (call (.ref f) us) (EP X pins σ Q) X.xe s:=by
 have r2:Vals (vs++dvs) (us++ds):=r.append hd
 have hl:(us++ds).length=ps.length:=by rw [← r2.length]; exact F.len _ _ _ _ h
 refine wpAny_call (codeAny_mono (F.run X.A X.stack s H ⟨us,[]⟩ (us++ds) (vs++dvs) Q E hr I.env0 (hb s us I.kIn hl) r2 h) fun r s' hq=>?_)
 cases r with
 | error e=>exact hx pins σ H s e s' I hq
 | ok fl =>
  cases fl with
  | ret u=>exact I.after hq
  | next=>exact False.elim hq
  | brk=>exact False.elim hq
  | cont=>exact False.elim hq
theorem pe_call (F:FnOk X.prog X.w X.K X.mg X.base CX k f fd ps sp) (hr:Room k X.A) (hg:Gl X x) (hm:X.mg x=some (.ref f)) (hk:PySem.W.keepIn X.K (.ref f)=true) (hb:Binds X.K fd ps ds) (hd:Vals dvs ds) (hx:Passes CX X E)
  (ha:PA X (e::es) t) (hdb:(x == ("__debug__":Str))=false:=by decide) (he:starEach (e::es) X.env=(false,eval e X.env)::starEach es X.env:=by rfl) (hpl:(backTo pos (starEach es X.env)).any (·.1)=false:=by rfl) :
  PE X (.Call (.Name x p) (e::es) [] pos) (tCall sp dvs E t):=by
 intro pins s σ H Q I h
 refine wpAny_Call_Name_kw (ld_glob I hg hm ?_ hdb)
 refine PySem.W.callWith_K (h₀:=X.base) I.ok.mod.kin hk (thn (ha pos pins s σ H _ I h) fun us s1 ⟨vs,H1,I1,r,q⟩=>⟨I1.kIn,?_⟩) he hpl
 exact run_fn F hr hb hd hx I1 r q
theorem aeT (F:FnOk X.prog X.w X.K X.mg X.base CX k f fd ps sp) (hr:Room k X.A) (hg:Gl X x) (hm:X.mg x=some (.ref f)) (hk:PySem.W.keepIn X.K (.ref f)=true) (hb:Binds X.K fd ps ds) (hd:Vals dvs ds) (hx:Passes CX X E)
  (hdb:(x == ("__debug__":Str))=false:=by decide):PE X (.Call (.Name x p) [] [] pos) (tCall sp dvs E tNil):=by
 intro pins s σ H Q I h
 refine wpAny_Call_Name_kw (ld_glob I hg hm ?_ hdb)
 exact PySem.W.callWith_K0 I.kIn hk (run_fn (us:=[]) F hr hb hd hx I .nil h)
theorem pe_meth {pl:Sem Bool} (he:PE X o ta) (c:Cls X.K C) (hm:Meth X.K C m f) (F:FnOk X.prog X.w X.K X.mg X.base CX k f fd ps sp) (hr:Room k X.A) (hb:Binds X.K fd ps ds) (hd:Vals dvs ds) (hx:Passes CX X E) (ha:PA X (e::es) t)
  (hst:starEach (e::es) X.env=(false,eval e X.env)::starEach es X.env:=by rfl) (hpl:(backTo pos (starEach es X.env)).any (·.1)=false:=by rfl)
  (ht:eval (.Call (.Attribute o m apos) (e::es) [] pos) X.env=(do
   let ov ← eval o X.env
   standAt apos.atName
   let (f,first) ← holding [ov] (getMethod ov m pl)
   callWith pos f first (backTo pos (starEach (e::es) X.env)) (backToKw pos (keywordEach [] X.env))):=by rfl) :
  PE X (.Call (.Attribute o m apos) (e::es) [] pos) (tMeth C m sp dvs E ta t):=by
 intro pins s σ H Q I h
 refine PySem.W.methodCall_KW (pl:=pl) (thn (he pins s σ H _ I h) fun u s1 ⟨x,H1,I1,rx,a,dx,fs,ex,ea,l,q⟩=>?_) ht
 subst ex
 obtain rfl:u=Value.ref a:=rx
 refine getmeth_ok I1 ea c hm l ?_
 refine PySem.W.callWith_K (first:=[.ref a]) (h₀:=X.base) I.ok.mod.kin hm.kp (thn (ha pos pins s1 σ H1 _ I1 q) fun us s2 ⟨vs,H2,I2,r,q2⟩=>⟨I2.kIn,?_⟩) hst hpl
 exact run_fn (us:=.ref a::us) (vs:=.ref a::vs) F hr hb hd hx I2 (.cons rfl r) q2
theorem aeR {pl:Sem Bool} (he:PE X o ta) (c:Cls X.K C) (hm:Meth X.K C m f) (F:FnOk X.prog X.w X.K X.mg X.base CX k f fd ps sp) (hr:Room k X.A) (hb:Binds X.K fd ps ds) (hd:Vals dvs ds) (hx:Passes CX X E)
  (ht:eval (.Call (.Attribute o m apos) [] [] pos) X.env=(do
   let ov ← eval o X.env
   standAt apos.atName
   let (f,first) ← holding [ov] (getMethod ov m pl)
   callWith pos f first (backTo pos (starEach [] X.env)) (backToKw pos (keywordEach [] X.env))):=by rfl) :
  PE X (.Call (.Attribute o m apos) [] [] pos) (tMeth C m sp dvs E ta tNil):=by
 intro pins s σ H Q I h
 refine PySem.W.methodCall_KW (pl:=pl) (thn (he pins s σ H _ I h) fun u s1 ⟨x,H1,I1,rx,a,dx,fs,ex,ea,l,q⟩=>?_) ht
 subst ex
 obtain rfl:u=Value.ref a:=rx
 refine getmeth_ok I1 ea c hm l ?_
 exact PySem.W.callWith_K0 (first:=[.ref a]) I1.kIn hm.kp (run_fn (us:=[.ref a]) (vs:=[.ref a]) F hr hb hd hx I1 (.cons rfl .nil) q)
structure Mk (K:PySem.W.Frag) (C f:Addr):Prop where
 makes:PySem.W.makesIn K C=true
 init:PySem.W.findIn K (.ref C) "__init__"=some (some (.ref f))
 fn:PySem.W.isFn K (.ref f)=true
 kp:PySem.W.keepIn K (.ref C)=true
theorem run_make {pins:List (Addr×Obj)}{σ:St}{H:Hp}{s:Shared}{Q:VK}{us:List Value}{vs:List V} (M:Mk X.K C f) (F:FnOk X.prog X.w X.K X.mg X.base CX k f fd ps sp) (hr:Room (k+1) X.A) (hb:Binds X.K fd ps ds) (hd:Vals dvs ds)
  (hx:Passes CX X E) (I:Inv X pins σ H s) (r:Vals vs us)
  (h:∀ x dx,H x=none→H dx=none→dx≠x→sp (.ref x::(vs++dvs)) (upd (upd H dx (.own x)) x (.ins C dx [])) (fun v H2=>v=.non∧Q (.ref x) H2) E) :
  wpAny (model X.prog X.w) X.A (call (.ref C) us) (EP X pins σ Q) X.xe s:=by
 have hq:=h (s.heap.objs.size+1) s.heap.objs.size (I.hok.fresh (Nat.le_succ _)) (I.hok.fresh (Nat.le_refl _)) (Nat.ne_of_lt (Nat.lt_succ_self _))
 have I2:=Inv.made (C:=C) I
 have r2:Vals (V.ref (s.heap.objs.size+1)::(vs++dvs)) (Value.ref (s.heap.objs.size+1)::(us++ds)):=.cons rfl (r.append hd)
 have hl:(Value.ref (s.heap.objs.size+1)::us++ds).length=ps.length:=by
  have e:=r2.length
  rw [F.len _ _ _ _ hq] at e
  exact e.symm
 refine wpAny_call (make_map (f:=f) I.kIn M.makes M.init (beq_iff_eq.mp M.fn) (codeAny_mono (F.run _ X.stack _ _ ⟨Value.ref (s.heap.objs.size+1)::us,[]⟩ (Value.ref (s.heap.objs.size+1)::(us++ds)) _ _ E (hr.make C us [])
  (I2.env0.make C us []) (hb _ (Value.ref (s.heap.objs.size+1)::us) I2.kIn hl) r2 hq) fun r s' hq'=>?_))
 cases r with
 | error e=>exact hx pins σ _ _ e s' I2 hq'
 | ok fl =>
  cases fl with
  | ret u =>
   obtain⟨v,H',I3,rv,ev,q3⟩:=I2.after hq'
   subst ev
   exact⟨rv,⟨V.ref (s.heap.objs.size+1),H',I3,rfl,q3⟩⟩
  | next=>exact False.elim hq'
  | brk=>exact False.elim hq'
  | cont=>exact False.elim hq'
theorem agw (M:Mk X.K C f) (F:FnOk X.prog X.w X.K X.mg X.base CX k f fd ps sp) (hr:Room (k+1) X.A) (hg:Gl X x) (hm:X.mg x=some (.ref C)) (hb:Binds X.K fd ps ds) (hd:Vals dvs ds) (hx:Passes CX X E)
  (ha:PA X (e::es) t) (hdb:(x == ("__debug__":Str))=false:=by decide) (he:starEach (e::es) X.env=(false,eval e X.env)::starEach es X.env:=by rfl) (hpl:(backTo pos (starEach es X.env)).any (·.1)=false:=by rfl) :
  PE X (.Call (.Name x p) (e::es) [] pos) (tMake C sp dvs E t):=by
 intro pins s σ H Q I h
 refine wpAny_Call_Name_kw (ld_glob I hg hm ?_ hdb)
 refine PySem.W.callWith_K (h₀:=X.base) I.ok.mod.kin M.kp (thn (ha pos pins s σ H _ I h) fun us s1 ⟨vs,H1,I1,r,q⟩=>⟨I1.kIn,?_⟩) he hpl
 exact run_make M F hr hb hd hx I1 r q
end
section
variable {X:Cx}{CX:CXT}{k:Nat}{f C:Addr}{fd:FuncData}{ps ks:List Str}{sp:Sp}{E:XK}{x m:Str}{p pos apos kpos:Pos}{e o:Expr}{es:List Expr}{kws:List Keyword}{te ta:TE}{t tk:TA}{nm:Option Str}
variable {g:List Value→List Value→List Value}{gV:List V→List V→List V}
end
structure FnScope (N P:List Str) (sc:Scope):Prop where
 kind:sc.kind=.function
 co:sc.isCoroutine=false
 gen:sc.isGenerator=false
 nd:N.Nodup
 pre:N.take P.length=P
 par:∀ x∈P,sc.names.lookup x=some .local∨sc.names.lookup x=some .cell
 nofree:∀ y∈sc.names,y.2≠.free
theorem bindL_out {kindOf:Str→Option NameKind}{x:Str}:∀ {binds:List (Str×Value)}{m:Str→Option Value},(∀ v,(x,v) ∉ binds)→bindL kindOf binds m x=m x
 | [],_,_=>rfl
 | (n,v)::r,m,h=>by
  unfold bindL
  rw [bindL_out fun w hw=>h w (List.mem_cons_of_mem _ hw)]
  split
  ·have:x≠n:=by rintro rfl; exact h v List.mem_cons_self
   simp [this]
  ·rfl
theorem bindC_out {kindOf:Str→Option NameKind}{x:Str}:∀ {binds:List (Str×Value)}{m:Str→Option Value},(∀ v,(x,v) ∉ binds)→bindC kindOf binds m x=m x
 | [],_,_=>rfl
 | (n,v)::r,m,h=>by
  unfold bindC
  rw [bindC_out fun w hw=>h w (List.mem_cons_of_mem _ hw)]
  split
  ·rfl
  ·have:x≠n:=by rintro rfl; exact h v List.mem_cons_self
   simp [this]
theorem bindL_get {kindOf:Str→Option NameKind}{x:Str}{v:Value}:∀ {P:List Str}{vs:List Value}{i:Nat}{m:Str→Option Value},P.Nodup→P[i]?=some x→vs[i]?=some v→kindOf x=some .local →
  bindL kindOf (P.zip vs) m x=some v
 | [],_,_,_,_,h,_,_=>by simp at h
 | _::_,[],_,_,_,_,h,_=>by simp at h
 | p::P,w::vs,0,m,nd,h1,h2,hk=>by
  simp at h1 h2; subst h1; subst h2
  show bindL kindOf ((p,w)::P.zip vs) m p=_
  unfold bindL
  rw [bindL_out fun v hv=>(List.nodup_cons.mp nd).1 (List.of_mem_zip hv).1,if_pos hk]
  simp
 | p::P,w::vs,i+1,m,nd,h1,h2,hk=>by
  show bindL kindOf ((p,w)::P.zip vs) m x=_
  unfold bindL
  exact bindL_get (i:=i) (List.nodup_cons.mp nd).2 (by simpa using h1) (by simpa using h2) hk
theorem bindC_get {kindOf:Str→Option NameKind}{x:Str}{v:Value}:∀ {P:List Str}{vs:List Value}{i:Nat}{m:Str→Option Value},P.Nodup→P[i]?=some x→vs[i]?=some v→kindOf x≠some .local →
  bindC kindOf (P.zip vs) m x=some v
 | [],_,_,_,_,h,_,_=>by simp at h
 | _::_,[],_,_,_,_,h,_=>by simp at h
 | p::P,w::vs,0,m,nd,h1,h2,hk=>by
  simp at h1 h2; subst h1; subst h2
  show bindC kindOf ((p,w)::P.zip vs) m p=_
  unfold bindC
  rw [bindC_out fun v hv=>(List.nodup_cons.mp nd).1 (List.of_mem_zip hv).1,if_neg hk]
  simp
 | p::P,w::vs,i+1,m,nd,h1,h2,hk=>by
  show bindC kindOf ((p,w)::P.zip vs) m x=_
  unfold bindC
  exact bindC_get (i:=i) (List.nodup_cons.mp nd).2 (by simpa using h1) (by simpa using h2) hk
def start (N:List Str) (vs:List V):St:=vs.map some++List.replicate (N.length - vs.length) none
def cxOf (CX:CXT) (P:Program) (w:World) (K:PySem.W.Frag) (mg:Str→Option Value) (base:Heap) (N:List Str) (qual:Str) (scope:Scope) (f:Addr) (cd:Value) (A:Around) (outer:List Env) (s:Shared) (H:Hp) (E:XK):Cx where
 prog:=P
 w:=w
 K:=K
 mg:=mg
 base:=base
 A:=A.deeper (envOfC qual scope s.heap.objs.size f cd)
 N:=N
 s₀:=s
 H₀:=H
 env:=envOfC qual scope s.heap.objs.size f cd
 outer:=outer
 stack:=envOfC qual scope s.heap.objs.size f cd::outer
 ex:=[]
 calm:=true
 fn:=fun _=>true
 pn:=[]
 xe:=fun e s'=>wpAny (model P w) (A.deeper (envOfC qual scope s.heap.objs.size f cd)) (leaving (envOfC qual scope s.heap.objs.size f cd) e) (fun _ s''=>CX outer H s E e s'') (fun e' s''=>CX outer H s E e' s'') s'
theorem cell_has {sc:Scope}{n:Nat}{x:Str} (h:sc.names.lookup x=some .cell):∃ c,(cellsFrom n sc.names []).lookup x=some c:=by
 have q:=PySem.W.cellsFrom_some sc.names n [] (.inl h)
 exact Option.isSome_iff_exists.mp q
theorem inv_start {CX:CXT}{P:Program}{w:World}{K:PySem.W.Frag}{mg:Str→Option Value}{base:Heap}{N ps:List Str}{qual:Str}{scope:Scope}{f:Addr}{cd:Value}{A:Around}{outer:List Env}{s s1:Shared}{H:Hp}{E:XK}{us:List Value}{vs:List V}
  (S:FnScope N ps scope) (hd:A.handled=none) (e0:Env0 P w K mg base A outer s H) (hl:vs.length=ps.length) (r:Vals vs us)
  (x:InCallC s s.heap.objs.size (bindL (envOfC qual scope s.heap.objs.size f cd).kindOf (ps.zip us) fun _=>none) (cellsFrom (s.heap.objs.size+1) scope.names []) (bindC (envOfC qual scope s.heap.objs.size f cd).kindOf (ps.zip us) fun _=>none) s1) :
  Inv (cxOf CX P w K mg base N qual scope f cd A outer s H E) [] (start N vs) H s1:=by
 have hpl:ps.length≤N.length:=by have:=congrArg List.length S.pre; rw [List.length_take] at this; lia
 obtain⟨h1,tk,rfl,hk⟩:=x.done
 have noA:∀ b:Addr,b ∉ (cxOf CX P w K mg base N qual scope f cd A outer s H E).ex:=fun b z=>absurd (show b∈([]:List Addr) from z) (by simp)
 refine⟨⟨e0.mod,S.kind,rfl,rfl,Nat.le_refl _,fun y z c h1 h2=>?_,fun y hy=>?_,fun y c _ h=>?_,fun _=>hd,Around.frames_deeper e0.frames,.inr ⟨rfl,rfl⟩,fun b z=>absurd z (noA b),e0.bs,e0.bsz,fun b _ _=>noA b,fun b z=>absurd z (noA b),e0.funs,e0.frf⟩,
  rfl,e0.bare,Un.kept hk,⟨_,x.toInCall.ns,fun i y v h1 h2 h3=>?_⟩,fun y c h=>⟨_,x.cell y c h⟩,e0.hok.fresh (Nat.le_refl _),fun y c h=>?_,fun p hp=>absurd (show p∈([]:List (Addr×Obj)) from hp) (by simp),e0.hok.kept hk,?_⟩
 ·exact name_of_addr x.apart (PySem.mem_of_lookup h1) (PySem.mem_of_lookup h2)
 ·have hy:scope.names.lookup y=some .cell∨scope.names.lookup y=some .free:=hy
  rcases hy with hy | hy
  ·exact cell_has hy
  ·exact absurd rfl (S.nofree _ (PySem.mem_of_lookup hy))
 ·exact Nat.le_of_lt (x.above y c (PySem.mem_of_lookup h))
 ·have hi:i<vs.length:=by
   unfold start at h2
   by_cases hi:i<vs.length
   ·exact hi
   ·rw [List.getElem?_append_right (by simpa using hi)] at h2
    rw [List.getElem?_replicate] at h2
    split at h2 <;> cases h2
  have ha:vs[i]?=some v:=by
   unfold start at h2
   rw [List.getElem?_append_left (by simpa using hi),List.getElem?_map] at h2
   cases e:vs[i]? with
   | none=>rw [e] at h2; cases h2
   | some a=>rw [e] at h2; cases h2; rfl
  obtain⟨u,hu,rv⟩:=r.get ha
  have hp:ps[i]?=some y:=by
   rw [← S.pre,List.getElem?_take_of_lt (by lia)]; exact h1
  have ndP:ps.Nodup:=by rw [← S.pre]; exact S.nd.sublist (List.take_sublist _ _)
  refine⟨u,rv,?_⟩
  rcases S.par y (List.mem_of_getElem? hp) with k | k
  ·exact .inl ⟨k,bindL_get ndP hp hu k⟩
  ·obtain⟨c,e⟩:=cell_has (n:=s.heap.objs.size+1) k
   refine .inr ⟨.inl k,c,e,?_⟩
   have q:=x.cell y c e
   rw [bindC_get ndP hp hu (by show scope.names.lookup y≠_; rw [k]; decide)] at q
   exact q
 ·exact e0.hok.fresh (Nat.le_of_lt (x.above y c (PySem.mem_of_lookup h)))
 ·unfold start
  show _=N.length
  rw [List.length_append,List.length_map,List.length_replicate]
  lia
theorem fn_of {CX:CXT}{P:Program}{w:World}{K:PySem.W.Frag}{mg:Str→Option Value}{base:Heap}{k:Nat}{f:Addr}{name qual:Str}{params:Arguments}{body:List Stmt}{scope:Scope}{dV kV doc pm cdv ct oc:Value}{an od:Option Addr}
  {osl:Array (Option Value)}{N ps:List Str}{sp:Sp} (lk:K.lookup f=some ⟨oc,od,.func (PySem.W.fnOf name qual params body scope dV kV doc pm an cdv ct),osl⟩) (hcd:PySem.W.codeIn K cdv qual=true) (S:FnScope N ps scope)
  (len:∀ vs H Q E,sp vs H Q E→vs.length=ps.length)
  (hbody:∀ (A:Around) (outer:List Env) (s:Shared) (H:Hp) (vs:List V) (Q:VK) (E:XK),Room k (A.deeper (envOfC qual scope s.heap.objs.size f cdv))→sp vs H Q E →
   ∃ t,PSs (cxOf CX P w K mg base N qual scope f cdv A outer s H E) body t∧t { nx:=fun _ H'=>Q .non H',rt:=Q } (start N vs) H) :
  FnOk P w K mg base CX (k+1) f (PySem.W.fnOf name qual params body scope dV kV doc pm an cdv ct) ps sp:=by
 refine⟨len,fun A outer s H args us vs Q E hr e0 hb r hsp=>?_⟩
 have hl:=len _ _ _ _ hsp
 have KX:K.In s.heap:=e0.mod.kin.keeps fun b o e=>(e0.bs b o e).1
 have lim:s.heap.NoLimit:=e0.mod.nolimit.keeps fun b o e=>(e0.bs b o e).1
 have hkind:∀ y∈ps.zip us,scope.names.lookup y.1=some .local∨(scope.names.lookup y.1=some .cell∧((cellsFrom (s.heap.objs.size+1) scope.names []).lookup y.1).isSome=true):=fun ⟨n,v⟩ hy=>by
  rcases S.par n (List.of_mem_zip hy).1 with q | q
  ·exact .inl q
  ·exact .inr ⟨q,PySem.W.cellsFrom_some _ _ _ (.inl q)⟩
 refine codeAny_call_function hr.depth (KX _ _ lk) rfl S.co S.gen rfl (PySem.W.codeRec_of KX hcd) (hb _ _ _ _ ?_)
 refine wpAny_newFunctionEnv_cells S.kind hkind fun env he s1 x=>?_
 subst he
 refine⟨lim.keeps x.toInCall.keep,codeAny_func ?_⟩
 obtain⟨t,ht,hq⟩:=hbody A outer s H vs Q E (hr.deeper _) hsp
 have I:Inv (cxOf CX P w K mg base N qual scope f cdv A outer s H E) [] (start N vs) H s1:=inv_start S hr.hd e0 hl r x
 refine wpAny_mono (ht [] s1 (start N vs) H _ I hq) (fun fl s' hs=>?_) fun e s' hs=>hs
 have fin:∀ {σ':St}{H':Hp}{v:V}{u:Value},Inv (cxOf CX P w K mg base N qual scope f cdv A outer s H E) [] σ' H' s'→RelV v u→Q v H'→CE outer P w H s Q u s' :=
  fun {σ' H' v u} J rv q=>⟨v,H',J.os,J.bare,J.base,J.hok,rv,q⟩
 cases fl with
 | ret u =>
  obtain⟨v,σ',H',J,rv,q⟩:=hs
  exact fin J rv q
 | next =>
  obtain⟨σ',H',J,q⟩:=hs
  exact fin (v:=V.non) (u:=Value.none) J rfl q
 | brk =>
  obtain⟨_,_,_,q⟩:=hs
  exact False.elim q
 | cont =>
  obtain⟨_,_,_,q⟩:=hs
  exact False.elim q
end L2
namespace L2
open PySem PySem.Spec PyProof.Rows
section
variable {X:Cx}{x:Str}{p pos:Pos}{e:Expr}{es:List Expr}{t:TA}{id T:String}{r:List V→Hp→VK→Prop}
def tCB (r:List V→Hp→VK→Prop) (t:TA):TE:=fun σ H Q=>t σ H fun vs H1=>r vs H1 Q
theorem pe_callB (hc:CallR X (.builtin id) r) (hg:Gl X x) (hm:X.mg x=none) (hv:bootBuiltins x=some (.builtin id)) (ha:PA X (e::es) t) (hn:x≠"__name__":=by decide) (hdb:(x == ("__debug__":Str))=false:=by decide)
  (he:starEach (e::es) X.env=(false,eval e X.env)::starEach es X.env:=by rfl) (hpl:(backTo pos (starEach es X.env)).any (·.1)=false:=by rfl):PE X (.Call (.Name x p) (e::es) [] pos) (tCB r t):=by
 intro pins s σ H Q I h
 refine wpAny_Call_Name_kw (ld_blt I hg hm hv ?_ hn hdb)
 exact PyProof.Rows.callWith_builtin1 (thn (ha pos pins s σ H _ I h) fun us s1 ⟨vs,H1,I1,r1,q1⟩=>hc pins s1 σ H1 vs us Q I1 r1 q1) he hpl
theorem ac6 (hc:CallR X (.type T) r) (hg:Gl X x) (hm:X.mg x=none) (hv:bootBuiltins x=some (.type T)) (ha:PA X (e::es) t) (hn:x≠"__name__":=by decide) (hdb:(x == ("__debug__":Str))=false:=by decide)
  (he:starEach (e::es) X.env=(false,eval e X.env)::starEach es X.env:=by rfl) (hpl:(backTo pos (starEach es X.env)).any (·.1)=false:=by rfl):PE X (.Call (.Name x p) (e::es) [] pos) (tCB r t):=by
 intro pins s σ H Q I h
 refine wpAny_Call_Name_kw (ld_blt I hg hm hv ?_ hn hdb)
 exact PyProof.Rows.callWith_type1 (thn (ha pos pins s σ H _ I h) fun us s1 ⟨vs,H1,I1,r1,q1⟩=>hc pins s1 σ H1 vs us Q I1 r1 q1) he hpl
end
end L2
namespace HT
open PySem PyProof.Rows
section
open PySem.SeqAt
open PySem.AutoSeq1 (wpAny_loadPart')
open PySem.MeetsSeq PySem.MeetsSeq2 PySem.MeetsSeq3
end
section
variable {prog:Program}{w:World}{A:Around}{E:Value→Shared→Prop}{s:Shared}
theorem ag8 {t b:Addr}{vs ws:List Value}{Q:Value→Shared→Prop} (ht:IsTup s.heap t vs.toArray) (hb:IsTup s.heap b ws.toArray) (hv:vs≠[])
  (h1:ws=[]→Q (.ref t) s) (h2:ws≠[]→Q (.ref s.heap.objs.size) { s with heap:=s.heap.push { cls:=.type "tuple",data:=.seq (vs++ws).toArray } })
  (hsz:vs.length+ws.length≤sizeLine):wpAny (model prog w) A (binaryOp .Add (.ref t) (.ref b)) Q E s:=by
 obtain⟨⟨cls,dd,data,sl⟩,ho,hc,n,hd⟩:=id ht
 obtain⟨⟨cls2,dd2,data2,sl2⟩,ho2,hc2,n2,hd2⟩:=id hb
 simp only at hc hd hc2 hd2
 subst hc hd hc2 hd2
 have e:vs.toArray++ws.toArray=(vs++ws).toArray:=by simp
 by_cases hw:ws=[]
 ·exact concat_meets ⟨_,ho,rfl⟩ ⟨_,ho2,rfl⟩ noFill_tuple_add seq_tuple_add PySem.F.slot_tuple_add PySem.F.entry_tuple_add (PySem.F.args_tuple_add_2 _ _)
   (tuple_addW1 t b vs.toArray ws.toArray n n2 dd dd2 sl sl2 (by simpa using hv) (by simp [hw])) ⟨ho,ho2,h1 hw⟩
 ·refine concat_meets ⟨_,ho,rfl⟩ ⟨_,ho2,rfl⟩ noFill_tuple_add seq_tuple_add PySem.F.slot_tuple_add PySem.F.entry_tuple_add (PySem.F.args_tuple_add_2 _ _)
   (tuple_addW2 t b vs.toArray ws.toArray n n2 dd dd2 sl sl2 (by simpa using hv) (by simpa using hw) (by rw [List.size_toArray,List.size_toArray]; exact hsz)) ⟨ho,ho2,?_⟩
  rw [e]
  exact h2 hw
def sIx (n d:Nat):Option Int→Nat
 | none=>d
 | some v=>if v<0 then (v+(n:Int)).toNat else min v.toNat n
theorem VH (n d:Nat):sIx n d none=d:=rfl
theorem JB (n d k:Nat):sIx n d (some (k:Int))=min k n:=by
 show (if (k:Int)<0 then ((k:Int)+(n:Int)).toNat else min (k:Int).toNat n)=min k n
 rw [if_neg (by lia),Int.toNat_natCast]
theorem ahF (n d:Nat) (hd:d≤n) (o:Option Int):sIx n d o≤n:=by
 cases o with
 | none=>exact hd
 | some v =>
  show (if v<0 then (v+(n:Int)).toNat else min v.toNat n)≤n
  by_cases hv:v<0
  ·rw [if_pos hv]; lia
  ·rw [if_neg hv]; exact Nat.min_le_right _ _
theorem aav (v:Int) (n d:Nat):(if v<0 then max (v+(n:Int)) 0 else min v (n:Int))=((sIx n d (some v):Nat):Int):=by
 show (if v<0 then max (v+(n:Int)) 0 else min v (n:Int))=(((if v<0 then (v+(n:Int)).toNat else min v.toNat n):Nat):Int)
 by_cases hv:v<0
 ·simp only [if_pos hv]; lia
 ·simp only [if_neg hv]; lia
theorem ab9 (lo hi:Option Int) (n:Nat):Builtin.Slice.sliceAdjust lo hi 1 (n:Int)=(((sIx n 0 lo:Nat):Int),((sIx n n hi:Nat):Int)):=by
 have h1:¬ ((1:Int)<0):=by lia
 unfold Builtin.Slice.sliceAdjust
 simp only [h1,if_false]
 refine Prod.ext ?_ ?_
 ·cases lo with
  | none=>rfl
  | some v=>exact aav v n 0
 ·cases hi with
  | none=>rfl
  | some v=>exact aav v n n
theorem aa0 (i j:Nat):Builtin.Slice.slicePlaces (i:Int) (j:Int) 1=j - i:=by
 unfold Builtin.Slice.slicePlaces
 have h1:(1:Int) > 0:=by lia
 simp only [h1,if_true,Int.ediv_one]
 split <;> lia
theorem Oi {v:Value}{o:Option Int}{Q:Option Int→Shared→Prop} (p:IsPart v o) (h:Q o s):wpAny (model prog w) A (Builtin.Slice.slicePartIndex v) Q E s:=by
 cases p with
 | none=>exact slicePart_none h
 | int i t=>exact slicePart_int h
theorem yg {sl:Addr}{vl vu:Value}{lo hi:Option Int}{n:Nat}{Q:Int×Int×Nat→Shared→Prop} (hs:s.heap.IsSliceOf sl vl vu .none) (pl:IsPart vl lo) (pu:IsPart vu hi)
  (h:Q (((sIx n 0 lo:Nat):Int),1,sIx n n hi - sIx n 0 lo) s):wpAny (model prog w) A (Builtin.Slice.sliceApplied (.ref sl) (pure (n:Int))) Q E s:=by
 obtain⟨os,hos,hcs,hds⟩:=id hs
 unfold Builtin.Slice.sliceApplied Builtin.Slice.sliceFields
 refine wpAny_bind (wpAny_bind (wpAny_field hos hds (x:=vl) rfl (wpAny_bind (wpAny_field hos hds (x:=vu) rfl (wpAny_bind (wpAny_field hos hds (x:=.none) rfl (wpAny_pure ?_)))))))
 refine wpAny_bind (slicePart_none ?_)
 show wpAny _ _ (if ((1:Int) == 0)=true then _ else _) _ _ s
 rw [if_neg (by decide)]
 refine wpAny_bind (Oi pl (wpAny_bind (Oi pu (wpAny_bind (wpAny_pure ?_)))))
 show wpAny _ _ (match Builtin.Slice.sliceAdjust lo hi 1 (n:Int) with | (lo,hi)=>pure (lo,(1:Int),Builtin.Slice.slicePlaces lo hi 1)) _ _ s
 rw [ab9 lo hi n]
 show wpAny _ _ (pure (((sIx n 0 lo:Nat):Int),(1:Int),Builtin.Slice.slicePlaces ((sIx n 0 lo:Nat):Int) ((sIx n n hi:Nat):Int) 1)) _ _ s
 rw [aa0]
 exact wpAny_pure h
theorem aeP (xs:Array Value) (i k:Nat):((List.range k).filterMap fun (m:Nat)=>xs[((i:Int)+(m:Int) * 1).toNat]?).toArray=((xs.toList.drop i).take k).toArray:=by
 have e:(fun (m:Nat)=>xs[((i:Int)+(m:Int) * 1).toNat]?)=fun m=>xs[i+m]?:=by
  funext m
  have:((i:Int)+(m:Int) * 1).toNat=i+m:=by lia
  rw [this]
 rw [e]
 have:=pick_run xs i k
 rw [List.filterMap_map] at this
 have e2:((fun x=>xs[x]?)∘fun x=>i+x)=fun m=>xs[i+m]?:=rfl
 rw [e2] at this
 rw [this]
theorem Kf {t sl:Addr}{items:Array Value}{vl vu:Value}{lo hi:Option Int}{Q:Value→Shared→Prop} (ht:IsTup s.heap t items) (hs:s.heap.IsSliceOf sl vl vu .none) (pl:IsPart vl lo) (pu:IsPart vu hi)
  (hw:¬ (sIx items.size 0 lo=0∧sIx items.size items.size hi=items.size))
  (h:Q (.ref s.heap.objs.size) { s with heap:=s.heap.push { cls:=.type "tuple",data:=.seq ((items.toList.drop (sIx items.size 0 lo)).take (sIx items.size items.size hi - sIx items.size 0 lo)).toArray } })
  (hsz:items.size≤sizeLine):wpAny (model prog w) A (getItem (.ref t) (.ref sl)) Q E s:=by
 have UG:sizeOk (.seq ((items.toList.drop (sIx items.size 0 lo)).take (sIx items.size items.size hi - sIx items.size 0 lo)).toArray):=by
  show ((items.toList.drop (sIx items.size 0 lo)).take (sIx items.size items.size hi - sIx items.size 0 lo)).toArray.size≤sizeLine
  rw [List.size_toArray,List.length_take,List.length_drop,Array.length_toList]
  lia
 have hj:sIx items.size items.size hi≤items.size:=ahF _ _ (Nat.le_refl _) hi
 obtain⟨os,hos,hcs,hds⟩:=id hs
 have hTs:s.TypeIs (.ref sl) "slice":=⟨os,hos,hcs⟩
 unfold getItem
 try with_reducible refine wpAny_holding ?_
 first | refine wpAny_bind (wpAny_pure ?_) | skip
 refine wpAny_bind (wpAny_sequenceKey ht.typeIs (by decide) ?_)
 refine wpAny_bind (wpAny_callSpecial?_slot (name:=Str.ofString "__getitem__") ht.typeIs PyProof.Rows.slot_tuple_getitem
  (wpAny_call_entry PyProof.Rows.slot_tuple_getitem ht.typeIs entry_tuple_getitem ?_ (args_tuple_getitem _ _)))
 show wpAny _ _ (Builtin.Tuple.tupleItemsOf (.ref t) >>= _) _ _ s
 refine wpAny_bind (tupleItemsOf_ ht ?_)
 refine wpAny_bind (wpAny_typeOf hTs ?_)
 rw [if_pos (by decide)]
 refine wpAny_bind (yg hs pl pu ?_)
 have hno:¬ ((((sIx items.size 0 lo:Nat):Int) == 0 && (1:Int) == 1 && (sIx items.size items.size hi - sIx items.size 0 lo) == items.size)=true):=by
  intro q
  rw [Bool.and_eq_true,Bool.and_eq_true] at q
  have q1:((sIx items.size 0 lo:Nat):Int)=0:=eq_of_beq q.1.1
  have q2:sIx items.size items.size hi - sIx items.size 0 lo=items.size:=eq_of_beq q.2
  exact hw ⟨by lia,by lia⟩
 show wpAny _ _ (if (((sIx items.size 0 lo:Nat):Int) == 0 && (1:Int) == 1 && (sIx items.size items.size hi - sIx items.size 0 lo) == items.size)=true then _ else _) _ _ s
 rw [if_neg hno,aeP]
 first
  | exact wpAny_bind (m:=Builtin.Tuple.tupleExact _) (wpAny_newObj_type (wpAny_pure ⟨_,rfl,wpAny_pure h⟩) UG)
  | exact wpAny_bind (m:=Builtin.Tuple.tupleExact _) (wpAny_newObj_type (wpAny_bind (wpAny_pure (wpAny_pure ⟨_,rfl,wpAny_pure h⟩))) UG)
  | exact wpAny_bind (wpAny_bind (m:=Builtin.Tuple.tupleExact _) (wpAny_newObj_type (wpAny_pure (wpAny_pure ⟨_,rfl,wpAny_pure h⟩)) UG))
  | exact wpAny_bind (wpAny_bind (m:=Builtin.Tuple.tupleExact _) (wpAny_newObj_type (wpAny_pure ⟨_,rfl,wpAny_pure h⟩) UG))
end
end HT
namespace L2
open PySem PySem.Spec PyProof.Rows
abbrev TO:=St→Hp→(Option Int→Hp→Prop)→Prop
def PO (X:Cx) (e:Option Expr) (t:TO):Prop :=
 ∀ (pins:List (Addr×Obj)) (s:Shared) (σ:St) (H:Hp) (Q:Option Int→Hp→Prop),Inv X pins σ H s→t σ H Q →
  wpAny (model X.prog X.w) X.A (evalPart e X.env) (fun u s'=>∃ o H',Inv X pins σ H' s'∧IsPart u o∧Q o H') X.xe s
def QB:TO:=fun _ H Q=>Q none H
def afP (t:TE):TO:=fun σ H Q=>t σ H fun x H1=>∃ i,x=.int i∧Q (some i) H1
theorem intsAre_of {ns:List Int}:∀ {us:List Value},Vals (ns.map V.int) us→IntsAre us ns:=by
 induction ns with
 | nil=>intro us r; rw [List.map_nil] at r; cases r; exact .nil
 | cons n ns ih =>
  intro us r
  rw [List.map_cons] at r
  cases r with
  | cons r1 r2 =>
   obtain⟨t,e⟩:=r1
   subst e
   exact .cons n t (ih r2)
section
variable {X:Cx}{e:Expr}{te:TE}{lo hi:Option Expr}{tl th:TO}{pos p2:Pos}
theorem ags:PO X none QB:=by
 intro pins s σ H Q I h
 rw [evalPart_none]
 exact wpAny_pure ⟨none,H,I,.none,h⟩
theorem agr (h:PE X e te):PO X (some e) (afP te):=by
 intro pins s σ H Q I hw
 rw [evalPart_some]
 refine thn (h pins s σ H _ I hw) fun u s1 ⟨x,H1,I1,r1,q1⟩=>?_
 obtain⟨i,rfl,q⟩:=q1
 obtain⟨t,rfl⟩:=r1
 exact⟨some i,H1,I1,.int i t,q⟩
def SlR (X:Cx) (r:V→Option Int→Option Int→Hp→VK→Prop):Prop :=
 ∀ (pins:List (Addr×Obj)) (s:Shared) (σ:St) (H:Hp) (x:V) (v vl vu:Value) (lo hi:Option Int) (sl:Addr) (Q:VK),Inv X pins σ H s→RelV x v→s.heap.IsSliceOf sl vl vu .none→IsPart vl lo→IsPart vu hi→r x lo hi H Q →
  ∃ T id,typeLookup (.type T) "__getitem__"=pure (some (.builtin id))∧s.TypeIs v T∧wpAny (model X.prog X.w) X.A (getItem v (.ref sl)) (EP X pins σ Q) X.xe s
def tSl (r:V→Option Int→Option Int→Hp→VK→Prop) (te:TE) (tl th:TO):TE:=fun σ H Q=>te σ H fun x H1=>tl σ H1 fun l H2=>th σ H2 fun u H3=>r x l u H3 Q
theorem aeQ {r:V→Option Int→Option Int→Hp→VK→Prop} (hr:SlR X r) (he:PE X e te) (hl:PO X lo tl) (hu:PO X hi th):PE X (.Subscript e (.Slice lo hi none p2) pos) (tSl r te tl th):=by
 intro pins s σ H Q I h
 refine Subscript_ (thn (he pins s σ H _ I h) fun v s1 ⟨x,H1,I1,r1,q1⟩=>?_)
 refine wpAny_Slice (thn (hl pins s1 σ H1 _ I1 q1) fun vl s2 ⟨l,H2,I2,pl,q2⟩=>thn (hu pins s2 σ H2 _ I2 q2) fun vu s3 ⟨u,H3,I3,pu,q3⟩=>?_)
 rw [evalPart_none]
 refine wpAny_pure ?_
 have I4:Inv X pins σ H3 { s3 with heap:=s3.heap.push { cls:=.type "slice",data:=.fields #[vl,vu,.none] } }:=I3.kept (t':=s3.toks) fun b ob q=>Heap.get?_push_of_some _ q
 obtain⟨T,id,hT,ht,hg⟩:=hr pins { s3 with heap:=s3.heap.push { cls:=.type "slice",data:=.fields #[vl,vu,.none] } } σ H3 x v vl vu l u s3.heap.objs.size Q I4 r1 (Heap.IsSliceOf.new ..) pl pu q3
 show wpAny (model X.prog X.w) X.A (subscriptTail e (.Slice lo hi none p2) v (.ref s3.heap.objs.size)) (EP X pins σ Q) X.xe { s3 with heap:=s3.heap.push { cls:=.type "slice",data:=.fields #[vl,vu,.none] } }
 exact tail_any (ops:=[.ref s3.heap.objs.size,v]) ht hT hg (by with_unfolding_all rfl)
def iK (xs:List V) (lo hi:Option Int):List V:=(xs.drop (HT.sIx xs.length 0 lo)).take (HT.sIx xs.length xs.length hi - HT.sIx xs.length 0 lo)
theorem Kw (xs:List V) (lo hi:Option Int):(iK xs lo hi).length≤xs.length:=by
 unfold iK
 rw [List.length_take,List.length_drop]
 lia
def alp (K:PySem.W.Frag):V→Option Int→Option Int→Hp→VK→Prop:=fun x lo hi H Q=>∃ a xs,x=.ref a∧SqT K H a xs ∧
 ¬ (HT.sIx xs.length 0 lo=0∧HT.sIx xs.length xs.length hi=xs.length)∧∀ p,H p=none→Q (.ref p) (upd H p (.tup (iK xs lo hi)))
theorem ahC:SlR X (alp X.K):=by
 intro pins s σ H x v vl vu lo hi sl Q I rx hs pl pu h
 obtain⟨a,xs,rfl,hx,hw,q⟩:=h
 cases rx
 obtain⟨its,r,ht,hz⟩:=I.tuple hx
 have hlen:its.toArray.size=xs.length:=by rw [List.size_toArray]; exact r.length.symm
 refine⟨"tuple",_,PyProof.Rows.slot_tuple_getitem.lookup,ht.typeIs,?_⟩
 refine HT.Kf ht hs pl pu (by rw [hlen]; exact hw) ?_ (by rw [hlen]; exact hz)
 rw [hlen]
 refine⟨.ref s.heap.objs.size,_,I.laid (t':=s.toks) (o:=.tup (iK xs lo hi)) (fun b ob q=>Heap.get?_push_of_some _ q) (Nat.le_refl _) ?_,rfl,q _ (I.hok.fresh (Nat.le_refl _))⟩
 exact⟨Nat.le_trans (Kw xs lo hi) hz,_,(r.drop (HT.sIx xs.length 0 lo)).take (HT.sIx xs.length xs.length hi - HT.sIx xs.length 0 lo),IsTup.new _ _⟩
def akd (K:PySem.W.Frag):R2:=fun x y H Q=>∃ a b xs ys,x=.ref a∧y=.ref b∧SqT K H a xs∧SqT K H b ys∧xs≠[]∧xs.length+ys.length≤sizeLine ∧
 (ys=[]→Q (.ref a) H)∧(ys≠[]→∀ p,H p=none→Q (.ref p) (upd H p (.tup (xs++ys))))
theorem Vals.Ca {xs:List V}{us:List Value} (r:Vals xs us):us=[]↔xs=[]:=by
 cases r with
 | nil=>simp
 | cons _ _=>simp
theorem agA:OpR X (binaryOp .Add) (akd X.K):=by
 intro pins s σ H x y v u Q I rx ry h
 obtain⟨a,b,xs,ys,rfl,rfl,ha,hb,hx,hz,q1,q2⟩:=h
 cases rx
 cases ry
 obtain⟨its,r1,p1,_⟩:=I.tuple ha
 obtain⟨its2,r2,p2,_⟩:=I.tuple hb
 refine HT.ag8 p1 p2 (fun z=>hx (r1.Ca.mp z)) (fun z=>⟨.ref a,H,I,rfl,q1 (r2.Ca.mp z)⟩) (fun z=>?_) (by rw [← r1.length,← r2.length]; exact hz)
 refine⟨.ref s.heap.objs.size,_,I.laid (t':=s.toks) (o:=.tup (xs++ys)) (fun b ob q=>Heap.get?_push_of_some _ q) (Nat.le_refl _) ?_,rfl,q2 (fun w=>z (r2.Ca.mpr w)) _ (I.hok.fresh (Nat.le_refl _))⟩
 exact⟨by rw [List.length_append]; exact hz,_,r1.append r2,IsTup.new _ _⟩
end
end L2
namespace L2
open PySem PySem.Spec PyProof.Rows
def ixN (n:Nat) (i:Int):Option Nat:=if 0≤i then (if i<n then some i.toNat else none) else if -(n:Int)≤i then some (i+n).toNat else none
def atI {α:Type} (xs:List α) (i:Int):Option α:=(ixN xs.length i).bind fun j=>xs[j]?
theorem ixN_seq {n:Nat}{i:Int}{j:Nat} (h:ixN n i=some j):seqIndex? i n=some j∧j<n∧-(n:Int)≤i∧i<n:=by
 unfold ixN at h
 by_cases h0:0≤i
 ·rw [if_pos h0] at h
  by_cases h1:i<n
  ·rw [if_pos h1] at h
   have e:i.toNat=j:=Option.some.inj h
   exact⟨by rw [seqIndex_of h0 h1,e],by lia,by lia,h1⟩
  ·rw [if_neg h1] at h; cases h
 ·rw [if_neg h0] at h
  by_cases h1:-(n:Int)≤i
  ·rw [if_pos h1] at h
   have e:(i+n).toNat=j:=Option.some.inj h
   exact⟨by rw [seqIndex_neg (by lia) h1,e],by lia,h1,by lia⟩
  ·rw [if_neg h1] at h; cases h
theorem atI_get {α:Type}{xs:List α}{i:Int}{v:α} (h:atI xs i=some v):∃ j,seqIndex? i xs.length=some j∧xs[j]?=some v∧j<xs.length∧-(xs.length:Int)≤i∧i<xs.length:=by
 unfold atI at h
 cases e:ixN xs.length i with
 | none=>rw [e] at h; cases h
 | some j =>
  rw [e] at h
  obtain⟨h1,h2,h3,h4⟩:=ixN_seq e
  exact⟨j,h1,h,h2,h3,h4⟩
theorem atI_nat {α:Type}{xs:List α}{j:Nat}{v:α} (h:xs[j]?=some v):atI xs (j:Int)=some v:=by
 have hj:j<xs.length:=(List.getElem?_eq_some_iff.mp h).1
 have e:ixN xs.length (j:Int)=some j:=by
  unfold ixN
  rw [if_pos (by lia),if_pos (by lia)]; simp
 unfold atI; rw [e]; exact h
def PlainIx (b:Expr):Prop:=∀ o i,subscripted b false o i=operate [o,i] (getItem o i)
def IxR (X:Cx) (r:R2):Prop :=
 ∀ (value slice:Expr) (pins:List (Addr×Obj)) (s:Shared) (σ:St) (H:Hp) (x y:V) (v u:Value) (Q:VK),Inv X pins σ H s→RelV x v→RelV y u→r x y H Q →
  subscripted slice false v u=operate [v,u] (getItem v u)→wpAny (model X.prog X.w) X.A (subscriptTail value slice v u) (EP X pins σ Q) X.xe s
def MtR (X:Cx) (id:String) (r:V→List V→Hp→VK→Prop):Prop :=
 ∀ (pins:List (Addr×Obj)) (s:Shared) (σ:St) (H:Hp) (x:V) (xs:List V) (v:Value) (us:List Value) (Q:VK),Inv X pins σ H s→RelV x v→Vals xs us→r x xs H Q →
  wpAny (model X.prog X.w) X.A (call (.builtin id) (v::us)) (EP X pins σ Q) X.xe s
section
variable {X:Cx}{a b:Expr}{ta tb:TE}{pos:Pos}
theorem pe_ix {r:R2} (hr:IxR X r) (ha:PE X a ta) (hb:PE X b tb) (hs:PlainIx b):PE X (.Subscript a b pos) (tOp r ta tb):=by
 intro pins s σ H Q I h
 exact Subscript_ (binT ha hb I h fun v u s2 x y H2 I2 rx ry q=>hr a b pins s2 σ H2 x y v u Q I2 rx ry q (hs _ _))
def rIxL (K:PySem.W.Frag):R2:=fun x y H Q=>∃ p xs i v,x=.ref p∧y=.int i∧SqL K H p xs∧atI xs i=some v∧Q v H
def aeJ (K:PySem.W.Frag):R2:=fun x y H Q=>∃ p xs i v,x=.ref p∧y=.int i∧SqT K H p xs∧atI xs i=some v∧Q v H
theorem ix_list:IxR X (rIxL X.K):=by
 intro value slice pins s σ H x y v u Q I rx ry h hs
 obtain⟨p,xs,i,z,rfl,rfl,hq,he,q⟩:=h
 cases rx
 obtain⟨t,rfl⟩:=ry
 obtain⟨its,r,pl,hz⟩:=I.list hq
 obtain⟨j,h1,h2,h3,h4,h5⟩:=atI_get he
 obtain⟨w,ew,rw'⟩:=r.get h2
 have hl:=r.length
 have hn:=line63
 have fin:EP X pins σ Q w s:=⟨z,H,I,rw',q⟩
 by_cases h0:0≤i
 ·have hj:i.toNat=j:=by
   rw [seqIndex_of h0 h5] at h1
   exact Option.some.inj h1
  exact item_listR pl.isList h0 (by lia) (by rw [hj]; simpa using ew) fin hs
 ·have hj:(i+(its.toArray.size:Int)).toNat=j:=by
   rw [seqIndex_neg (by lia) h4] at h1
   rw [List.size_toArray,← hl]
   exact Option.some.inj h1
  exact subscriptTail_builtinR (x:=w) pl.isList.typeIs slot_list_getitem.lookup
   (wpAny_getItem_list_neg (Q:=fun r s'=>r=w∧EP X pins σ Q r s') pl.isList (by lia) (by rw [List.size_toArray] <;> lia) (by lia) (by rw [hj]; simpa using ew) ⟨rfl,fin⟩) hs
theorem jl:IxR X (aeJ X.K):=by
 intro value slice pins s σ H x y v u Q I rx ry h hs
 obtain⟨p,xs,i,z,rfl,rfl,hq,he,q⟩:=h
 cases rx
 obtain⟨t,rfl⟩:=ry
 obtain⟨its,r,pl,hz⟩:=I.tuple hq
 obtain⟨j,h1,h2,h3,h4,h5⟩:=atI_get he
 obtain⟨w,ew,rw'⟩:=r.get h2
 have hl:=r.length
 have hn:=line63
 have fin:EP X pins σ Q w s:=⟨z,H,I,rw',q⟩
 exact subscriptTail_builtinR (x:=w) pl.typeIs slot_tuple_getitem.lookup
  (getItem_tuple (j:=j) (Q:=fun r s'=>r=w∧EP X pins σ Q r s') pl (by lia) (by lia) (by rw [List.size_toArray,← hl]; exact h1) (by simpa using ew) ⟨rfl,fin⟩) hs
theorem abh (its:List Value) (n j:Nat) (u:Value):Obj.mapSeq (·.setIfInBounds j u) { cls:=.type "list",data:=.seq its.toArray n }={ cls:=.type "list",data:=.seq (its.set j u).toArray n }:=by
 simp [Obj.mapSeq]
theorem Inv.lst {pins:List (Addr×Obj)}{σ:St}{H:Hp}{s:Shared}{p:Addr}{xs:List V} (I:Inv X pins σ H s) (h:H p=some (.lst xs)) :
  ∃ (its:List Value) (n:Nat),Vals xs its∧s.heap.get? p=some { cls:=.type "list",data:=.seq its.toArray n }∧xs.length≤sizeLine:=by
 obtain⟨z,its,n,r,e⟩:=I.hok p _ h
 exact⟨its,n,r,e,z⟩
theorem Inv.aiz {pins:List (Addr×Obj)}{σ:St}{H:Hp}{s:Shared}{p:Addr}{xs ys:List V}{its its':List Value}{n n':Nat}{f:Obj→Obj} (I:Inv X pins σ H s) (h:H p=some (.lst xs))
  (ho:s.heap.get? p=some { cls:=.type "list",data:=.seq its.toArray n }) (hf:f { cls:=.type "list",data:=.seq its.toArray n }={ cls:=.type "list",data:=.seq its'.toArray n' }) (r:Vals ys its') (hz:ys.length≤sizeLine) (t:Nat) :
  Inv X pins σ (upd H p (.lst ys)) { s with heap:=s.heap.update p f,toks:=t }:=by
 have e:(s.heap.update p f).get? p=some { cls:=.type "list",data:=.seq its'.toArray n' }:=by
  rw [Heap.get?_update_self f ho (by rw [hf] <;> rfl),hf]
 refine I.write (x:=p) (e:=p) (by rw [h]; trivial) (.inl rfl) (fun b u hb q=>(Heap.get?_update_other _ _ (Ne.symm hb)).trans q) ⟨_,e⟩ ?_
 exact⟨hz,its',n',r,e⟩
def aj9:V→V→V→Hp→(Hp→Prop)→Prop:=fun o i v H Q=>∃ p xs k j,o=.ref p∧i=.int k∧H p=some (.lst xs)∧ixN xs.length k=some j∧Q (upd H p (.lst (xs.set j v)))
theorem set_list:Yj X aj9:=by
 intro pins s σ H o i v ov iv u Q I ro ri rv h
 obtain⟨p,xs,k,j,rfl,rfl,hp,hj,q⟩:=h
 cases ro
 obtain⟨t,rfl⟩:=ri
 obtain⟨its,n,r,ho,hz⟩:=I.lst hp
 obtain⟨h1,h2,h3,h4⟩:=ixN_seq hj
 have hl:=r.length
 have hn:=line63
 have I':Inv X pins σ (upd H p (.lst (xs.set j v))) { s with heap:=s.heap.update p (Obj.mapSeq (·.setIfInBounds j u)) } :=
  I.aiz hp ho (abh its n j u) (r.set rv j) (by rw [List.length_set]; exact hz) s.toks
 by_cases h0:0≤k
 ·have hk:k.toNat=j:=by
   rw [seqIndex_of h0 h4] at h1
   exact Option.some.inj h1
  exact PySem.W.ki_setAt ho h0 (by lia) (by rw [List.size_toArray,← hl]; exact h4) (by rw [hk]; exact⟨_,I',q⟩)
 ·have hk:(k+(its.toArray.size:Int)).toNat=j:=by
   rw [seqIndex_neg (by lia) h3] at h1
   rw [List.size_toArray,← hl]
   exact Option.some.inj h1
  exact PySem.W.ki_setBack ho (by lia) (by rw [List.size_toArray,← hl]; exact h3) (by lia) (by rw [hk]; exact⟨_,I',q⟩)
theorem Vu (lo hi:Option Int) (n:Nat):(sliceBounds lo hi none n).1=((HT.sIx n 0 lo:Nat):Int)∧(sliceBounds lo hi none n).2.1=((HT.sIx n n hi:Nat):Int)∧(sliceBounds lo hi none n).2.2=1:=by
 refine⟨?_,?_,rfl⟩
 ·cases lo with
  | none=>simp [sliceBounds,HT.sIx]
  | some i =>
   simp only [sliceBounds,HT.sIx,Option.getD_none,show (1:Int) > 0 by decide,if_true]
   by_cases h:i<0
   ·simp only [h,if_true] <;> lia
   ·simp only [h,if_false] <;> lia
 ·cases hi with
  | none=>simp [sliceBounds,HT.sIx]
  | some i =>
   simp only [sliceBounds,HT.sIx,Option.getD_none,show (1:Int) > 0 by decide,if_true]
   by_cases h:i<0
   ·simp only [h,if_true] <;> lia
   ·simp only [h,if_false] <;> lia
theorem Ua (its:List Value) (lo hi:Option Int):slicePick its.toArray lo hi none=((its.drop (HT.sIx its.length 0 lo)).take (HT.sIx its.length its.length hi - HT.sIx its.length 0 lo)).toArray:=by
 obtain⟨h1,h2,h3⟩:=Vu lo hi its.toArray.size
 unfold slicePick
 rw [h1,h2,h3]
 simp only [sliceRange_one,pick_run,List.size_toArray] <;> rfl
def alq (K:PySem.W.Frag):V→Option Int→Option Int→Hp→VK→Prop:=fun x lo hi H Q=>∃ a xs,x=.ref a∧SqL K H a xs∧∀ p,H p=none→Q (.ref p) (upd H p (.lst (iK xs lo hi)))
theorem Jz:SlR X (alq X.K):=by
 intro pins s σ H x v vl vu lo hi sl Q I rx hs pl pu h
 obtain⟨a,xs,rfl,hx,q⟩:=h
 cases rx
 obtain⟨its,r,ht,hz⟩:=I.list hx
 have hlen:=r.length
 refine⟨"list",_,slot_list_getitem.lookup,ht.isList.typeIs,?_⟩
 refine wpAny_getItem_list_slice ht.isList hs pl pu .none (by simp) ?_ (by rw [List.size_toArray] <;> lia)
 rw [Ua,← hlen]
 refine⟨.ref s.heap.objs.size,_,I.laid (t':=s.toks) (o:=.lst (iK xs lo hi)) (fun b ob q=>Heap.get?_push_of_some _ q) (Nat.le_refl _) ?_,rfl,q _ (I.hok.fresh (Nat.le_refl _))⟩
 exact⟨Nat.le_trans (Kw xs lo hi) hz,_,0,(r.drop (HT.sIx xs.length 0 lo)).take (HT.sIx xs.length xs.length hi - HT.sIx xs.length 0 lo),Heap.get?_push_size _ rfl⟩
def JX:V→Bool
 | .non=>true
 | .bl _=>true
 | .int _=>true
 | .str _=>true
 | _=>false
def eqV:V→V→Bool
 | .non,.non=>true
 | .bl a,.bl b=>a == b
 | .bl a,.int b=>(if a then 1 else 0) == b
 | .int a,.bl b=>a == (if b then 1 else 0)
 | .int a,.int b=>a == b
 | .str a,.str b=>a == b
 | _,_=>false
theorem aiQ {A:Around}{s:Shared}{y x:V}{u v:Value} (ry:RelV y u) (rx:RelV x v) (fy:JX y=true) (fx:JX x=true):SeqAt.EqAt A s u v (eqV y x):=by
 cases y with
 | non =>
  cases ry
  cases x with
  | non=>cases rx; exact SeqAt.EqAt.same _
  | bl b=>cases rx; exact SeqAt.EqAt.none_bool b
  | int b=>obtain⟨t,rfl⟩:=rx; exact SeqAt.EqAt.none_int b t
  | str b=>obtain⟨t,rfl⟩:=rx; exact SeqAt.EqAt.none_str b t
  | _=>exact absurd (show false=true from fx) Bool.false_ne_true
 | bl a =>
  cases ry
  cases x with
  | non=>cases rx; exact SeqAt.EqAt.bool_none a
  | bl b=>cases rx; exact SeqAt.EqAt.bool_bool a b
  | int b=>obtain⟨t,rfl⟩:=rx; exact SeqAt.EqAt.bool_int a b t
  | str b=>obtain⟨t,rfl⟩:=rx; exact SeqAt.EqAt.bool_str a b t
  | _=>exact absurd (show false=true from fx) Bool.false_ne_true
 | int a =>
  obtain⟨t',rfl⟩:=ry
  cases x with
  | non=>cases rx; exact SeqAt.EqAt.int_none a t'
  | bl b=>cases rx; exact SeqAt.EqAt.int_bool a t' b
  | int b=>obtain⟨t,rfl⟩:=rx; exact SeqAt.EqAt.int_int a t' b t
  | str b=>obtain⟨t,rfl⟩:=rx; exact SeqAt.EqAt.int_str a t' b t
  | _=>exact absurd (show false=true from fx) Bool.false_ne_true
 | str a =>
  obtain⟨t',rfl⟩:=ry
  cases x with
  | non=>cases rx; exact SeqAt.EqAt.str_none a t'
  | bl b=>cases rx; exact SeqAt.EqAt.str_bool a t' b
  | int b=>obtain⟨t,rfl⟩:=rx; exact SeqAt.EqAt.str_int a t' b t
  | str b=>obtain⟨t,rfl⟩:=rx; exact SeqAt.EqAt.str_str a t' b t
  | _=>exact absurd (show false=true from fx) Bool.false_ne_true
 | _=>exact absurd (show false=true from fy) Bool.false_ne_true
def eqU (x:V) (u:Value):Bool:=match u with
 | .none=>eqV .non x
 | .bool b=>eqV (.bl b) x
 | .int i _=>eqV (.int i) x
 | .str z _=>eqV (.str z) x
 | _=>false
theorem adF {x y:V}{u:Value} (r:RelV y u) (f:JX y=true):eqU x u=eqV y x:=by
 cases y with
 | non=>cases r; rfl
 | bl b=>cases r; rfl
 | int i=>obtain⟨t,rfl⟩:=r; rfl
 | str z=>obtain⟨t,rfl⟩:=r; rfl
 | _=>exact absurd (show false=true from f) Bool.false_ne_true
theorem Wv {A:Around}{s:Shared}{x:V}{v:Value} (rx:RelV x v) (fx:JX x=true):∀ {xs:List V}{us:List Value},Vals xs us→xs.all JX=true→∀ u∈us,SeqAt.EqAt A s u v (eqU x u)
 | _,_,.nil,_=>fun u hu=>by cases hu
 | y::xs,u::us,.cons r t,f=>fun u' hu=>by
  rw [List.all_cons,Bool.and_eq_true] at f
  rcases List.mem_cons.mp hu with rfl | hu
  ·rw [adF r f.1]; exact aiQ r rx f.1 fx
  ·exact Wv rx fx t f.2 u' hu
theorem call_len_seq:CallR X (.builtin "len") (fun xs H Q=>∃ p ys,xs=[.ref p]∧(SqL X.K H p ys∨SqT X.K H p ys)∧Q (.int ys.length) H):=by
 intro pins s σ H xs us Q I r h
 obtain⟨p,ys,rfl,hq,q⟩:=h
 obtain⟨u,rfl,rx⟩:=vals1 r
 cases rx
 have hn:=line63
 rcases hq with hq | hq
 ·obtain⟨its,r',pl,hz⟩:=I.list hq
  have hlen:=r'.length
  exact Calls.call_len_list pl.isList (by simp only [List.size_toArray] <;> lia) ⟨.int ys.length,H,I.tok _,⟨s.toks+1,by rw [List.size_toArray,hlen]⟩,q⟩
 ·obtain⟨its,r',pl,hz⟩:=I.tuple hq
  have hlen:=r'.length
  exact len_tuple pl (by simp only [List.size_toArray] <;> lia) ⟨.int ys.length,H,I.tok _,⟨s.toks+1,by rw [List.size_toArray,hlen]⟩,q⟩
theorem gD:CallR X (.type "tuple") (fun xs H Q=>∃ p ys,xs=[.ref p]∧((SqL X.K H p ys∧∀ l,H l=none→Q (.ref l) (upd H l (.tup ys)))∨(SqT X.K H p ys∧Q (.ref p) H))):=by
 intro pins s σ H xs us Q I r h
 obtain⟨p,ys,rfl,h⟩:=h
 obtain⟨u,rfl,rx⟩:=vals1 r
 cases rx
 rcases h with⟨hq,q⟩ | ⟨hq,q⟩
 ·obtain⟨its,r',pl,hz⟩:=I.list hq
  have hlen:=r'.length
  refine call_tuple_list pl.isList (fun h' kp=>?_) (by simp only [List.size_toArray] <;> lia)
  have I1:Inv X pins σ H { s with heap:=h' }:=I.kept (t':=s.toks) kp
  have I2:Inv X pins σ (upd H h'.objs.size (.tup ys)) { s with heap:=h'.push { cls:=.type "tuple",data:=.seq its.toArray } } :=
   I1.laid (t':=s.toks) (fun b o e=>Heap.get?_push_of_some _ e) (Nat.le_refl _) (show ObjOk X.prog X.w _ _ _ (.tup ys) from ⟨hz,its,r',IsTup.new _ _⟩)
  exact⟨.ref h'.objs.size,_,I2,rfl,q _ (I1.hok.fresh (Nat.le_refl _))⟩
 ·obtain⟨its,r',pl,hz⟩:=I.tuple hq
  exact call_tuple_same pl ⟨.ref p,H,I,rfl,q⟩
def tyV (K:PySem.W.Frag) (T:String) (x:V) (H:Hp):Prop:=match x with
 | .str _=>T="str"
 | .int _=>T="int"
 | .ref p=>(T="list"∧∃ xs,SqL K H p xs)∨(T="tuple"∧∃ o,K.lookup p=some o∧o.cls=.type "tuple"∧o.dict=none) ∨
   (T="dict"∧((∃ kvs,H p=some (.dK kvs))∨∃ kvs,H p=some (.dT kvs)))∨(T="set"∧∃ S n,H p=some (.set S n))
 | _=>False
theorem acC {pins:List (Addr×Obj)}{σ:St}{H:Hp}{s:Shared}{T:String}{x:V}{v:Value} (I:Inv X pins σ H s) (r:RelV x v) (ty:tyV X.K T x H) :
  s.TypeIs v T∧∀ a,v=.ref a→∃ ob,s.heap.get? a=some ob∧ob.dict=none:=by
 cases x with
 | str z =>
  obtain⟨t,rfl⟩:=r
  cases (show T="str" from ty)
  exact⟨typeIs_str s z t,fun _ e=>nomatch e⟩
 | int i =>
  obtain⟨t,rfl⟩:=r
  cases (show T="int" from ty)
  exact⟨typeIs_int s i t,fun _ e=>nomatch e⟩
 | ref p =>
  cases r
  rcases ty with⟨rfl,xs,hq⟩ | ⟨rfl,o,hk,hc,hd⟩ | ⟨rfl,hk⟩ | ⟨rfl,S,n,hk⟩
  ·obtain⟨its,_,pl,_⟩:=I.list hq
   refine⟨pl.isList.typeIs,fun a e=>?_⟩
   cases e
   obtain⟨o,n,e,c,hd,_⟩:=pl
   exact⟨o,e,hd⟩
  ·refine⟨⟨o,I.kIn p o hk,hc⟩,fun a e=>?_⟩
   cases e
   exact⟨o,I.kIn _ o hk,hd⟩
  ·have z:∃ o,s.heap.get? p=some o∧o.ExactDict:=by
    rcases hk with⟨kvs,hk⟩ | ⟨kvs,hk⟩
    ·obtain⟨_,_,_,_,o,_,_,e,ex,_⟩:=I.hok p _ hk
     exact⟨o,e,ex⟩
    ·obtain⟨_,_,_,_,o,_,_,e,ex,_⟩:=I.hok p _ hk
     exact⟨o,e,ex⟩
   obtain⟨o,e,ex⟩:=z
   refine⟨⟨o,e,ex.1⟩,fun a e2=>?_⟩
   cases e2
   exact⟨o,e,ex.2.1⟩
  ·obtain⟨o,_,_,_,e,ex,_⟩:=I.hok p _ hk
   refine⟨⟨o,e,ex.1⟩,fun a e2=>?_⟩
   cases e2
   exact⟨o,e,ex.2.1⟩
 | _=>exact False.elim ty
def ahz (K:PySem.W.Frag) (T:String) (r:V→List V→Hp→VK→Prop) (to:TE):TE:=fun σ H Q=>to σ H fun x H1=>tyV K T x H1∧r x [] H1 Q
def tBM (K:PySem.W.Frag) (T:String) (r:V→List V→Hp→VK→Prop) (to:TE) (t:TA):TE:=fun σ H Q=>to σ H fun x H1=>tyV K T x H1∧t σ H1 fun xs H2=>r x xs H2 Q
variable {o e:Expr}{es:List Expr}{to:TE}{t:TA}{name:Str}{apos cpos:Pos}{T id:String}{r:V→List V→Hp→VK→Prop}
theorem ah7 (pa:PlainAttrs T) (slot:Slot T name id) (hty:typeOf (.builtin id)=pure (.type "method_descriptor")) (hm:MtR X id r) (ho:PE X o to)
  (hbase:attributeBase o name X.env (eval o X.env)=eval o X.env:=by rfl) (hline:(apos.endLine == cpos.line)=true:=by rfl):PE X (.Call (.Attribute o name apos) [] [] cpos) (ahz X.K T r to):=by
 intro pins s σ H Q I h
 refine wpAny_Call_method0_late hbase hline (thn (ho pins s σ H _ I h) fun v s1 ⟨x,H1,I1,r1,ty,q1⟩=>?_)
 obtain⟨h1,h2⟩:=acC I1 r1 ty
 exact⟨T,id,pa,slot,hty,h1,h2,Calls.callWith_builtin rfl (PySem.evalArgs_none (hm pins s1 σ H1 x [] v [] Q I1 r1 .nil q1))⟩
theorem akj (pa:PlainAttrs T) (slot:Slot T name id) (hty:typeOf (.builtin id)=pure (.type "method_descriptor")) (hm:MtR X id r) (ho:PE X o to) (ha:PA X (e::es) t)
  (hbase:attributeBase o name X.env (eval o X.env)=eval o X.env:=by rfl)
  (hfew:((backTo cpos (starEach (e::es) X.env)).all (fun x=>!x.1) && (backToKw cpos (keywordEach [] X.env)).all (fun x=>x.1.isSome)
   && decide ((e::es).length+([]:List Keyword).length+(if ([]:List Keyword).isEmpty then 0 else 1)<30))=true:=by rfl)
  (hline:(apos.endLine == cpos.line)=true:=by rfl) (hs:starEach (e::es) X.env=(false,eval e X.env)::starEach es X.env:=by rfl) (hplain:(backTo cpos (starEach es X.env)).any (·.1)=false:=by rfl) :
  PE X (.Call (.Attribute o name apos) (e::es) [] cpos) (tBM X.K T r to t):=by
 intro pins s σ H Q I h
 refine wpAny_Call_method_late hbase hfew hline rfl (thn (ho pins s σ H _ I h) fun v s1 ⟨x,H1,I1,r1,ty,q1⟩=>?_)
 obtain⟨h1,h2⟩:=acC I1 r1 ty
 refine⟨T,id,pa,slot,hty,h1,h2,?_⟩
 have hA:=ha cpos pins s1 σ H1 _ I1 q1
 rw [hs] at hA ⊢
 refine Calls.callWith_builtin (by show (false || (backTo cpos (starEach es X.env)).any (·.1))=false; rw [hplain] <;> rfl) (Calls.evalArgs_plain ?_)
 exact thn hA fun us s2 ⟨vs,H2,I2,r2,q2⟩=>hm pins s2 σ H2 x vs v us Q I2 r1 r2 q2
end
end L2
namespace L2
open PySem PySem.Spec PyProof.Rows
def MtM (X:Cx) (id:String) (r:V→List V→Hp→VK→Prop):Prop :=
 ∀ (pins:List (Addr×Obj)) (s:Shared) (σ:St) (H:Hp) (x:V) (xs:List V) (v:Value) (us:List Value) (Q:VK),Inv X pins σ H s→RelV x v→Vals xs us→r x xs H Q →
  wpAny (model X.prog X.w) X.A (call (.builtin id) (v::us)) (EP X pins σ Q) X.xe s
theorem Vals.one:∀ {x:V}{us:List Value},Vals [x] us→∃ u,us=[u]∧RelV x u
 | _,_,.cons r .nil=>⟨_,rfl,r⟩
theorem Vals.zero:∀ {us:List Value},Vals [] us→us=[]
 | _,.nil=>rfl
theorem Vals.dropLast {xs:List V}{us:List Value} (h:Vals xs us):Vals xs.dropLast us.dropLast:=by
 induction h with
 | nil=>exact .nil
 | cons r t ih =>
  cases t with
  | nil=>exact .nil
  | cons q t'=>exact .cons r ih
theorem Vals.eraseIdx:∀ {xs:List V}{us:List Value} (i:Nat),Vals xs us→Vals (xs.eraseIdx i) (us.eraseIdx i)
 | _,_,_,.nil=>.nil
 | _,_,0,.cons _ t=>t
 | _,_,i+1,.cons r t=>.cons r (Vals.eraseIdx i t)
theorem Vals.reverse {xs:List V}{us:List Value} (h:Vals xs us):Vals xs.reverse us.reverse:=by
 induction h with
 | nil=>exact .nil
 | cons r t ih=>rw [List.reverse_cons,List.reverse_cons]; exact Vals.append ih (.cons r .nil)
theorem Vals.rep {xs:List V}{us:List Value} (h:Vals xs us):∀ k:Nat,Vals (List.replicate k xs).flatten (List.replicate k us).flatten
 | 0=>.nil
 | k+1=>by
  rw [List.replicate_succ,List.replicate_succ,List.flatten_cons,List.flatten_cons]
  exact Vals.append h (Vals.rep h k)
theorem abF {α:Type} (l:List α):l.eraseIdx (l.length - 1)=l.dropLast:=by
 induction l with
 | nil=>rfl
 | cons a r ih =>
  cases r with
  | nil=>rfl
  | cons b r =>
   have e:(a::b::r).length - 1=((b::r).length - 1)+1:=by
    have h1:(a::b::r).length=r.length+2:=rfl
    have h2:(b::r).length=r.length+1:=rfl
    lia
   rw [e,List.eraseIdx_cons_succ,ih]
   all_goals rfl
theorem TY {α:Type}:∀ (l:List α) (i:Nat),(l.eraseIdx i).length≤l.length
 | [],_=>Nat.le_refl _
 | _::_,0=>Nat.le_succ _
 | _::r,i+1=>Nat.succ_le_succ (TY r i)
theorem foldl_rep (its:List Value):∀ (k:Nat) (acc:List Value),
  List.foldl (fun x1 x2=>x1++x2) acc.toArray (List.replicate k its.toArray)=(acc++(List.replicate k its).flatten).toArray
 | 0,acc=>by simp
 | k+1,acc=>by
  have e:acc.toArray++its.toArray=(acc++its).toArray:=by simp
  have e2:(acc++its)++(List.replicate k its).flatten=acc++(List.replicate (k+1) its).flatten:=by
   rw [List.replicate_succ,List.flatten_cons,List.append_assoc]
  rw [← e2,← foldl_rep its k (acc++its),← e,List.replicate_succ,List.foldl_cons]
section
variable {X:Cx}{pins:List (Addr×Obj)}{σ:St}{H:Hp}{s:Shared}{l b:Addr}{xs ys zs:List V}
theorem Inv.WY {its its':List Value}{n:Nat}{f:Array Value→Array Value}{t':Nat} (I:Inv X pins σ H s) (hH:H l=some (.lst xs))
  (e:s.heap.get? l=some { cls:=.type "list",data:=.seq its.toArray n }) (hf:f its.toArray=its'.toArray) (hv:Vals ys its') (hz:ys.length≤sizeLine) :
  Inv X pins σ (upd H l (.lst ys)) { s with heap:=s.heap.update l (Obj.mapSeq f),toks:=t' }:=by
 have q:=PySem.IsL.update e f
 rw [hf] at q
 refine I.write (x:=l) (e:=l) (by rw [hH]; exact trivial) (.inl rfl) (fun b' u hb hu=>(Heap.get?_update_other s.heap (Obj.mapSeq f) (Ne.symm hb)).trans hu) ⟨_,q⟩ ?_
 exact⟨hz,its',_,hv,q⟩
theorem Inv.lnew {its:List Value}{t':Nat} (I:Inv X pins σ H s) (hv:Vals ys its) (hz:ys.length≤sizeLine) :
  Inv X pins σ (upd H s.heap.objs.size (.lst ys)) { s with heap:=s.heap.push { cls:=.type "list",data:=.seq its.toArray },toks:=t' } :=
 I.laid (fun _ _ q=>Heap.get?_push_of_some _ q) (Nat.le_refl _) ⟨hz,its,0,hv,Heap.get?_push_size _ rfl⟩
theorem Inv.fresh (I:Inv X pins σ H s):H s.heap.objs.size=none:=I.hok.fresh (Nat.le_refl _)
theorem Inv.lstM (I:Inv X pins σ H s) (hH:H l=some (.lst xs)):xs.length≤sizeLine∧∃ (its:List Value) (n:Nat),Vals xs its∧xs.length=its.length∧s.heap.get? l=some { cls:=.type "list",data:=.seq its.toArray n }:=by
 obtain⟨z,its,n,r,e⟩:=I.hok l _ hH
 exact⟨z,its,n,r,r.length,e⟩
theorem Mf {n:Nat} (h:n≤sizeLine):Builtin.List.listTooLong n=false:=by
 unfold Builtin.List.listTooLong
 exact decide_eq_false (by lia)
end
section
variable {X:Cx}
def agh:V→List V→Hp→VK→Prop:=fun x vs H Q=>∃ l xs y,x=.ref l∧vs=[y]∧H l=some (.lst xs)∧xs.length<sizeLine∧Q .non (upd H l (.lst (xs++[y])))
theorem cV:MtM X "list.append" agh:=by
 intro pins s σ H x vs v us Q I rx rv h
 obtain⟨l,xs,y,rfl,rfl,hH,hz,q⟩:=h
 cases rx
 obtain⟨u,rfl,ru⟩:=rv.one
 obtain⟨z,its,n,r,hl,e⟩:=I.lstM hH
 refine call_meets F.slot_list_append ⟨_,e,rfl⟩ F.entry_list_append (F.args_list_append_2 _ _) (PySem.list_append l its.toArray n u (by rw [List.size_toArray]; lia)) ⟨e,?_⟩
 refine⟨.non,_,I.WY (its':=its++[u]) hH e (by simp) (r.append (.cons ru .nil)) ?_,rfl,q⟩
 rw [List.length_append,List.length_singleton]
 lia
def als:V→List V→Hp→VK→Prop:=fun x vs H Q=>∃ l xs y,x=.ref l∧vs=[]∧H l=some (.lst xs)∧xs[xs.length - 1]?=some y∧Q y (upd H l (.lst xs.dropLast))
theorem tO:MtM X "list.pop" als:=by
 intro pins s σ H x vs v us Q I rx rv h
 obtain⟨l,xs,y,rfl,rfl,hH,hy,q⟩:=h
 cases rx
 have hus:=rv.zero
 subst hus
 obtain⟨z,its,n,r,hl,e⟩:=I.lstM hH
 obtain⟨u,hu,ru⟩:=r.get hy
 have hy':its.toArray[its.toArray.size - 1]?=some u:=by
  show its.toArray[its.length - 1]?=some u
  rw [← Array.getElem?_toList,← hl]
  exact hu
 refine call_meets F.slot_list_pop ⟨_,e,rfl⟩ F.entry_list_pop (F.args_list_pop_1 _) (MeetsSeq.list_pop_last l its.toArray n u hy' (by rw [List.size_toArray]; lia)) ⟨e,?_⟩
 refine⟨y,_,I.WY (its':=its.dropLast) hH e ?_ r.dropLast ?_,ru,q⟩
 ·show its.toArray.eraseIdxIfInBounds (its.toArray.size - 1)=its.dropLast.toArray
  rw [List.size_toArray,List.eraseIdxIfInBounds_toArray,abF]
 ·rw [List.length_dropLast]
  lia
def ahL:V→List V→Hp→VK→Prop:=fun x vs H Q=>∃ l xs i k y,x=.ref l∧vs=[.int i]∧H l=some (.lst xs)∧-(2 ^ 63)≤i∧i<2 ^ 63∧seqIndex? i xs.length=some k∧xs[k]?=some y∧Q y (upd H l (.lst (xs.eraseIdx k)))
theorem Mh:MtM X "list.pop" ahL:=by
 intro pins s σ H x vs v us Q I rx rv h
 obtain⟨l,xs,i,k,y,rfl,rfl,hH,h1,h2,hk,hy,q⟩:=h
 cases rx
 obtain⟨u,rfl,ru⟩:=rv.one
 obtain⟨t,rfl⟩:=ru
 obtain⟨z,its,n,r,hl,e⟩:=I.lstM hH
 obtain⟨w,hw,rw'⟩:=r.get hy
 refine call_meets F.slot_list_pop ⟨_,e,rfl⟩ F.entry_list_pop (F.args_list_pop_2 _ _)
  (MeetsSeq.list_pop_at l its.toArray n i t k w (fitsIndex_both h1 h2) (by rw [List.size_toArray,← hl]; exact hk) (by rw [← Array.getElem?_toList]; exact hw) (by rw [List.size_toArray]; lia)) ⟨e,?_⟩
 refine⟨y,_,I.WY (its':=its.eraseIdx k) hH e ?_ (r.eraseIdx k) ?_,rw',q⟩
 ·show its.toArray.eraseIdxIfInBounds k=(its.eraseIdx k).toArray
  rw [List.eraseIdxIfInBounds_toArray]
 ·have:=TY xs k
  lia
def rCat:R2:=fun x y H Q=>∃ l b xs zs,x=.ref l∧y=.ref b∧H l=some (.lst xs)∧H b=some (.lst zs)∧xs.length+zs.length≤sizeLine∧∀ p,H p=none→Q (.ref p) (upd H p (.lst (xs++zs)))
theorem op_cat:OpR X (binaryOp .Add) rCat:=by
 intro pins s σ H x y v u Q I rx ry h
 obtain⟨l,b,xs,zs,rfl,rfl,hH,hB,hz,q⟩:=h
 cases rx
 cases ry
 obtain⟨z,its,n,r,hl,e⟩:=I.lstM hH
 obtain⟨z2,its2,n2,r2,hl2,e2⟩:=I.lstM hB
 refine PySem.P.add_list e e2 ?_ (by rw [List.size_toArray,List.size_toArray]; lia)
 have ea:its.toArray++its2.toArray=(its++its2).toArray:=by simp
 rw [ea]
 exact⟨.ref _,_,I.lnew (t':=s.toks) (r.append r2) (by rw [List.length_append]; lia),rfl,q _ I.fresh⟩
def alr:R2:=fun x y H Q=>∃ l k xs,x=.ref l∧y=.int k∧H l=some (.lst xs)∧-(2 ^ 63)≤k∧k<2 ^ 63∧xs.length * k.toNat≤sizeLine ∧
 ∀ p,H p=none→Q (.ref p) (upd H p (.lst (List.replicate k.toNat xs).flatten))
theorem len_rep {α:Type} (xs:List α) (k:Nat):(List.replicate k xs).flatten.length=k * xs.length:=by
 induction k with
 | zero=>simp
 | succ k ih=>rw [List.replicate_succ,List.flatten_cons,List.length_append,ih,Nat.succ_mul,Nat.add_comm]
theorem ah9:OpR X (binaryOp .Mult) alr:=by
 intro pins s σ H x y v u Q I rx ry h
 obtain⟨l,k,xs,rfl,rfl,hH,h1,h2,hz,q⟩:=h
 cases rx
 obtain⟨t,rfl⟩:=ry
 obtain⟨z,its,n,r,hl,e⟩:=I.lstM hH
 have hlen:its.toArray.size * k.toNat≤sizeLine:=by rw [List.size_toArray,← hl]; exact hz
 have hcap:¬ its.toArray.size * k.toNat > (2 ^ 63 - 1) / 8:=by
  have:(sizeLine:Nat)≤(2 ^ 63 - 1) / 8:=by decide
  lia
 have hfit:¬ (!Builtin.List.listFitsIndex k)=true:=by
  rw [fitsIndex_both h1 h2]
  exact Bool.false_ne_true
 have aby:¬ Builtin.List.listTooLong (its.toArray.size * k.toNat)=true:=by
  rw [Mf hlen]
  exact Bool.false_ne_true
 have hnew:List.foldl (fun x1 x2=>x1++x2) #[] (List.replicate (if its.toArray.isEmpty=true then 0 else k.toNat) its.toArray)=(List.replicate k.toNat its).flatten.toArray:=by
  have f0:∀ m:Nat,List.foldl (fun x1 x2=>x1++x2) #[] (List.replicate m its.toArray)=(List.replicate m its).flatten.toArray:=fun m=>by
   have:=foldl_rep its m []
   rw [List.nil_append] at this
   exact this
  rw [f0]
  cases its with
  | nil=>simp
  | cons a r'=>rw [if_neg (by simp)]
 refine wpAny_binaryOp_repeat_ref (T:="list") (U:="int") (by decide) ⟨_,e,rfl⟩ (fun s'=>typeIs_int s' k t) noFill_list_mul F.fills_int_mul F.slot_int_rmul repeat_list F.slot_int_index.lookup
  (call_meets F.slot_int_rmul (typeIs_int s k t) F.entry_int_rmul (F.args_int_rmul_2 _ _) (int___rmul___int_list k t l its.toArray n)
   ⟨e,rfl,⟨_,e,rfl⟩,call_meets F.slot_list_mul ⟨_,e,rfl⟩ F.entry_list_mul (F.args_list_mul_2 _ _) (AutoListH.list___mul___list_int_3 l its.toArray n k t hfit hcap aby) ⟨e,?_⟩⟩)
 rw [hnew]
 exact⟨.ref _,_,I.lnew (t':=s.toks) (r.rep k.toNat) (by rw [len_rep,Nat.mul_comm]; exact hz),rfl,q _ I.fresh⟩
end
section
variable {prog:Program}{w:World}{A:Around}{E:Value→Shared→Prop}{s:Shared}
end
section
variable {X:Cx}
end
end L2
namespace Att
open PySem PySem.W PySem.Calls PyProof.Rows
theorem ints_of_wellAll {P:Params}{h:Heap}:∀ (ns:List Int) (vs:List Value),WellAll P h vs (ns.map WData.int)→IntsAre vs ns:=by
 intro ns
 induction ns with
 | nil =>
  intro vs w
  rw [List.map_nil] at w
  cases w
  exact .nil
 | cons n ns ih =>
  intro vs w
  rw [List.map_cons] at w
  cases w with
  | cons a b =>
   cases a
   exact .cons _ _ (ih _ b)
theorem script_of {l:OpenLaw}{n:Nat} (hn:l.most=some n) {P:Params}{h:Heap}{args:List WData}{vals:List Value}
  (hpre:l.row.toRowW.claim.pre args=true) (hwl:WellAll P h vals args) :
  ∃ a vs ns,vals=[Value.ref a]∧args=[WData.list (ns.map WData.int)]∧h.get? a=some { cls:=.type "list",data:=.seq vs.toArray }∧IntsAre vs ns∧ns.length≤n:=by
 have hsh:WShape.hasAll [] args [.list .int]=true:=(pre_splitW hpre).1
 have hc:l.pre.holds [] { args:=args }=true:=(pre_splitW hpre).2
 obtain⟨d,r,rfl,h1,h2⟩:=hasAllW_cons hsh
 obtain rfl:=hasAllW_nil h2
 obtain⟨xs,rfl,h3⟩:=hasW_list h1
 obtain⟨ns,rfl⟩:=items_int h3
 have hlen:ns.length≤n:=by
  unfold OpenLaw.pre at hc
  have h4:(WTm.not (.lt (.lit (.int (n:Int))) (.len (.arg 0)))).holds [] { args:=[.list (ns.map .int)] }=true:=by
   have h4:=(holds_andW hc).1
   rw [hn] at h4
   exact h4
  have h5:=condW_of h4 (w_not (w_lt w_lit (w_len_list (w_arg rfl))))
  rw [List.length_map] at h5
  refine Nat.le_of_not_lt fun q=>?_
  have q':(n:Int)<((ns.length:Nat):Int):=by lia
  first
   | (rw [decide_eq_true q'] at h5; exact absurd h5 (by decide))
   | (simp at h5; lia)
 cases hwl with
 | cons w1 w2 =>
  cases w2
  cases w1 with
  | list ho hall=>exact⟨_,_,ns,rfl,rfl,ho,ints_of_wellAll ns _ hall,hlen⟩
theorem post_true (l:OpenLaw) (args:List WData):l.row.toRowW.claim.post args (.bool true) args=true :=
 postW_of (r:=l.row.toRowW) (X:=(true == true))
  (show WShape.has [] (.bool true) .bool=true by first | rfl | decide | simp [WShape.has,WShape.arms,WShape.armsAll])
  (show (WTm.eq .res (.lit (.bool true))).value [] { args:=args,res:=some (.bool true),after:=args }=some (.bool (true == true)) from w_eq_bool (w_res rfl) w_lit) rfl
theorem attach_call {l:OpenLaw}{n:Nat}{q:Program}{loose:List Str}{XP:(Str→Option Value)→Heap→Prop}{YP:World→Heap→Prop}{d:DefRec}
  (hn:l.most=some n) (hdf:d.params.defaults=[])
  (call:∀ (w:World) (s₀ s₁:Shared) (mg mb:Str→Option Value) (fa:Addr) (o:Obj) (pm cd doc:Value) (a:Addr) (vs:List Value) (ns:List Int),
   Ground q loose [] XP w s₀ mg mb s₁.heap→YP w s₁.heap →
   s₁.heap.get? fa=some o→o.data=.func (docDef d.name d.params d.body d.scope pm cd doc)→s₁.heap.CodeRec cd d.name→mg d.name=some (.ref fa) →
   s₁.heap.get? a=some { cls:=.type "list",data:=.seq vs.toArray }→IntsAre vs ns→ns.length≤n→s₁.gens=#[] →
   codeAny (model l.prog w) callerA (.call (.ref fa) ⟨[.ref a],[]⟩) (fun r s'=>r=.ok (.ret (.bool true))∧OldK s₁.heap s'.heap∧s'.os=s₁.os∧AllBare s'.gens) s₁) :
  WalkO q loose XP YP l.row.toRowW d [] (fun f vs=>PySem.call f vs):=by
 intro w s₀ s₁ mg mb G Y fa o pm cd doc dV kV ho hd hcd hD hmg hg args vals as hpre hlay hrd hwl hlo
 obtain rfl:dV=.none:=Dflts.none hD hdf
 obtain rfl:kV=.none:=Dflts.noKw hD
 obtain⟨a,vs,ns,rfl,rfl,hobj,hints,hlen⟩:=script_of hn hpre hwl
 refine enter_call (codeAny_mono (call w s₀ s₁ mg mb fa o pm cd doc a vs ns G Y ho (fd_plain hd) hcd hmg hobj hints hlen hg) fun r s' hq=>?_)
 obtain⟨rfl,h2,h3,h4⟩:=hq
 exact⟨.inl ⟨.bool true,.bool true,[],rfl,fun _=>rfl,.bool true,post_true l _,fun _=>⟨List.Pairwise.nil,fun _ hm=>(nomatch hm)⟩⟩,h2,h3,h4⟩
section
variable {prog:Program}{w:World}{A:Around}{E:Value→Shared→Prop}{s:Shared}{K:Frag}
end
end Att
namespace L2
open PySem PySem.Spec PyProof.Rows
theorem vals_ints:∀ {vs:List Value}{ns:List Int},IntsAre vs ns→Vals (ns.map V.int) vs
 | _,_,.nil=>.nil
 | _,_,.cons n t h=>.cons ⟨t,rfl⟩ (vals_ints h)
def Only (H:Hp):Prop:=∀ b,H b=none∨∃ o xs,H b=some (.frz o (.lst xs))
theorem law_call {P:Program}{w:World}{K:PySem.W.Frag}{mg mb:Str→Option Value}{CX:CXT}{k:Nat}{fa a:Addr}{fd:FuncData}{x:Str}{sp:Sp}{s₁:Shared}{vs:List Value}{ns:List Int}
  (KX:K.In s₁.heap) (hns:s₁.heap.Ns mainGlobals mg) (hb:s₁.heap.Ns builtinsNs mb) (hbb:∀ x:Str,x≠"__name__"→mb x=bootBuiltins x) (hlim:s₁.heap.NoLimit) (hg:s₁.gens=#[])
  (ha:s₁.heap.get? a=some { cls:=.type "list",data:=.seq vs.toArray }) (hi:IntsAre vs ns) (hl:ns.length≤sizeLine) (hr:Room k callerA)
  (F:∀ base:Heap,K.In base→base.Ns mainGlobals mg→FnOk P w K mg base CX k fa fd [x] sp) (hbind:∀ (s:Shared) (u:Value),BindsTo s fd ⟨[u],[]⟩ [(x,u)])
  (hsp:∀ H:Hp,Only H→SqL K H a (ns.map V.int)→sp [.ref a] H (fun v _=>v=.bl true) fun _ _ _=>False)
  (hCX:∀ H e s',CX [] H s₁ (fun _ _ _=>False) e s'→False) :
  codeAny (model P w) callerA (.call (.ref fa) ⟨[.ref a],[]⟩) (fun r s'=>r=.ok (.ret (.bool true))∧OldK s₁.heap s'.heap∧s'.os=s₁.os∧AllBare s'.gens) s₁:=by
 have rv:=vals_ints hi
 have lenV:=hi.length
 have core:∀ H:Hp,Only H→SqL K H a (ns.map V.int)→HOk P w H s₁.heap→(∀ b,H b≠none→b=a)→(H a≠none→K.lookup a=none) →
   codeAny (model P w) callerA (.call (.ref fa) ⟨[.ref a],[]⟩) (fun r s'=>r=.ok (.ret (.bool true))∧OldK s₁.heap s'.heap∧s'.os=s₁.os∧AllBare s'.gens) s₁:=by
  intro H hO hS hok hA hK
  have base_of:∀ {b:Addr}{o:Obj},s₁.heap.get? b=some o→H b=none→(hidT s₁.heap H).get? b=some o:=fun e n=>hidT_get e n
  have noA:∀ {b:Addr}{o:Obj}{es:Array DictEntry}{ep:Nat},s₁.heap.get? b=some o→o.data=.dict es ep→H b=none:=fun {b o es ep} e d=>by
   cases q:H b with
   | none=>rfl
   | some u =>
    have e':b=a:=hA b (by rw [q]; simp)
    subst e'
    rw [ha] at e; cases e
    have d':Data.seq vs.toArray _=Data.dict es ep:=d
    cases d'
  have nsK:∀ {b:Addr}{m:Str→Option Value},s₁.heap.Ns b m→(hidT s₁.heap H).Ns b m:=fun {b m} ⟨o,es,ep,e,d,r⟩=>⟨o,es,ep,base_of e (noA e d),d,r⟩
  have hKb:K.In (hidT s₁.heap H):=fun b o e=>base_of (KX b o e) (by
   cases q:H b with
   | none=>rfl
   | some u =>
    have e':b=a:=hA b (by rw [q]; simp)
    subst e'
    rw [hK (by rw [q]; simp)] at e; cases e)
  have hM:Mod K mg (hidT s₁.heap H):=⟨hKb,nsK hns,⟨mb,nsK hb,hbb⟩,let ⟨mc,h1,h2⟩:=hlim; ⟨mc,nsK h1,h2⟩⟩
  have e0:Env0 P w K mg (hidT s₁.heap H) callerA [] s₁ H:=⟨rfl,hM,fun b o e=>of_hidT e,Nat.le_of_eq (hidT_size _ _),trivial,fun b hb=>absurd (show b∈([]:List Addr) from hb) (by simp),hok,.of_eq hg⟩
  refine codeAny_mono ((F _ hKb (nsK hns)).run callerA [] s₁ H ⟨[.ref a],[]⟩ [.ref a] [.ref a] _ _ hr e0 (hbind s₁ (.ref a)) (.cons rfl .nil) (hsp H hO hS)) fun r s' h=>?_
  cases r with
  | error e=>exact (hCX H e s' h).elim
  | ok fl =>
   cases fl with
   | next=>exact False.elim h
   | brk=>exact False.elim h
   | cont=>exact False.elim h
   | ret u =>
    obtain⟨v,H',os,bare,un,hok',r',q⟩:=h
    have q':v=.bl true:=q
    subst q'
    obtain rfl:u=Value.bool true:=r'
    refine⟨rfl,OldK.of_keep fun b o e=>?_,os,bare⟩
    cases q:H b with
    | none=>exact un.keep b o e q (by intro z; exact absurd (show b∈([]:List Addr) from z) (by simp)) (by simp)
    | some u =>
     rcases hO b with z | ⟨ob,xs,z⟩
     ·rw [q] at z; cases z
     ·have z2:=un.frzs b ob _ z
      obtain⟨e1,_⟩:=hok b _ z
      obtain⟨e2,_⟩:=hok' b _ z2
      rw [e] at e1; cases e1
      exact e2
 cases hk:K.lookup a with
 | some o =>
  have e:=KX a o hk
  rw [ha] at e
  cases e
  refine core (fun _=>none) (fun _=>.inl rfl) (.inr ⟨_,vs.toArray,_,hk,rfl,rfl,rfl,by rw [List.size_toArray,lenV]; exact hl,by simpa using rv⟩) (fun b u z=>by have z':(none:Option HO)=some u:=z; cases z') (fun b z=>absurd rfl z) fun z=>absurd rfl z
 | none =>
  refine core (fun b=>if b=a then some (.frz { cls:=.type "list",data:=.seq vs.toArray } (.lst (ns.map V.int))) else none) (fun b=>?_) (.inl (.inr ⟨{ cls:=.type "list",data:=.seq vs.toArray },if_pos rfl⟩)) (fun b u z=>?_) (fun b z=>?_) fun _=>hk
  ·by_cases hb:b=a
   ·exact .inr ⟨_,_,if_pos hb⟩
   ·exact .inl (if_neg hb)
  ·by_cases hb:b=a
   ·have z':=(if_pos hb).symm.trans z
    cases z'
    subst hb
    exact⟨ha,by rw [List.length_map]; exact hl,vs,_,rv,ha⟩
   ·have z':=(if_neg hb).symm.trans z
    cases z'
  ·by_cases hb:b=a
   ·exact hb
   ·exact absurd (if_neg hb) z
end L2
namespace L2
open PySem PySem.Spec PyProof.Rows
theorem walk_of {l:PySem.W.OpenLaw}{n k:Nat}{q:Program}{loose:List Str}{XP:(Str→Option Value)→Heap→Prop}{YP:World→Heap→Prop}{d:DefRec}{K:Params→PySem.W.Frag}{CX:World→CXT}{sp:World→Sp}{x:Str}
  (hn:l.most=some n) (hn2:n≤sizeLine) (hdf:d.params.defaults=[]) (hr:Room k callerA)
  (hY:∀ (w:World) (h:Heap),YP w h→(K w.params).In h)
  (F:∀ (w:World) (mg:Str→Option Value) (fa:Addr) (h:Heap),(K w.params).In h→h.Ns mainGlobals mg→mg d.name=some (.ref fa) →
   ∃ fd:FuncData,(∀ (s:Shared) (u:Value),BindsTo s fd ⟨[u],[]⟩ [(x,u)]) ∧
    ∀ base:Heap,(K w.params).In base→base.Ns mainGlobals mg→FnOk l.prog w (K w.params) mg base (CX w) k fa fd [x] (sp w))
  (hsp:∀ (w:World) (H:Hp) (a:Addr) (ns:List Int),ns.length≤n→Only H→SqL (K w.params) H a (ns.map V.int)→sp w [.ref a] H (fun v _=>v=.bl true) fun _ _ _=>False)
  (hCX:∀ (w:World) (H:Hp) (s:Shared) (e:Value) (s':Shared),CX w [] H s (fun _ _ _=>False) e s'→False) :
  PySem.W.WalkO q loose XP YP l.row.toRowW d [] (fun f vs=>PySem.call f vs):=by
 refine Att.attach_call hn hdf fun w s₀ s₁ mg mb fa o pm cd doc a vs ns G Y ho hd hcd hmg hobj hints hlen hg=>?_
 have KX:=hY w _ Y
 obtain⟨fd,hb,hF⟩:=F w mg fa _ KX G.T.g hmg
 exact law_call KX G.T.g G.T.b G.T.builtins G.T.nolimit hg hobj hints (Nat.le_trans hlen hn2) hr hF hb (fun H hO hS=>hsp w H a ns hlen hO hS) fun H e s'=>hCX w H s₁ e s'
end L2
namespace L2
open PySem PySem.Spec PyProof.Rows
def inClass (s:Stmt) (j:Nat):Stmt:=match s with
 | .ClassDef _ _ _ body _ _ _ _ _ _ _=>body.getD j (.Pass ⟨0,0,0,0⟩)
 | _=>.Pass ⟨0,0,0,0⟩
def defArgs (s:Stmt):Arguments:=match s with
 | .FunctionDef _ a _ _ _ _ _ _ _ _=>a
 | _=>{ posonlyargs:=[],args:=[],vararg:=none,kwonlyargs:=[],kw_defaults:=[],kwarg:=none,defaults:=[] }
def defBody (s:Stmt):List Stmt:=match s with
 | .FunctionDef _ _ b _ _ _ _ _ _ _=>b
 | _=>[]
def defScope (s:Stmt):Scope:=match s with
 | .FunctionDef _ _ _ _ _ _ sc _ _ _=>sc
 | _=>{ kind:=.function,names:=[],isGenerator:=false,isCoroutine:=false }
abbrev CX0:CXT:=fun _ _ _ _ _ _=>False
abbrev E0:XK:=fun _ _ _=>False
theorem pass0 {X:Cx}:Passes CX0 X E0:=fun _ _ _ _ _ _ _ h=>h.elim
structure Fun (K:PySem.W.Frag) (x qual:Str) (st:Stmt) (f:Addr) (fd:FuncData):Prop where
 ex:∃ (oc:Value) (od:Option Addr) (kV doc pm:Value) (an:Option Addr) (cdv ct:Value) (osl:Array (Option Value)),
  fd=PySem.W.fnOf x qual (defArgs st) (defBody st) (defScope st) .none kV doc pm an cdv ct∧K.lookup f=some ⟨oc,od,.func fd,osl⟩∧PySem.W.codeIn K cdv qual=true
 kp:PySem.W.keepIn K (.ref f)=true
section
variable {P:Program}{w:World}{K:PySem.W.Frag}{mg:Str→Option Value}{base:Heap}
theorem Fun.ok {x qual:Str}{st:Stmt}{f:Addr}{fd:FuncData}{N ps:List Str}{k:Nat}{sp:Sp} (F:Fun K x qual st f fd) (S:FnScope N ps (defScope st)) (len:∀ vs H Q E,sp vs H Q E→vs.length=ps.length)
  (hbody:∀ (cdv:Value) (A:Around) (outer:List Env) (s:Shared) (H:Hp) (vs:List V) (Q:VK) (E:XK),Room k (A.deeper (envOfC qual (defScope st) s.heap.objs.size f cdv))→sp vs H Q E →
   ∃ t,PSs (cxOf CX0 P w K mg base N qual (defScope st) f cdv A outer s H E).nox (defBody st) t∧t { nx:=fun _ H'=>Q .non H',rt:=Q } (start N vs) H):FnOk P w K mg base CX0 (k+1) f fd ps sp:=by
 obtain⟨oc,od,kV,doc,pm,an,cdv,ct,osl,rfl,lk,hcd⟩:=F.ex
 refine fn_of lk hcd S len fun A outer s H vs Q E hr hsp=>?_
 obtain⟨t,h,q⟩:=hbody cdv A outer s H vs Q E hr hsp
 exact⟨t,h.nox,q⟩
theorem Fun.binds {x qual:Str}{st:Stmt}{f:Addr}{fd:FuncData}{ps:List Str} (F:Fun K x qual st f fd)
  (h:∀ (kV doc pm:Value) (an:Option Addr) (cdv ct:Value) (us:List Value),us.length=ps.length→bindArgs (PySem.W.fnOf x qual (defArgs st) (defBody st) (defScope st) .none kV doc pm an cdv ct) ⟨us,[]⟩=pure (ps.zip us)):Binds K fd ps []:=by
 obtain⟨oc,od,kV,doc,pm,an,cdv,ct,osl,rfl,lk,hcd⟩:=F.ex
 exact .all (h kV doc pm an cdv ct)
theorem fun_mk {x qual:Str}{st:Stmt}{f:Addr}{oc:Value}{od an:Option Addr}{osl:Array (Option Value)}{kV doc pm cdv ct:Value} (l:K.lookup f=some ⟨oc,od,.func (PySem.W.fnOf x qual (defArgs st) (defBody st) (defScope st) .none kV doc pm an cdv ct),osl⟩)
  (c:PySem.W.codeIn K cdv qual=true) (k:PySem.W.keepIn K (.ref f)=true):Fun K x qual st f (PySem.W.fnOf x qual (defArgs st) (defBody st) (defScope st) .none kV doc pm an cdv ct):=⟨⟨oc,od,kV,doc,pm,an,cdv,ct,osl,rfl,l,c⟩,k⟩
end
section
variable {X:Cx}
theorem pv (i:Nat) {x:Str}{pos:Pos} (hN:X.N[i]?=some x:=by rfl) (hv:Vis X.env.scope x:=by first | exact Or.inl rfl | exact Or.inr (Or.inl rfl) | exact Or.inr (Or.inr rfl)) (hd:(x == ("__debug__":Str))=false:=by decide)
  (hcd:(x == ("__classdict__":Str))=false:=by decide):PE X (.Name x pos) (tVar i):=pe_var hN hv hd hcd
end
theorem iteF {A B:Prop} (h:B):if false=true then A else B:=by
 rw [if_neg Bool.false_ne_true]
 exact h
theorem iteT {A B:Prop} (h:A):if true=true then A else B:=by
 rw [if_pos rfl]
 exact h
theorem ite2 {c A B:Prop} [Decidable c] (h1:c→A) (h2:¬ c→B):if c then A else B:=by
 by_cases h:c
 ·rw [if_pos h]
  exact h1 h
 ·rw [if_neg h]
  exact h2 h
def Same (H H':Hp):Prop:=∀ b o,H b=some o→H' b=some o
theorem Same.refl (H:Hp):Same H H:=fun _ _ h=>h
theorem Same.trans {H H1 H2:Hp} (a:Same H H1) (b:Same H1 H2):Same H H2:=fun c o h=>b c o (a c o h)
theorem Same.free {H H':Hp} (e:Same H H') {l:Addr} (h:H' l=Option.none):H l=Option.none:=by
 cases q:H l with
 | none=>rfl
 | some o =>
  rw [e l o q] at h
  cases h
theorem Same.seq {K:PySem.W.Frag}{H H':Hp}{a:Addr}{xs:List V} (e:Same H H') (h:SqL K H a xs):SqL K H' a xs:=by
 rcases h with (h | ⟨o,h⟩) | h
 ·exact .inl (.inl (e _ _ h))
 ·exact .inl (.inr ⟨o,e _ _ h⟩)
 ·exact .inr h
end L2
set_option maxHeartbeats 4000000
namespace Sw
inductive bh {α β:Type} (R:α→β→Prop):List α→List β→Prop where
 | nil:bh R [] []
 | cons {a:α}{b:β}{as:List α}{bs:List β}:R a b→bh R as bs→bh R (a::as) (b::bs)
namespace bh
variable {α β:Type}{R S:α→β→Prop}
theorem length {as:List α}{bs:List β} (h:bh R as bs):bs.length=as.length:=by
 induction h with
 | nil=>rfl
 | cons _ _ ih=>rw [List.length_cons,List.length_cons,ih]
theorem imp {as:List α}{bs:List β} (f:∀ a b,R a b→S a b) (h:bh R as bs):bh S as bs:=by
 induction h with
 | nil=>exact .nil
 | cons r _ ih=>exact .cons (f _ _ r) ih
theorem append {as as':List α}{bs bs':List β} (h:bh R as bs) (g:bh R as' bs'):bh R (as++as') (bs++bs'):=by
 induction h with
 | nil=>exact g
 | cons r _ ih=>exact .cons r ih
theorem one {a:α}{b:β} (h:R a b):bh R [a] [b]:=.cons h .nil
theorem get {as:List α}{bs:List β} (h:bh R as bs):∀ {i:Nat}{b:β},bs[i]?=some b→∃ a,as[i]?=some a∧R a b:=by
 induction h with
 | nil=>intro i b e; simp at e
 | cons r _ ih =>
  intro i b e
  cases i with
  | zero=>exact⟨_,rfl,by have e':=Option.some.inj e; rw [← e']; exact r⟩
  | succ i=>exact ih (i:=i) (by simpa using e)
theorem of_get:∀ {bs:List β}{as:List α},bs.length=as.length→(∀ (i:Nat) b,bs[i]?=some b→∃ a,as[i]?=some a∧R a b)→bh R as bs
 | [],[],_,_=>.nil
 | [],_::_,h,_=>by simp at h
 | _::_,[],h,_=>by simp at h
 | b::bs,a::as,h,g=>by
  obtain⟨a',e,r⟩:=g 0 b rfl
  have e':=Option.some.inj e
  refine .cons (by rw [e']; exact r) (of_get (by simpa using h) fun i b e=>?_)
  exact g (i+1) b (by simpa using e)
end bh
inductive T where
 | node (ts:List T)
namespace T
def kids:T→List T | .node ts=>ts
mutual
def parts:T→Nat | .node ts=>1+au ts
def au:List T→Nat
 | []=>0
 | t::ts=>parts t+au ts
end
mutual
def deep:T→Nat | .node ts=>bM ts
def bM:List T→Nat
 | []=>0
 | t::ts=>max (deep t+1) (bM ts)
end
mutual
def beq:T→T→Bool | .node ts,.node us=>jq ts us
def jq:List T→List T→Bool
 | [],[]=>true
 | t::ts,u::us=>beq t u && jq ts us
 | _,_=>false
end
mutual
theorem beq_iff:∀ t u:T,beq t u=true↔t=u
 | .node ts,.node us=>by
  unfold beq
  rw [zc ts us]
  exact⟨fun h=>by rw [h],fun h=>by injection h⟩
theorem zc:∀ ts us:List T,jq ts us=true↔ts=us
 | [],[]=>by simp [jq]
 | [],_::_=>by simp [jq]
 | _::_,[]=>by simp [jq]
 | t::ts,u::us=>by
  unfold jq
  rw [Bool.and_eq_true,beq_iff t u,zc ts us]
  simp
end
theorem uY (t:T):beq t t=true:=(beq_iff t t).mpr rfl
instance:DecidableEq T:=fun t u=>if h:beq t u=true then isTrue ((beq_iff t u).mp h) else isFalse fun e=>h ((beq_iff t u).mpr e)
theorem aL (ts:List T):(T.node ts).parts=1+au ts:=by unfold parts; rfl
theorem aO (ts:List T):(T.node ts).deep=bM ts:=by unfold deep; rfl
theorem aR:au []=0:=by unfold au; rfl
theorem aq (t:T) (ts:List T):au (t::ts)=t.parts+au ts:=by rw [au]
theorem aY:bM []=0:=by unfold bM; rfl
theorem aK (t:T) (ts:List T):bM (t::ts)=max (t.deep+1) (bM ts):=by rw [bM]
theorem i_ (t:T):1≤t.parts:=by cases t; rw [aL]; lia
theorem dN (t:T):t.parts=1+au t.kids:=by cases t; rw [aL]; rfl
theorem HX (t:T):t.deep=bM t.kids:=by cases t; rw [aO]; rfl
theorem cB:∀ a b:List T,au (a++b)=au a+au b
 | [],b=>by rw [aR,List.nil_append]; lia
 | t::a,b=>by rw [List.cons_append,aq,aq,cB a b]; lia
theorem dX:∀ a b:List T,bM (a++b)=max (bM a) (bM b)
 | [],b=>by rw [aY,List.nil_append]; lia
 | t::a,b=>by rw [List.cons_append,aK,aK,dX a b]; lia
theorem cQ:∀ ts:List T,ts.length≤au ts
 | []=>by simp
 | t::ts=>by
  have h1:=i_ t
  have h2:=cQ ts
  rw [aq,List.length_cons]
  lia
theorem Ov {ts:List T}{t:T} (h:ts[ts.length - 1]?=some t):au ts=au ts.dropLast+t.parts:=by
 have e:ts=ts.dropLast++[t]:=by
  have hne:ts≠[]:=by rintro rfl; simp at h
  have h2:=List.dropLast_concat_getLast hne
  have h3:ts.getLast hne=t:=by
   rw [← List.getLast?_eq_getElem?,List.getLast?_eq_some_getLast hne] at h
   exact Option.some.inj h
  rw [h3] at h2
  exact h2.symm
 have e2:au ts=au (ts.dropLast++[t]):=congrArg au e
 rw [e2,cB,aq,aR]
 lia
theorem Lp (n:Nat) (ts:List T):au ts=au (ts.take n)+au (ts.drop n):=by
 rw [← cB,List.take_append_drop]
theorem tL {B:Nat}:∀ {ts:List T},(∀ t∈ts,t.parts≤B)→au ts≤ts.length * B
 | [],_=>by rw [aR]; lia
 | t::ts,h=>by
  have h1:=h t List.mem_cons_self
  have h2:=tL fun u hu=>h u (List.mem_cons_of_mem _ hu)
  rw [aq,List.length_cons,Nat.succ_mul]
  lia
theorem vG {B:Nat}:∀ {ts:List T},(∀ t∈ts,t.deep+1≤B)→bM ts≤B
 | [],_=>by rw [aY]; lia
 | t::ts,h=>by
  have h1:=h t List.mem_cons_self
  have h2:=vG fun u hu=>h u (List.mem_cons_of_mem _ hu)
  rw [aK]
  lia
theorem lq:∀ {ts:List T}{t:T},t∈ts→t.parts≤au ts
 | _::ts,t,h=>by
  rw [aq]
  rcases List.mem_cons.mp h with rfl | h
  ·lia
  ·have:=lq h
   lia
theorem jM:∀ {ts:List T}{t:T},t∈ts→t.deep+1≤bM ts
 | _::ts,t,h=>by
  rw [aK]
  rcases List.mem_cons.mp h with rfl | h
  ·lia
  ·have:=jM h
   lia
end T
end Sw
namespace Sw
open PySem PySem.Spec PyProof.Rows L2
abbrev Sg:=List (Option V)
def blk (X:Cx) (scope:Scope) (cl:List (Str×Addr)) (C:Addr) (N:List Str) (s:Shared) (H:Hp) (fp:List Addr) (pins:List (Addr×Obj)):Cx :=
 { X with N:=N,s₀:=s,H₀:=H,env:=compEnvC scope cl C X.env,outer:=X.stack,ex:=fp,fn:=fun _=>false,calm:=true,pn:=X.pn++pins,xe:=fun _ _=>False }
def Fl (X:Cx) (scope:Scope):List Str→List Nat→Prop
 | [],[]=>True
 | y::fr,j::js=>(X.N[j]?=some y∧X.env.scope.names.lookup y=some .cell∧(relabel scope X.env).names.lookup y=some .cell)∧Fl X scope fr js
 | _,_=>False
theorem Fl.len {X:Cx}{scope:Scope}:∀ {fr:List Str}{js:List Nat},Fl X scope fr js→fr.length=js.length
 | [],[],_=>rfl
 | _::_,_::_,h=>congrArg (· + 1) (Fl.len h.2)
theorem Fl.get {X:Cx}{scope:Scope}:∀ {fr:List Str}{js:List Nat},Fl X scope fr js→∀ {i:Nat}{y:Str},fr[i]?=some y →
  ∃ j:Nat,js[i]?=some j∧X.N[j]?=some y∧X.env.scope.names.lookup y=some .cell∧(relabel scope X.env).names.lookup y=some .cell
 | [],[],_,i,y,e=>by simp at e
 | z::fr,j::js,h,0,y,e=>by
  have e':z=y:=by simpa using e
  subst e'
  exact⟨j,rfl,h.1⟩
 | z::fr,j::js,h,i+1,y,e=>by
  obtain⟨k,h1,h2⟩:=Fl.get h.2 (i:=i) (y:=y) (by simpa using e)
  exact⟨k,by simpa using h1,h2⟩
structure Jj (X:Cx) (scope:Scope) (x:Str) (fr:List Str) (js:List Nat) (cl:List (Str×Addr)):Prop where
 kind:scope.kind=.function
 clos:closureFor scope X.env=pure cl
 cell:∀ y∈scope.names,y.2≠.cell
 loc:∀ y∈scope.names,y.2=.local→scope.names.lookup y.1=some .local
 var:scope.names.lookup x=some .local
 sub:∀ y c,cl.lookup y=some c→X.env.cells.lookup y=some c
 has:∀ y,((relabel scope X.env).names.lookup y=some .cell∨(relabel scope X.env).names.lookup y=some .free)→∃ c,cl.lookup y=some c
 frk:Fl X scope fr js
 nd:(x::fr).Nodup
section
variable {X:Cx}{pins:List (Addr×Obj)}{σ:Sg}{H:Hp}{s:Shared}{scope:Scope}{cl:List (Str×Addr)}{x:Str}{fr:List Str}{js:List Nat}{fp:List Addr}
theorem adP {N:List Str} (I:Inv X pins σ H s) (L:Jj X scope x fr js cl) (hc:X.calm=true) (hfp:∀ b∈fp,FpOk X pins H b) (hsz:∀ b∈fp,b<s.heap.objs.size) :
  (blk X scope cl s.heap.objs.size N s H fp pins).Ok where
 mod:=I.ok.mod
 kind:=L.kind
 glob:=I.ok.glob
 blt:=I.ok.blt
 above:=Nat.le_refl _
 inj:=fun y z c h1 h2=>I.ok.inj y z c (L.sub y c h1) (L.sub z c h2)
 has:=fun y hy=>L.has y hy
 cab:=fun y c h _=>absurd (show false=true from h) Bool.false_ne_true
 hd:=fun _=>I.ok.hd hc
 frames:=I.ok.frames
 stk:=.inl rfl
 exf:=fun b hb=>⟨Nat.ne_of_lt (hsz b hb),fun y c h=>(hfp b hb).2.2.2.2.1 y c (L.sub y c h)⟩
 bs:=I.bs
 bsz:=Nat.le_trans I.ok.bsz I.sz
 noex:=fun b o e hb=>by
  rcases (hfp b hb).2.2.2.1 with z | z
  ·exact I.ok.noex b o e z
  ·exact absurd (Nat.lt_of_lt_of_le (Nat.lt_of_lt_of_le (Heap.lt_size e) I.ok.bsz) z) (Nat.lt_irrefl _)
 exfs:=fun b hb z=>by
  rcases List.mem_cons.mp (I.stkSub b z) with e | e
  ·exact (hfp b hb).2.1 e
  ·exact (hfp b hb).2.2.1 e
 funs:=I.stack
 frf:=I.stkFree
def frv (σ:Sg) (js:List Nat):Sg:=js.map fun j=>(σ[j]?).getD none
theorem aha {h1:Heap}{m1:Str→Option Value}{tk:Nat} (I:Inv X pins σ H s) (L:Jj X scope x fr js cl) (hc:X.calm=true) (hfp:∀ b∈fp,FpOk X pins H b) (hsz:∀ b∈fp,b<s.heap.objs.size)
  (hn:h1.Ns s.heap.objs.size m1) (hk:∀ b o,s.heap.get? b=some o→h1.get? b=some o) :
  Inv (blk X scope cl s.heap.objs.size (x::fr) s H fp pins) [] (none::frv σ js) H { s with heap:=h1,toks:=tk }:=by
 refine⟨adP I L hc hfp hsz,rfl,I.bare,Un.kept hk,⟨m1,hn,fun i y v e1 e2 _=>?_⟩,fun y c e=>?_,I.hok.fresh (Nat.le_refl _),fun y c e=>I.freeC y c (L.sub y c e),fun p hp=>?_,I.hok.kept hk,?_⟩
 ·cases i with
  | zero=>exact absurd e2 (by simp)
  | succ i =>
   have e1':fr[i]?=some y:=by simpa [blk] using e1
   obtain⟨j,hj,hN,hcell,hrel⟩:=L.frk.get e1'
   have e2':σ[j]?=some (some v):=by
    have q:(frv σ js)[i]?=some (some v):=by simpa using e2
    unfold frv at q
    rw [List.getElem?_map,hj] at q
    have q':(σ[j]?).getD none=some v:=by simpa using q
    cases hs:σ[j]? with
    | none=>rw [hs] at q'; cases q'
    | some o=>rw [hs] at q'; exact congrArg some q'
   obtain⟨m,_,hl⟩:=I.loc
   obtain⟨u,r,lk⟩:=hl j y v hN e2' (.inr (.inl hcell))
   refine⟨u,r,.inr ⟨.inl hrel,?_⟩⟩
   rcases lk with⟨hloc,_⟩ | ⟨_,c,hc1,hc2⟩
   ·have:X.env.scope.names.lookup y=some .local:=hloc
    rw [hcell] at this; cases this
   ·obtain⟨c',hc'⟩:=L.has y (.inl hrel)
    have e3:=L.sub y c' hc'
    rw [hc1] at e3; cases e3
    exact⟨c,hc',hc2.keeps hk⟩
 ·obtain⟨v,hv⟩:=I.cell y c (L.sub y c e)
  exact⟨v,hv.keeps hk⟩
 ·have hp':p∈X.pn++pins:=by simpa [blk] using hp
  obtain⟨a1,a2,a3,a4,a5⟩:=I.pin p hp'
  refine⟨hk _ _ a1,a2,Nat.ne_of_lt (Heap.lt_size a1),fun z=>?_,a5⟩
  rcases List.mem_cons.mp (I.stkSub _ z) with e | e
  ·exact a3 e
  ·exact a4 e
 ·show (none::frv σ js).length=(x::fr).length
  simp [frv,L.frk.len]
theorem XS {H':Hp}{s':Shared}{h':Heap}{σ':Sg}{N:List Str}{pins':List (Addr×Obj)} (I:Inv X pins σ H s) (J:Inv (blk X scope cl s.heap.objs.size N s H fp pins) pins' σ' H' s') (hfp:∀ b∈fp,FpOk X pins H b)
  (hsb:Heap.SameBut s.heap.objs.size s'.heap h'):Inv X pins σ H' { s' with heap:=h' }:=by
 have hos:s'.os=s.os:=J.os
 have nC:H' s.heap.objs.size=none:=J.free
 have kp:∀ b,b≠s.heap.objs.size→h'.get? b=s'.heap.get? b:=hsb.2
 have low:∀ b o,s.heap.get? b=some o→b≠s.heap.objs.size:=fun b o e=>Nat.ne_of_lt (Heap.lt_size e)
 have u:Un (frs X.stack) fp H H' s.heap h':=by
  have u0:Un (frs X.stack) fp H H' s.heap s'.heap:=J.base
  exact⟨fun b o e n h1 h2=>(kp b (low b o e)).trans (u0.keep b o e n h1 h2),fun b o e n h1 h2=>by
    obtain⟨sl,q⟩:=u0.slot b o e n h1 h2
    exact⟨sl,(kp b (low b o e)).trans q⟩,u0.free,fun b o e h1=>by
    obtain⟨o',q⟩:=u0.there b o e h1
    exact⟨o',(kp b (low b o e)).trans q⟩,u0.tups,u0.frzs,u0.tbls⟩
 have hok:HOk X.prog X.w H' h':=fun b o e=>by
  refine (J.hok b o e).stay (fun c v hc q=>(kp c ?_).trans q) (fun _ q=>q) fun _ _ q=>q
  rcases hc with z | z
  ·rw [z]; intro z'; rw [z',nC] at e; cases e
  ·intro z'; rw [z',nC] at z; cases z
 have q:=I.call (g':=s'.gens) (t':=s'.toks) (d':=s'.drawn) u hok J.bare fun b hb=>⟨(hfp b hb).2.2.2.1,(hfp b hb).2.1,(hfp b hb).2.2.2.2.1,(hfp b hb).2.2.2.2.2⟩
 obtain⟨hp,g,d,tk,os⟩:=s'
 have:os=s.os:=hos
 subst this
 exact q
end
def Fg (J:It) (js:List Nat) (te:TE) (σ:Sg) (Q:VK) (H1:Hp):Prop:=∀ D,H1 D=none →
 ∃ W:Nat→Nat→List V→Hp→Prop,(∃ m,W 0 m [] (upd H1 D (.lst [])))∧∀ i m ys H',W i m ys H'→H' D=some (.lst ys) ∧
  ((J.stop i H'∧Q (.ref D) H')∨(J.go i H'∧∀ x H2,J.yld i H' x H2→te (some x::frv σ js) H2 fun y H3=>H3 D=some (.lst ys)∧ys.length<sizeLine ∧
   ∃ m',m'<m∧W (i+1) m' (ys++[y]) (upd H3 D (.lst (ys++[y])))))
def tLC (wi:TI) (js:List Nat) (te:TE):TE:=fun σ H Q=>wi σ H fun J H1=>Fg J js te σ Q H1
section
variable {X:Cx}{scope:Scope}{cl:List (Str×Addr)}{x:Str}{fr:List Str}{js:List Nat}{elt iter:Expr}{px pos:Pos}{wi:TI}{te:TE}
theorem aao {prog:Program}{w:World}{A:Around}{R:Result→Shared→Prop}{s:Shared}{tg:Expr}{it acc:Value}{env:Env} (Iv:Nat→Shared→Prop)
  (turn:∀ n s,Iv n s→wpAny (model prog w) A (pyNext it) (fun r s1=>match r with
   | none=>R (.ok .next) s1
   | some v=>wpAny (model prog w) A (letOwnedTupleGo tg it v) (fun _ s2=>wpAny (model prog w) A (assign tg env v) (fun _ s3=>wpAny (model prog w) A (eval elt env) (fun y s4 =>
     wpAny (model prog w) A (call (.builtin "list.append") [acc,y]) (fun _ s5=>∃ m,m<n∧Iv m s5) (fun _ _=>False) s4) (fun _ _=>False) s3) (fun _ _=>False) s2) (fun _ _=>False) s1) (fun _ _=>False) s)
  (n:Nat) (h:Iv n s):codeAny (model prog w) A (.compLoop (.ListComp elt [⟨tg,iter,[],0⟩] scope pos) 0 it acc env) R s:=by
 refine codeAny_loop rfl Iv (fun n s hI=>?_) n h
 refine wpAny_noted ?_
 rw [compTurn_list1]
 refine wpAny_bind (wpAny_standAt (wpAny_bind (wpAny_mono (turn n s hI) (fun r s1 h1=>?_) fun _ _ z=>z.elim)))
 cases r with
 | none=>exact wpAny_pure h1
 | some v =>
  refine wpAny_bind (wpAny_mono h1 (fun _ s2 h2=>?_) fun _ _ z=>z.elim)
  refine wpAny_bind (wpAny_mono h2 (fun _ s3 h3=>?_) fun _ _ z=>z.elim)
  refine wpAny_bind (wpAny_bind (wpAny_mono h3 (fun y s4 h4=>?_) fun _ _ z=>z.elim))
  refine wpAny_bind (wpAny_mono h4 (fun _ s5 h5=>?_) fun _ _ z=>z.elim)
  exact wpAny_pure (wpAny_pure ⟨rfl,h5⟩)
theorem aki (hc:X.calm=true) (L:Jj X scope x fr js cl) (hi:PI X (.Name x px) iter wi)
  (he:∀ C s H fp pins,PE (blk X scope cl C (x::fr) s H fp pins) elt te)
  (hs:∀ v,foldedSetIterable iter X.env v=pure v:=by intro _; rfl) :
  PE X (.ListComp elt [⟨.Name x px,iter,[],0⟩] scope pos) (tLC wi js te):=by
 intro pins s σ H Q I h
 rw [eval_ListComp]
 refine wpAny_comprehension_free (use:=none) rfl hs L.clos L.kind L.loc (thn (hi pins s σ H _ I h) fun v s1 h1=>thn h1 fun itv s2 h2=>?_)
 obtain⟨it,fp,tn,J,H2,e,I2,T,st2,f2,rd⟩:=h2
 subst e
 obtain⟨W,⟨m0,w0⟩,turn⟩:=rd _ I2.fresh
 have I3:=I2.lnew (ys:=[]) (its:=[]) (t':=s2.toks) .nil (Nat.zero_le _)
 refine wpAny_newObj_type ?_
 have Xc:∀ b∈fp,b<s2.heap.objs.size:=fun b hb=>by
  obtain⟨o,ho,_⟩:=T.obj 0 _ st2 b hb
  exact Heap.lt_size ho
 generalize hs3:({ s2 with heap:=s2.heap.push { cls:=.type "list",dict:=none,data:=.seq ([]:List Value).toArray } }:Shared)=s3
 have I3':Inv X pins σ (upd H2 s2.heap.objs.size (.lst [])) s3:=by rw [← hs3]; exact I3
 have sz3:s3.heap.objs.size=s2.heap.objs.size+1:=by rw [← hs3]; exact Heap.size_push ..
 have k23:∀ b o,s2.heap.get? b=some o→s3.heap.get? b=some o:=fun b o e=>by rw [← hs3]; exact Heap.get?_push_of_some _ e
 have fsz:∀ b∈fp,b<s3.heap.objs.size:=fun b hb=>by rw [sz3]; exact Nat.lt_succ_of_lt (Xc b hb)
 have f3:∀ b∈fp,FpOk X pins (upd H2 s2.heap.objs.size (.lst [])) b:=fun b hb=>⟨by rw [upd_ne (Nat.ne_of_lt (Xc b hb))]; exact (f2 b hb).1,(f2 b hb).2⟩
 refine wpAny_newFunctionEnv L.cell (by intro y hy; simp at hy) (fun h4 hn4 afj=>?_) L.kind
 have k34:∀ b o,s3.heap.get? b=some o→h4.get? b=some o:=fun b o e=>(afj.2 b (Nat.ne_of_lt (Heap.lt_size e))).trans (Heap.get?_push_of_some _ e)
 generalize hX':blk X scope cl s3.heap.objs.size (x::fr) s3 (upd H2 s2.heap.objs.size (.lst [])) fp pins=X'
 have I4:Inv X' [] (none::frv σ js) (upd H2 s2.heap.objs.size (.lst [])) { s3 with heap:=h4,toks:=s3.toks+([]:List (Str×Value)).length }:=by
  rw [← hX']; exact aha I3' L hc f3 fsz hn4 k34
 have st4:tn 0 h4:=T.keep _ _ _ st2 fun b _ o e=>k34 b o (k23 b o e)
 have he':PE X' elt te:=by rw [← hX']; exact he _ _ _ _ _
 have xp:X'.prog=X.prog:=by rw [← hX']; rfl
 have xw:X'.w=X.w:=by rw [← hX']; rfl
 have xK:X'.K=X.K:=by rw [← hX']; rfl
 have xA:X'.A=X.A:=by rw [← hX']; rfl
 have xc:X'.calm=true:=by rw [← hX']; rfl
 have xe:X'.xe=fun _ _=>False:=by rw [← hX']; rfl
 have xn:X'.N=x::fr:=by rw [← hX']; rfl
 have xv:X'.env=compEnvC scope cl s3.heap.objs.size X.env:=by rw [← hX']; rfl
 have xpn:X'.pn=X.pn++pins:=by rw [← hX']; rfl
 have xex:X'.ex=fp:=by rw [← hX']; rfl
 have xfs:X'.fs=frs X.stack:=by rw [← hX']; rfl
 have back:∀ {H':Hp}{s':Shared}{h':Heap}{σ':Sg},Inv X' [] σ' H' s'→Heap.SameBut s3.heap.objs.size s'.heap h'→Inv X pins σ H' { s' with heap:=h' }:=fun {H' s' h' σ'} J' hsb=>by
  rw [← hX'] at J'; exact XS I3' J' f3 hsb
 have frame:∀ b∈fp,b ∉ frs X.stack:=fun b hb z=>by
  rcases List.mem_cons.mp (I3'.stkSub b z) with e | e
  ·exact (f3 b hb).2.1 e
  ·exact (f3 b hb).2.2.1 e
 have stat:∀ {H':Hp},(∀ b∈fp,H' b=none)→∀ b∈fp,FpOk X' [] H' b:=fun {H'} hn b hb=>by
  refine⟨hn b hb,?_,?_,.inl (by rw [xex]; exact hb),?_,?_⟩
  ·rw [xv]; exact Nat.ne_of_lt (fsz b hb)
  ·rw [xfs]; exact frame b hb
  ·rw [xv]; exact fun y c e=>(f3 b hb).2.2.2.2.1 y c (L.sub y c e)
  ·rw [xpn,List.append_nil]; exact (f3 b hb).2.2.2.2.2
 have loop:codeAny (model X.prog X.w) X.A (.compLoop (.ListComp elt [⟨.Name x px,iter,[],0⟩] scope pos) 0 (.ref it) (.ref s2.heap.objs.size) (compEnvC scope cl s3.heap.objs.size X.env))
   (compPost (model X.prog X.w) X.A X.xe none (EP X pins σ Q) (.ref s2.heap.objs.size) s3.heap.objs.size) { s3 with heap:=h4,toks:=s3.toks+([]:List (Str×Value)).length }:=by
  refine aao (fun n s'=>∃ i ys o H',Inv X' [] (o::frv σ js) H' s'∧tn i s'.heap∧(∀ b∈fp,H' b=none)∧W i n ys H') ?_ m0 ⟨0,[],none,_,I4,st4,fun b hb=>(f3 b hb).1,w0⟩
  rintro n s5 ⟨i,ys,o,H5,I5,st5,fr5,w5⟩
  obtain⟨hD,hstep⟩:=turn i n ys H5 w5
  rcases hstep with⟨stop,qn⟩ | ⟨go,step⟩
  ·have q:=T.done X' xp xw xK xc i [] s5 _ H5 (fun _ _=>False) I5 (stat fr5) st5 stop
   rw [xA] at q
   refine thn q fun r s6 ⟨hr,I6⟩=>?_
   subst hr
   obtain⟨m6,hn6,_⟩:=I6.loc
   rw [xv] at hn6
   exact⟨m6,hn6,fun h' hsb=>⟨.ref s2.heap.objs.size,H5,back I6 hsb,rfl,qn⟩⟩
  ·have q:=T.item X' xp xw xK xc i [] s5 _ H5 (fun _ _=>False) I5 (stat fr5) st5 go
   rw [xA] at q
   refine thn q fun r s6 ⟨u,hr,h6⟩=>?_
   subst hr
   refine thn h6 fun _ s7 ⟨xx,H7,I7,r7,y7,st7,fr7⟩=>?_
   have I7':=I7.pinned (stat fr7) (T.obj _ _ st7)
   have hg:PG X' (.Name x px) (gName 0):=by
    refine pg_name (i:=0) (x:=x) (by rw [xn]; exact L.nd) (by rw [xn]; rfl) ?_ ?_
    ·rw [xv]; exact .inl (lookup_relabel_local L.var)
    ·rw [xv]; exact .inr (lookup_relabel_local L.var)
   have q7:=hg _ s7 _ H7 xx u (fun σ8 H8=>σ8=some xx::frv σ js∧H8=H7) I7' r7 ⟨rfl,rfl⟩
   rw [xp,xw,xA,xe,xv] at q7
   refine thn q7 fun _ s8 ⟨σ8,H8,I8,e8,e8'⟩=>?_
   subst e8 e8'
   have q8:=he' _ s8 _ _ _ I8 (step xx _ y7)
   rw [xp,xw,xA,xe,xv] at q8
   refine thn q8 fun yv s9 ⟨y,H9,I9,r9,d9,z9,m9,hm9,w9⟩=>?_
   have q9:=cV (X:=X') _ s9 _ H9 (.ref s2.heap.objs.size) [y] (.ref s2.heap.objs.size) [yv] (fun z H'=>H'=upd H9 s2.heap.objs.size (.lst (ys++[y]))) I9 rfl (.cons r9 .nil) ⟨_,ys,y,rfl,rfl,d9,z9,rfl⟩
   rw [xp,xw,xA,xe] at q9
   refine thn q9 fun _ s10 ⟨_,H10,I10,_,e10⟩=>?_
   subst e10
   refine⟨m9,hm9,i+1,ys++[y],some xx,_,I10.unpinned,T.keep _ _ _ st7 fun b hb ob e=>(I10.pin (b,ob) (List.mem_append_right _ (List.mem_append_right _ (mem_pinsAt hb e)))).1,fun b hb=>?_,w9⟩
   obtain⟨ob,e,_⟩:=T.obj _ _ st7 b hb
   exact (I10.pin (b,ob) (List.mem_append_right _ (List.mem_append_right _ (mem_pinsAt hb e)))).2.1
 exact codeAny_compStart_list loop (T.self _ 0 _ _ _ st4 loop)
end
end Sw
namespace Sw
open PySem PySem.Spec PyProof.Rows L2
def uW (cells:List (Str×Addr)):List (Str×NameKind)→List (Str×Addr)→List (Str×Addr)
 | [],acc=>acc
 | (n,.free)::r,acc=>match cells.lookup n with
  | some c=>uW cells r ((n,c)::acc)
  | none=>uW cells r acc
 | (_,_)::r,acc=>uW cells r acc
theorem Il {cells:List (Str×Addr)}{n:Str}{k:NameKind}{r:List (Str×NameKind)}{acc:List (Str×Addr)} (h:k≠.free):uW cells ((n,k)::r) acc=uW cells r acc:=by
 cases k <;> first | rfl | exact absurd rfl h
theorem Im {cells:List (Str×Addr)}{n:Str}{c:Addr}{r:List (Str×NameKind)}{acc:List (Str×Addr)} (h:cells.lookup n=some c):uW cells ((n,.free)::r) acc=uW cells r ((n,c)::acc):=by
 rw [uW,h]
theorem Nv {cells:List (Str×Addr)}:∀ {names:List (Str×NameKind)}{acc:List (Str×Addr)},(∀ y∈names,y.2=.free→∃ c,cells.lookup y.1=some c)→(∀ y c,acc.lookup y=some c→cells.lookup y=some c) →
  ∀ y c,(uW cells names acc).lookup y=some c→cells.lookup y=some c
 | [],_,_,h,y,c,e=>h y c e
 | (n,k)::r,acc,hf,h,y,c,e=>by
  have hr:∀ y∈r,y.2=.free→∃ c,cells.lookup y.1=some c:=fun y hy=>hf y (List.mem_cons_of_mem _ hy)
  by_cases hk:k=.free
  ·subst hk
   obtain⟨d,hd⟩:=hf (n,.free) List.mem_cons_self rfl
   rw [Im hd] at e
   refine Nv hr (fun z b hz=>?_) y c e
   rw [List.lookup_cons] at hz
   cases hzn:z == n with
   | true =>
    rw [hzn] at hz
    have:z=n:=eq_of_beq hzn
    rw [this,hd]
    exact hz
   | false =>
    rw [hzn] at hz
    exact h z b hz
  ·rw [Il hk] at e
   exact Nv hr h y c e
theorem Nx {cells:List (Str×Addr)}:∀ {names:List (Str×NameKind)}{acc:List (Str×Addr)},(∀ y∈names,y.2=.free→∃ c,cells.lookup y.1=some c) →
  ∀ y:Str,((y,NameKind.free)∈names∨∃ c,acc.lookup y=some c)→∃ c,(uW cells names acc).lookup y=some c
 | [],_,_,y,h=>by
  rcases h with h | h
  ·simp at h
  ·exact h
 | (n,k)::r,acc,hf,y,h=>by
  have hr:∀ y∈r,y.2=.free→∃ c,cells.lookup y.1=some c:=fun y hy=>hf y (List.mem_cons_of_mem _ hy)
  by_cases hk:k=.free
  ·subst hk
   obtain⟨d,hd⟩:=hf (n,.free) List.mem_cons_self rfl
   rw [Im hd]
   refine Nx hr y ?_
   by_cases hyn:y=n
   ·subst hyn
    exact .inr ⟨d,by simp [List.lookup_cons]⟩
   ·rcases h with h | ⟨c,h⟩
    ·rcases List.mem_cons.mp h with e | e
     ·exact absurd (congrArg Prod.fst e) hyn
     ·exact .inl e
    ·refine .inr ⟨c,?_⟩
     rw [List.lookup_cons]
     have:(y == n)=false:=by simpa using hyn
     rw [this]
     exact h
  ·rw [Il hk]
   refine Nx hr y ?_
   rcases h with h | h
   ·rcases List.mem_cons.mp h with e | e
    ·exact absurd (congrArg Prod.snd e).symm hk
    ·exact .inl e
   ·exact .inr h
theorem abS {scope:Scope}{env:Env} (hf:∀ y∈scope.names,y.2=.free→∃ c,env.cells.lookup y.1=some c):closureFor scope env=pure (uW env.cells scope.names []):=by
 have key:∀ (names:List (Str×NameKind)) (acc:List (Str×Addr)),(∀ y∈names,y.2=.free→∃ c,env.cells.lookup y.1=some c) →
   (forIn names acc fun (x:Str×NameKind) (cs:List (Str×Addr))=>(match x with | (name,kind)=>if (kind == NameKind.free)=true then (cellOf env name >>= fun a=>pure (ForInStep.yield ((name,a)::cs))) else pure (ForInStep.yield cs):Sem (ForInStep (List (Str×Addr)))))=pure (uW env.cells names acc):=by
  intro names
  induction names with
  | nil=>intro acc _; rfl
  | cons x r ih =>
   intro acc h
   obtain⟨n,k⟩:=x
   have hr:∀ y∈r,y.2=.free→∃ c,env.cells.lookup y.1=some c:=fun y hy=>h y (List.mem_cons_of_mem _ hy)
   rw [List.forIn_cons]
   by_cases hk:k=.free
   ·subst hk
    obtain⟨d,hd⟩:=h (n,.free) List.mem_cons_self rfl
    have hc:cellOf env n=pure d:=by unfold cellOf; rw [hd]
    rw [Im hd,← ih _ hr]
    simp only [beq_self_eq_true,if_true,hc,pure_bind]
   ·have hb:(k == NameKind.free)=false:=by simpa using hk
    rw [Il hk,← ih _ hr]
    simp only [hb,Bool.false_eq_true,if_false,pure_bind]
 have:=key scope.names [] hf
 unfold closureFor
 simp only [bind_pure_comp,map_pure] at this ⊢
 first
  | exact this
  | (rw [this]; rfl)
  | (simp only [this]; rfl)
theorem uM {X:Cx}{scope sc:Scope}{x:Str}{fr:List Str}{js:List Nat} (hk:scope.kind=.function) (hsc:X.env.scope=sc) (hkf:sc.kind=.function)
  (hcell:∀ y∈scope.names,y.2≠.cell) (hloc:∀ y∈scope.names,y.2=.local→scope.names.lookup y.1=some .local) (aoE:scope.names.lookup x=some .local)
  (hfree:∀ y∈scope.names,y.2=.free→sc.names.lookup y.1=some .cell) (hfr:Fl X scope fr js) (hnd:(x::fr).Nodup)
  (hcs:∀ y,X.env.scope.names.lookup y=some .cell→∃ c,X.env.cells.lookup y=some c):Jj X scope x fr js (uW X.env.cells scope.names []):=by
 have hall:∀ y∈scope.names,y.2=.free→∃ c,X.env.cells.lookup y.1=some c:=fun y hy e=>hcs _ (by rw [hsc]; exact hfree y hy e)
 refine⟨hk,abS hall,hcell,hloc,aoE,Nv hall fun y c e=>by simp at e,fun y hy=>Nx hall y (.inl ?_),hfr,hnd⟩
 have get:∀ k,(k=NameKind.cell∨k=NameKind.free)→(relabel scope X.env).names.lookup y=some k→(y,NameKind.free)∈scope.names:=fun k hkk e=>by
  have hm:=PySem.mem_of_lookup e
  unfold relabel at hm
  obtain⟨⟨n,k0⟩,hin,heq⟩:=List.mem_map.mp hm
  dsimp only at heq
  split at heq
  ·rename_i hc
   have e1:n=y:=congrArg Prod.fst heq
   have e2:k0=.free:=by
    rw [Bool.and_eq_true,Bool.and_eq_true] at hc
    exact eq_of_beq hc.1.1
   rw [← e1,← e2]
   exact hin
  ·have e1:n=y:=congrArg Prod.fst heq
   have e2:k0=k:=congrArg Prod.snd heq
   rcases hkk with z | z
   ·exact absurd (by rw [e2,z]) (hcell _ hin)
   ·rw [← e1,← z,← e2]
    exact hin
 rcases hy with h | h
 ·exact get _ (.inl rfl) h
 ·exact get _ (.inr rfl) h
end Sw
namespace Sw
open PySem PySem.Spec PyProof.Rows L2
theorem same_new {H:Hp}{p:Addr} (h:H p=none) (o:HO):Same H (upd H p o):=fun b u q=>by rw [upd_ne (ne_of_none q h)]; exact q
structure Kt (H H':Hp):Prop where
 t:∀ b xs,H b=some (.tup xs)→H' b=some (.tup xs)
 f:∀ b o u,H b=some (.frz o u)→H' b=some (.frz o u)
theorem Kt.of {H H':Hp} (S:Same H H'):Kt H H':=⟨fun b _ e=>S b _ e,fun b _ _ e=>S b _ e⟩
theorem Kt.refl (H:Hp):Kt H H:=⟨fun _ _ e=>e,fun _ _ _ e=>e⟩
theorem Kt.trans {H H1 H2:Hp} (a:Kt H H1) (b:Kt H1 H2):Kt H H2:=⟨fun _ _ e=>b.t _ _ (a.t _ _ e),fun _ _ _ e=>b.f _ _ _ (a.f _ _ _ e)⟩
theorem Kt.new {H:Hp}{p:Addr}{o:HO} (h:H p=none):Kt H (upd H p o):=.of (same_new h o)
theorem Kt.lst {H:Hp}{p:Addr}{ys:List V}{o:HO} (h:H p=some (.lst ys)):Kt H (upd H p o) :=
 ⟨fun b xs e=>by rw [upd_ne (ne_of e h (fun z=>by cases z))]; exact e,fun b o' u e=>by rw [upd_ne (ne_of e h (fun z=>by cases z))]; exact e⟩
theorem dM {K:PySem.W.Frag}{H H':Hp}{a:Addr}{xs:List V} (S:Kt H H') (h:SqT K H a xs):SqT K H' a xs:=by
 rcases h with (h | ⟨o,h⟩) | h
 ·exact .inl (.inl (S.t _ _ h))
 ·exact .inl (.inr ⟨o,S.f _ _ _ h⟩)
 ·exact .inr h
theorem eG {H H':Hp}{p:Addr}{o:HO} (S:Same H H') (h:H p=none):Same H (upd H' p o):=fun b u q=>by rw [upd_ne (ne_of_none q h)]; exact S b u q
section
variable {X:Cx}
theorem afA (hc:X.calm=true):CallR X (.builtin "sum") (fun xs H Q=>∃ (p:Addr) (ns:List Int),xs=[.ref p]∧SqL X.K H p (ns.map V.int)∧Q (.int ns.sum) H):=by
 intro pins s σ H xs us Q I r h
 obtain⟨p,ns,rfl,hq,q⟩:=h
 obtain⟨u,rfl,rx⟩:=vals1 r
 cases rx
 obtain⟨its,r',pl,hz⟩:=I.list hq
 have hi:IntsAre its ns:=intsAre_of r'
 obtain⟨ys,e⟩:=hi.allInts.items
 have hns:ns=ys.toList.map (·.1):=by
  rw [← hi.numsOf,← nums_intItems,← e]
 have hl:=pl.isList
 rw [e] at hl
 refine sum_intListG (I.ok.hd hc) hl fun h' tk t' hk=>?_
 have es:preSum (numAt ys) ys.size=ns.sum:=by rw [preSum_eq,List.take_of_length_le (by simp),hns]
 exact⟨.int ns.sum,H,I.kept hk,⟨t',by rw [es]⟩,q⟩
theorem HF (l:Addr) (items:Array Value) (n:Nat) (b:Addr) (items2:Array Value) (n2:Nat) (dd:Option Addr) (sl:Array (Option Value))
  (h0:¬ (!items.isEmpty && Builtin.List.listTooLong (items.size+items2.size))=true) (h1:items.size≤sizeLine) (h2:items.size+items2.size≤sizeLine+1) :
  Meets (Builtin.«list.extend» ⟨[.ref l,.ref b],[]⟩) (fun _ R s=>s.heap.get? l=some { cls:=.type "list",dict:=none,data:=.seq items n,slots:=#[] } ∧
   s.heap.get? b=some { cls:=.type "tuple",dict:=dd,data:=.seq items2 n2,slots:=sl }∧R (.ok (.ret Value.none)) { s with heap:=s.heap.update l (Obj.mapSeq fun x=>x++items2),toks:=s.toks }) :=
 .of_wp fun prog w A R s h=>by
  obtain⟨hp,g,d,tk,os⟩:=s
  obtain⟨hl,hb,h⟩:=h
  have f1:=AutoSeq1.idx_int
  have f2:=AutoSeq1.sub_tuple_tuple
  have f3:=AutoSeq1.sub_list_list
  have f4:=AutoSeq1.sub_tuple_list
  have f5:=AutoSeq1.sub_list_tuple
  have hz':(items++items2).size≤sizeLine+1:=by
   rw [Array.size_append]
   exact h2
  wp_walk using (wpAny_updateSeq hl rfl (hz:=h1) (_hz':=hz')),AutoSeq1.wpAny_loadPart' hl,AutoSeq1.wpAny_loadPart' hb
  exact⟨_,rfl,h⟩
def akb (K:PySem.W.Frag):V→List V→Hp→VK→Prop:=fun x vs H Q=>∃ l b xs zs,x=.ref l∧vs=[.ref b]∧H l=some (.lst xs)∧SqT K H b zs∧xs.length+zs.length≤sizeLine∧Q .non (upd H l (.lst (xs++zs)))
theorem aal:MtM X "list.extend" (akb X.K):=by
 intro pins s σ H x vs v us Q I rx rv h
 obtain⟨l,b,xs,zs,rfl,rfl,hH,hB,hz,q⟩:=h
 cases rx
 obtain⟨u,rfl,ru⟩:=rv.one
 cases ru
 obtain⟨z,its,n,r,hl,e⟩:=I.lstM hH
 obtain⟨its2,r2,⟨⟨c2,d2,dt2,sl2⟩,e2,hc2,n2,hd2⟩,z2⟩:=I.tuple hB
 have hl2:=r2.length
 simp only at hc2 hd2
 subst hc2 hd2
 have hsz:its.toArray.size+its2.toArray.size≤sizeLine:=by rw [List.size_toArray,List.size_toArray]; lia
 have aby:¬ (!its.toArray.isEmpty && Builtin.List.listTooLong (its.toArray.size+its2.toArray.size))=true:=by
  rw [Mf hsz,Bool.and_false]
  exact Bool.false_ne_true
 refine call_meets F.slot_list_extend ⟨_,e,rfl⟩ F.entry_list_extend (F.args_list_extend_2 _ _)
  (HF l its.toArray n b its2.toArray n2 d2 sl2 aby (by rw [List.size_toArray]; lia) (by lia)) ⟨e,e2,?_⟩
 refine⟨.non,_,I.WY (its':=its++its2) hH e (by simp) (r.append r2) ?_,rfl,q⟩
 rw [List.length_append]
 lia
theorem Gb {prog:Program}{w:World}{A:Around}{E:Value→Shared→Prop}{s:Shared}{t sl:Addr}{items:Array Value}{vl vu:Value}{lo hi:Option Int}{Q:Value→Shared→Prop}
  (ht:IsTup s.heap t items) (hs:s.heap.IsSliceOf sl vl vu .none) (pl:IsPart vl lo) (pu:IsPart vu hi)
  (h1:HT.sIx items.size 0 lo=0) (h2:HT.sIx items.size items.size hi=items.size) (h:Q (.ref t) s):wpAny (model prog w) A (getItem (.ref t) (.ref sl)) Q E s:=by
 obtain⟨os,hos,hcs,hds⟩:=id hs
 have hTs:s.TypeIs (.ref sl) "slice":=⟨os,hos,hcs⟩
 unfold getItem
 try with_reducible refine wpAny_holding ?_
 first | refine wpAny_bind (wpAny_pure ?_) | skip
 refine wpAny_bind (wpAny_sequenceKey ht.typeIs (by decide) ?_)
 refine wpAny_bind (wpAny_callSpecial?_slot (name:=Str.ofString "__getitem__") ht.typeIs PyProof.Rows.slot_tuple_getitem
  (wpAny_call_entry PyProof.Rows.slot_tuple_getitem ht.typeIs entry_tuple_getitem ?_ (args_tuple_getitem _ _)))
 show wpAny _ _ (Builtin.Tuple.tupleItemsOf (.ref t) >>= _) _ _ s
 refine wpAny_bind (tupleItemsOf_ ht ?_)
 refine wpAny_bind (wpAny_typeOf hTs ?_)
 rw [if_pos (by decide)]
 refine wpAny_bind (HT.yg hs pl pu ?_)
 have hyes:(((HT.sIx items.size 0 lo:Nat):Int) == 0 && (1:Int) == 1 && (HT.sIx items.size items.size hi - HT.sIx items.size 0 lo) == items.size)=true:=by
  rw [h1,h2]
  simp
 show wpAny _ _ (if (((HT.sIx items.size 0 lo:Nat):Int) == 0 && (1:Int) == 1 && (HT.sIx items.size items.size hi - HT.sIx items.size 0 lo) == items.size)=true then _ else _) _ _ s
 rw [if_pos hyes]
 unfold Builtin.Tuple.tupleIsExact
 refine wpAny_bind (wpAny_bind (wpAny_typeOf ht.typeIs (wpAny_pure ?_)))
 rw [if_pos (by decide)]
 refine wpAny_bind (wpAny_rule ?_)
 exact wpAny_pure ⟨_,rfl,wpAny_pure h⟩
def aj8 (K:PySem.W.Frag):V→Option Int→Option Int→Hp→VK→Prop:=fun x lo hi H Q=>∃ a xs,x=.ref a∧SqT K H a xs ∧
 HT.sIx xs.length 0 lo=0∧HT.sIx xs.length xs.length hi=xs.length∧Q (.ref a) H
theorem af7:SlR X (aj8 X.K):=by
 intro pins s σ H x v vl vu lo hi sl Q I rx hs pl pu h
 obtain⟨a,xs,rfl,hx,w1,w2,q⟩:=h
 cases rx
 obtain⟨its,r,ht,hz⟩:=I.tuple hx
 have hlen:its.toArray.size=xs.length:=by rw [List.size_toArray]; exact r.length.symm
 refine⟨"tuple",_,PyProof.Rows.slot_tuple_getitem.lookup,ht.typeIs,?_⟩
 exact Gb ht hs pl pu (by rw [hlen]; exact w1) (by rw [hlen]; exact w2) ⟨.ref a,H,I,rfl,q⟩
def aaX (K:PySem.W.Frag):V→Option Int→Option Int→Hp→VK→Prop:=fun x lo hi H Q=>∃ a xs,x=.ref a∧SqT K H a xs∧∀ p H',Same H H'→SqT K H' p (iK xs lo hi)→Q (.ref p) H'
theorem abP {xs:List V}{lo hi:Option Int} (h1:HT.sIx xs.length 0 lo=0) (h2:HT.sIx xs.length xs.length hi=xs.length):iK xs lo hi=xs:=by
 unfold iK
 rw [h1,h2]
 simp
theorem BJ:SlR X (aaX X.K):=by
 intro pins s σ H x v vl vu lo hi sl Q I rx hs pl pu h
 obtain⟨a,xs,rfl,hx,q⟩:=h
 by_cases hw:HT.sIx xs.length 0 lo=0∧HT.sIx xs.length xs.length hi=xs.length
 ·exact af7 pins s σ H _ v vl vu lo hi sl Q I rx hs pl pu ⟨a,xs,rfl,hx,hw.1,hw.2,q a H (Same.refl H) (by rw [abP hw.1 hw.2]; exact hx)⟩
 ·exact ahC pins s σ H _ v vl vu lo hi sl Q I rx hs pl pu ⟨a,xs,rfl,hx,hw,fun p hp=>q p _ (same_new hp _) (SqT.of upd_same)⟩
end
mutual
def TR (K:PySem.W.Frag) (H:Hp):T→V→Prop
 | .node ts,x=>∃ a xs,x=.ref a∧SqT K H a xs∧TRs K H ts xs
def TRs (K:PySem.W.Frag) (H:Hp):List T→List V→Prop
 | [],xs=>xs=[]
 | t::ts,xs=>∃ x r,xs=x::r∧TR K H t x∧TRs K H ts r
end
section
variable {K:PySem.W.Frag}{H H':Hp}
theorem cN {ts:List T}{x:V}:TR K H (.node ts) x↔∃ a xs,x=.ref a∧SqT K H a xs∧TRs K H ts xs:=by rw [TR]
theorem bJ {xs:List V}:TRs K H [] xs↔xs=[]:=by rw [TRs]
theorem cH {t:T}{ts:List T}{xs:List V}:TRs K H (t::ts) xs↔∃ x r,xs=x::r∧TR K H t x∧TRs K H ts r:=by rw [TRs]
theorem Fb {t:T}{x:V} (h:TR K H t x):∃ a xs,x=.ref a∧SqT K H a xs∧TRs K H t.kids xs:=by
 cases t with
 | node ts=>exact cN.mp h
theorem vH {ts:List T}{a:Addr}{xs:List V} (h:SqT K H a xs) (q:TRs K H ts xs):TR K H (.node ts) (.ref a):=cN.mpr ⟨a,xs,rfl,h,q⟩
mutual
theorem TR.mono (S:Kt H H'):∀ {t:T}{x:V},TR K H t x→TR K H' t x
 | .node ts,x,h=>by
  obtain⟨a,xs,e,h1,h2⟩:=cN.mp h
  exact cN.mpr ⟨a,xs,e,dM S h1,TRs.mono S h2⟩
theorem TRs.mono (S:Kt H H'):∀ {ts:List T}{xs:List V},TRs K H ts xs→TRs K H' ts xs
 | [],xs,h=>by rw [bJ] at h ⊢; exact h
 | t::ts,xs,h=>by
  obtain⟨x,r,e,h1,h2⟩:=cH.mp h
  exact cH.mpr ⟨x,r,e,TR.mono S h1,TRs.mono S h2⟩
end
theorem TRs.length:∀ {ts:List T}{xs:List V},TRs K H ts xs→xs.length=ts.length
 | [],xs,h=>by rw [bJ] at h; rw [h]; rfl
 | t::ts,xs,h=>by
  obtain⟨x,r,e,h1,h2⟩:=cH.mp h
  rw [e,List.length_cons,List.length_cons,TRs.length h2]
theorem TRs.append:∀ {ts us:List T}{xs ys:List V},TRs K H ts xs→TRs K H us ys→TRs K H (ts++us) (xs++ys)
 | [],us,xs,ys,h,g=>by rw [bJ] at h; rw [h]; exact g
 | t::ts,us,xs,ys,h,g=>by
  obtain⟨x,r,e,h1,h2⟩:=cH.mp h
  rw [e]
  exact cH.mpr ⟨x,r++ys,rfl,h1,TRs.append h2 g⟩
theorem TRs.get:∀ {ts:List T}{xs:List V},TRs K H ts xs→∀ {i:Nat}{x:V},xs[i]?=some x→∃ t,ts[i]?=some t∧TR K H t x
 | [],xs,h,i,x,e=>by rw [bJ] at h; rw [h] at e; simp at e
 | t::ts,xs,h,i,x,e=>by
  obtain⟨y,r,rfl,h1,h2⟩:=cH.mp h
  cases i with
  | zero=>exact⟨t,rfl,by have e':y=x:=(by simpa using e);rw [← e']; exact h1⟩
  | succ i=>exact TRs.get h2 (i:=i) (by simpa using e)
theorem TRs.take:∀ (n:Nat) {ts:List T}{xs:List V},TRs K H ts xs→TRs K H (ts.take n) (xs.take n)
 | 0,ts,xs,h=>by rw [List.take_zero,List.take_zero,bJ]
 | n+1,[],xs,h=>by rw [bJ] at h; rw [h]; exact bJ.mpr rfl
 | n+1,t::ts,xs,h=>by
  obtain⟨x,r,rfl,h1,h2⟩:=cH.mp h
  exact cH.mpr ⟨x,r.take n,rfl,h1,TRs.take n h2⟩
theorem TRs.drop:∀ (n:Nat) {ts:List T}{xs:List V},TRs K H ts xs→TRs K H (ts.drop n) (xs.drop n)
 | 0,ts,xs,h=>h
 | n+1,[],xs,h=>by rw [bJ] at h; rw [h]; exact bJ.mpr rfl
 | n+1,t::ts,xs,h=>by
  obtain⟨x,r,rfl,h1,h2⟩:=cH.mp h
  exact TRs.drop n h2
theorem TRs.dropLast {ts:List T}{xs:List V} (h:TRs K H ts xs):TRs K H ts.dropLast xs.dropLast:=by
 rw [List.dropLast_eq_take,List.dropLast_eq_take,h.length]
 exact h.take _
end
section
variable {X:Cx}{pins:List (Addr×Obj)}{σ:Sg}{H:Hp}{s:Shared}
theorem U7 (I:Inv X pins σ H s):∀ (n:Nat),(∀ (t u:T) (x:V),t.parts≤n→TR X.K H t x→TR X.K H u x→t=u)∧(∀ (ts us:List T) (xs:List V),T.au ts≤n→TRs X.K H ts xs→TRs X.K H us xs→ts=us)
 | 0=>⟨fun t u x h _ _=>absurd (T.i_ t) (by lia),fun ts us xs h q r=>by
   have h1:=T.cQ ts
   have h2:=q.length
   have h3:=r.length
   have e1:ts=[]:=List.length_eq_zero_iff.mp (by lia)
   have e2:us=[]:=List.length_eq_zero_iff.mp (by lia)
   rw [e1,e2]⟩
 | n+1=>by
  have ih:=U7 I n
  have A:∀ (t u:T) (x:V),t.parts≤n+1→TR X.K H t x→TR X.K H u x→t=u:=fun t u x h q r=>by
   cases t with
   | node ts =>
    cases u with
    | node us =>
     obtain⟨a,xs,e1,q1,q2⟩:=cN.mp q
     obtain⟨b,ys,e2,r1,r2⟩:=cN.mp r
     rw [e1] at e2
     cases e2
     have:=I.sI q1 r1
     subst this
     rw [T.aL] at h
     rw [ih.2 ts us xs (by lia) q2 r2]
  refine⟨A,fun ts us xs h q r=>?_⟩
  cases ts with
  | nil =>
   rw [bJ] at q
   subst q
   have:=r.length
   exact (List.length_eq_zero_iff.mp (by simpa using this.symm)).symm
  | cons t ts =>
   obtain⟨x,r',rfl,q1,q2⟩:=cH.mp q
   cases us with
   | nil=>rw [bJ] at r; cases r
   | cons u us =>
    obtain⟨x2,r2',e,r1,r2⟩:=cH.mp r
    cases e
    rw [T.aq] at h
    have h1:=T.i_ t
    rw [A t u x (by lia) q1 r1,ih.2 ts us r' (by lia) q2 r2]
def pD (ts us:List T) (j:Nat):Bool:=match ts[j]?,us[j]? with
 | some t,some u=>T.beq t u
 | _,_=>false
theorem xr:∀ ts us:List T,((List.range (min ts.length us.length)).all (pD ts us) && ts.length == us.length)=T.jq ts us
 | [],[]=>by simp [T.jq]
 | [],u::us=>by simp [T.jq]
 | t::ts,[]=>by simp [T.jq]
 | t::ts,u::us=>by
  have ih:=xr ts us
  have e:min (t::ts).length (u::us).length=min ts.length us.length+1:=by simp only [List.length_cons]; lia
  rw [e,List.range_succ_eq_map,List.all_cons,List.all_map]
  have e2:(pD (t::ts) (u::us)∘Nat.succ)=pD ts us:=by
   funext j
   simp [pD]
  have e3:pD (t::ts) (u::us) 0=T.beq t u:=rfl
  have e4:((t::ts).length == (u::us).length)=(ts.length == us.length):=by simp
  rw [e2,e3,e4,Bool.and_assoc,ih]
  rw [T.jq]
theorem Z8 (I:Inv X pins σ H s):∀ (n:Nat) (t u:T) (A:Around) (a b:Addr),t.deep≤n→TR X.K H t (.ref a)→TR X.K H u (.ref b)→A.units+n<cLine→SeqAt.RcAt A s (.ref a) (.ref b) (T.beq t u):=by
 intro n
 induction n with
 | zero =>
  intro t u A a b hd q r hu
  cases t with
  | node ts =>
   cases u with
   | node us =>
    obtain⟨a',xs,e1,q1,q2⟩:=cN.mp q
    cases e1
    obtain⟨b',ys,e2,r1,r2⟩:=cN.mp r
    cases e2
    rw [T.aO] at hd
    have hts:ts=[]:=by
     cases ts with
     | nil=>rfl
     | cons t ts=>rw [T.aK] at hd; lia
    subst hts
    rw [bJ] at q2
    subst q2
    obtain⟨its,rv,ht,_⟩:=I.tuple q1
    obtain⟨its2,rv2,ht2,_⟩:=I.tuple r1
    have h0:=rv.length
    have h2:=rv2.length
    have h3:=r2.length
    have key:=SeqAt.RcAt.tuples (A:=A) (e:=fun _=>true) ht ht2 (by lia) (fun j j1 _=>absurd j1 (by rw [List.size_toArray,← h0]; simp))
    have ev:((List.range (min its.toArray.size its2.toArray.size)).all (fun _=>true) && its.toArray.size == its2.toArray.size)=T.beq (.node []) (.node us):=by
     rw [List.size_toArray,List.size_toArray,← h0,← h2,h3,T.beq,← xr]
     simp
    rw [ev] at key
    exact key
 | succ n ih =>
  intro t u A a b hd q r hu
  cases t with
  | node ts =>
   cases u with
   | node us =>
    obtain⟨a',xs,e1,q1,q2⟩:=cN.mp q
    cases e1
    obtain⟨b',ys,e2,r1,r2⟩:=cN.mp r
    cases e2
    rw [T.aO] at hd
    obtain⟨its,rv,ht,_⟩:=I.tuple q1
    obtain⟨its2,rv2,ht2,_⟩:=I.tuple r1
    have l1:=rv.length
    have l2:=rv2.length
    have l3:=q2.length
    have l4:=r2.length
    have key:=SeqAt.RcAt.tuples (A:=A) (e:=pD ts us) ht ht2 (by lia) (fun j j1 j2=>?_)
    ·have ev:((List.range (min its.toArray.size its2.toArray.size)).all (pD ts us) && its.toArray.size == its2.toArray.size)=T.beq (.node ts) (.node us):=by
      rw [List.size_toArray,List.size_toArray,← l1,← l2,l3,l4,T.beq,← xr]
     rw [ev] at key
     exact key
    ·have j1':j<xs.length:=by rw [l1]; simpa using j1
     have j2':j<ys.length:=by rw [l2]; simpa using j2
     obtain⟨u1,hu1,ru1⟩:=rv.get (List.getElem?_eq_getElem j1')
     obtain⟨u2,hu2,ru2⟩:=rv2.get (List.getElem?_eq_getElem j2')
     obtain⟨t1,ht1,tr1⟩:=q2.get (List.getElem?_eq_getElem j1')
     obtain⟨t2,afi,tr2⟩:=r2.get (List.getElem?_eq_getElem j2')
     have ee:pD ts us j=T.beq t1 t2:=by unfold pD; rw [ht1,afi]
     have g1:its.toArray[j]=u1:=by
      have:its[j]?=some u1:=hu1
      rw [List.getElem?_eq_some_iff] at this
      obtain⟨_,e⟩:=this
      simpa using e
     have g2:its2.toArray[j]=u2:=by
      have:its2[j]?=some u2:=hu2
      rw [List.getElem?_eq_some_iff] at this
      obtain⟨_,e⟩:=this
      simpa using e
     rw [ee,g1,g2]
     obtain⟨a1,zs1,e1,_⟩:=Fb tr1
     obtain⟨a2,zs2,e2,_⟩:=Fb tr2
     rw [e1] at ru1 tr1
     rw [e2] at ru2 tr2
     obtain rfl:u1=Value.ref a1:=ru1
     obtain rfl:u2=Value.ref a2:=ru2
     by_cases hne:a1=a2
     ·subst hne
      have et:t1=t2:=(U7 I t1.parts).1 t1 t2 _ (Nat.le_refl _) tr1 tr2
      rw [et,T.uY]
      exact SeqAt.EqAt.same _
     ·have hd1:t1.deep≤n:=by
       have:=T.jM (List.mem_of_getElem? ht1)
       lia
      exact SeqAt.EqAt.of_refs hne (ih t1 t2 A.in1 a1 a2 hd1 tr1 tr2 (by rw [Around.in1_units]; lia))
end
section
variable {X:Cx}
def akc (K:PySem.W.Frag) (n:Nat):R2:=fun x y H Q=>∃ t u,TR K H t x∧TR K H u y∧t.deep≤n∧Q (.bl (T.beq t u)) H
theorem aag {n:Nat} (hu:X.A.units+n<cLine):OpR X (compareOp .Eq) (akc X.K n):=by
 intro pins s σ H x y v u Q I rx ry h
 obtain⟨t,t',h1,h2,hd,q⟩:=h
 obtain⟨a,xs,e1,_⟩:=Fb h1
 obtain⟨b,ys,e2,_⟩:=Fb h2
 subst e1 e2
 cases rx
 cases ry
 exact Z8 I n t t' X.A a b hd h1 h2 hu _ _ _ _ ⟨.bl _,H,I,rfl,q⟩
end
section
variable {X:Cx}{K:PySem.W.Frag}
end
end Sw
namespace SwR
open PySem PySem.Spec PyProof.Rows L2 Sw
theorem BK:Slot "reversed" "__next__" "reversed.__next__":=.of (owner:="reversed") (n:="__next__") (by rw [typeLookup_type,builtinLookup_eq_fast]; kernel_rfl) (by decide +kernel) (by decide +kernel) (by decide +kernel) (by first | exact .inl (by decide +kernel) | exact .inr (by decide +kernel)) (by rw [isSubtype_type]; kernel_rfl)
theorem aas:entryFor table "reversed.__next__"=some Builtin.«reversed.__next__»:=entryFor_of_tree (by kernel_rfl)
theorem aax (a:Value):argsOk "reversed.__next__" ⟨[a],[]⟩:=by unfold argsOk; kernel_rfl
theorem Z5:Slot "reversed" "__iter__" "reversed.__iter__":=.of (owner:="reversed") (n:="__iter__") (by rw [typeLookup_type,builtinLookup_eq_fast]; kernel_rfl) (by decide +kernel) (by decide +kernel) (by decide +kernel) (by first | exact .inl (by decide +kernel) | exact .inr (by decide +kernel)) (by rw [isSubtype_type]; kernel_rfl)
theorem ahf (a:Value):argsOk "reversed.__iter__" ⟨[a],[]⟩:=by unfold argsOk; kernel_rfl
theorem ag1:entryFor table "reversed.__iter__"=some Builtin.«dict_keyiterator.__iter__»:=entryFor_alias (id':="dict_keyiterator.__iter__") (by kernel_rfl) (by first | rfl | decide +kernel) (by decide +kernel) (by kernel_rfl)
theorem QK:Slot "reversed" "__length_hint__" "reversed.__length_hint__":=.of (owner:="reversed") (n:="__length_hint__") (by rw [typeLookup_type,builtinLookup_eq_fast]; kernel_rfl) (by decide +kernel) (by decide +kernel) (by decide +kernel) (by first | exact .inl (by decide +kernel) | exact .inr (by decide +kernel)) (by rw [isSubtype_type]; kernel_rfl)
theorem ag2:entryFor table "reversed.__length_hint__"=some Builtin.«reversed.__length_hint__»:=entryFor_of_tree (by kernel_rfl)
theorem ahg (a:Value):argsOk "reversed.__length_hint__" ⟨[a],[]⟩:=by unfold argsOk; kernel_rfl
theorem ait:typeLookup (.type "reversed") "__len__"=pure none:=by rw [typeLookup_type,builtinLookup_eq_fast]; kernel_rfl
theorem af8:Slot "reversed" "__init__" "object.__init__":=.of (owner:="object") (n:="__init__") (by rw [typeLookup_type,builtinLookup_eq_fast]; kernel_rfl) (by decide +kernel) (by decide +kernel) (by decide +kernel) (by first | exact .inl (by decide +kernel) | exact .inr (by decide +kernel)) (by rw [isSubtype_type]; kernel_rfl)
theorem acG:typeLookup (.type "tuple") "__reversed__"=pure none:=by rw [typeLookup_type,builtinLookup_eq_fast]; kernel_rfl
theorem abT:TypeCalled "reversed" "reversed.__new__" "object.__init__" :=
 ⟨by decide +kernel,by decide +kernel,⟨_,_,F.mro_reversed⟩,F.made_reversed,by decide +kernel,by rw [isSubtype_type]; kernel_rfl,af8⟩
def RvO (h:Heap) (p a:Addr) (i:Int):Prop:=∃ o,h.get? p=some o∧o.cls=.type "reversed"∧o.data=.fields #[.ref a,rawInt i]
theorem RvO.typeIs {s:Shared}{p a:Addr}{i:Int} (x:RvO s.heap p a i):s.TypeIs (.ref p) "reversed":=let ⟨o,ho,hc,_⟩:=x; ⟨o,ho,hc⟩
section
variable {prog:Program}{w:World}{A:Around}{E:Value→Shared→Prop}{s:Shared}
theorem next_item {it a:Addr}{i:Nat}{items:Array Value}{x:Value}{Q:Option Value→Shared→Prop} (hit:RvO s.heap it a (i:Int)) (ht:IsTup s.heap a items) (hx:items[i]?=some x) (hz:items.size≤sizeLine) (hne:a≠it)
  (hQ:∀ h' tk,RvO h' it a ((i:Int) - 1)→Heap.SameBut it s.heap h'→Q (some x) { s with heap:=h',toks:=tk }):wpAny (model prog w) A (pyNext (.ref it)) Q E s:=by
 obtain⟨o,ho,hc,hd⟩:=id hit
 unfold pyNext
 refine wpAny_bind (wpAny_attempt (wpAny_callSpecial?_slot (name:=Str.ofString "__next__") hit.typeIs BK (wpAny_call_entry BK hit.typeIs aas ?_ (aax _))))
 unfold Builtin.«reversed.__next__»
 refine wpAny_bind (wpAny_of_eq (a:=(Value.ref it,[])) rfl ?_)
 dsimp only
 refine wpAny_bind (wpAny_field ho hd (x:=.ref a) rfl ?_)
 refine wpAny_bind (wpAny_field ho hd (x:=rawInt (i:Int)) rfl ?_)
 show wpAny _ _ (if (i:Int)<0 then _ else _) _ _ s
 rw [if_neg (by lia)]
 refine wpAny_bind (wpAny_specialOf ht.typeIs PyProof.Rows.slot_tuple_getitem.lookup ?_)
 rw [if_neg (by decide)]
 have hi:i<items.size:=(Array.getElem?_eq_some_iff.mp hx).1
 have hl:sizeLine=16777216:=sizeLine_eq
 refine wpAny_bind (wpAny_mkInt ?_)
 refine wpAny_bind (wpAny_attempt (getItem_tuple (j:=i) ht (by lia) (by lia) (by rw [seqIndex_of (by lia) (by lia)]; rfl) hx ?_))
 dsimp only
 refine wpAny_bind (wpAny_field ho hd (x:=rawInt (i:Int)) rfl ?_)
 refine wpAny_bind (wpAny_setField ho hd (by simp) ?_)
 refine wpAny_pure ⟨x,rfl,wpAny_pure (hQ _ _ ?_ (Heap.SameBut.update ..))⟩
 exact⟨_,Heap.get?_update_self _ ho (Obj.isFreed_of_fields (Obj.data_mapFields hd _)),(Obj.cls_mapFields ..).trans hc,by rw [Obj.data_mapFields hd]; simp⟩
theorem next_end {it a:Addr}{Q:Option Value→Shared→Prop} (hh:A.handled=none) (hit:RvO s.heap it a (-1))
  (hQ:∀ h',Heap.ExtBut it s.heap h'→Q none { s with heap:=h' }):wpAny (model prog w) A (pyNext (.ref it)) Q E s:=by
 obtain⟨o,ho,hc,hd⟩:=id hit
 unfold pyNext
 refine wpAny_bind (wpAny_attempt (wpAny_callSpecial?_slot (name:=Str.ofString "__next__") hit.typeIs BK (wpAny_call_entry BK hit.typeIs aas ?_ (aax _))))
 unfold Builtin.«reversed.__next__»
 refine wpAny_bind (wpAny_of_eq (a:=(Value.ref it,[])) rfl ?_)
 dsimp only
 refine wpAny_bind (wpAny_field ho hd (x:=.ref a) rfl ?_)
 refine wpAny_bind (wpAny_field ho hd (x:=rawInt (-1)) rfl ?_)
 show wpAny _ _ (if (-1:Int)<0 then _ else _) _ _ s
 rw [if_pos (by decide)]
 refine wpAny_bind (wpAny_rule ?_)
 have e1:=Heap.get?_update_self (Obj.mapFields fun vs=>vs.setIfInBounds 1 (rawInt (-1))) ho (Obj.isFreed_of_fields (Obj.data_mapFields hd _))
 refine wpAny_bind (wpAny_bind (wpAny_setField ho hd (by simp) ?_))
 refine wpAny_setField e1 (Obj.data_mapFields hd _) (by simp) ?_
 refine wpAny_bind ?_
 unfold Builtin.SmallTypes.stopIteration
 refine wpAny_bind ?_
 simp only [newExc,newTuple]
 refine wpAny_bind (wpAny_newObj_type ?_ (by size_fits)); refine wpAny_bind (m:=firstArgMember _ _) (wpAny_of_eq (a:=Value.none) (by first | rfl | (simp only [firstArgMember]; rfl)) ?_); refine wpAny_newObj_type ?_ (by size_fits)
 simp only [raiseNew]; refine wpAny_bind (wpAny_handled ?_)
 first | rw [show A.in1.handled=none from hh] | rw [hh]
 refine wpAny_bind (wpAny_pure (wpAny_throw ?_)); refine wpAny_bind (wpAny_isInstance (T:="StopIteration") (b:=true) ⟨_,Heap.get?_push_size _ rfl,rfl⟩ isSubtype_stop (wpAny_pure (hQ _ ?_)))
 intro b ob hb e
 refine Heap.get?_push_of_some _ (Heap.get?_push_of_some _ ?_)
 exact (Heap.get?_update_other _ _ (Ne.symm hb)).trans ((Heap.get?_update_other _ _ (Ne.symm hb)).trans e)
theorem zN {it a:Addr}{i:Int}{Q:Value→Shared→Prop} (hit:RvO s.heap it a i) (h:Q (.ref it) s):wpAny (model prog w) A (pyIter (.ref it)) Q E s:=by
 refine wpAny_pyIter_slot hit.typeIs Z5 (wpAny_call_entry Z5 hit.typeIs ag1 ?_ (ahf _))
 show wpAny _ _ (ret (.ref it)) _ _ s
 exact wpAny_pure ⟨_,rfl,"reversed",_,hit.typeIs,BK.lookup,h⟩
theorem RvO.keep {h h':Heap}{p a:Addr}{i:Int} (x:RvO h p a i) (e:∀ o,h.get? p=some o→h'.get? p=some o):RvO h' p a i:=let ⟨o,ho,r⟩:=x; ⟨o,e _ ho,r⟩
theorem CZ {h h':Heap}{a:Addr}{items:Array Value} (x:IsTup h a items) (e:∀ o,h.get? a=some o→h'.get? a=some o):IsTup h' a items:=let ⟨o,ho,r⟩:=x; ⟨o,e _ ho,r⟩
end
theorem acy {prog:Program}{w:World}{A:Around} (hh:A.handled=none) (I a:Addr) (hne:a≠I) (items:Array Value) (hz:items.size≤sizeLine) :
  Walks prog w A I [I,a] [I] items.size (fun i v=>items[items.size - 1 - i]?=some v) (fun i h=>i≤items.size∧RvO h I a ((items.size:Int) - 1 - (i:Int))∧IsTup h a items) where
 sub:=fun b hb=>by simp at hb; simp [hb]
 frame:=fun _ _ _ x hk=>⟨x.1,x.2.1.keep fun o e=>hk I (by simp) o e,CZ x.2.2 fun o e=>hk a (by simp) o e⟩
 item:=fun i s Q E hi x hQ=>by
  obtain⟨_,hit,ht⟩:=x
  have e:(items.size:Int) - 1 - (i:Int)=((items.size - 1 - i:Nat):Int):=by lia
  rw [e] at hit
  have hx:items[items.size - 1 - i]?=some (items[items.size - 1 - i]'(by lia)):=Array.getElem?_eq_getElem (by lia)
  refine next_item hit ht hx hz hne fun h' tk hit' hs'=>hQ _ h' tk hx ⟨by lia,?_,CZ ht fun o eo=>(hs'.2 a hne).trans eo⟩ fun b o hb eo=>hs'.extBut b o (fun z=>hb (by simp [z])) eo
  have e2:((items.size - 1 - i:Nat):Int) - 1=(items.size:Int) - 1 - ((i+1:Nat):Int):=by lia
  rw [← e2]
  exact hit'
 done:=fun s Q E x hQ=>by
  obtain⟨_,hit,ht⟩:=x
  have e:(items.size:Int) - 1 - (items.size:Int)=-1:=by lia
  rw [e] at hit
  exact next_end hh hit fun h' he'=>hQ h' s.toks fun b o hb eo=>he' b o (fun z=>hb (by simp [z])) eo
 self:=fun _ _ _ _ x hQ=>zN x.2.1 hQ
section
variable {prog:Program}{w:World}{A:Around}{E:Value→Shared→Prop}{s:Shared}
theorem T_ (k:Int) (u:Tok):asInt? (.int k u)=pure (some k):=rfl
theorem adN {it a:Addr}{items:Array Value}{Q:Value→Shared→Prop} (hit:RvO s.heap it a ((items.size:Int) - 1)) (ht:IsTup s.heap a items) (hz:items.size≤sizeLine)
  (hQ:∀ t tk,s.toks≤tk→Q (.int (items.size:Int) t) { s with toks:=tk }):wpAny (model prog w) A (call (.builtin "reversed.__length_hint__") [.ref it]) Q E s:=by
 obtain⟨o,ho,hc,hd⟩:=id hit
 have hl:sizeLine=16777216:=sizeLine_eq
 refine wpAny_call_entry QK hit.typeIs ag2 ?_ (ahg _)
 unfold Builtin.«reversed.__length_hint__»
 refine wpAny_bind (wpAny_of_eq (a:=Value.ref it) rfl ?_)
 refine wpAny_bind (wpAny_field ho hd (x:=.ref a) rfl ?_)
 rw [if_neg (show ¬ ((Value.ref a == Value.none)=true) from Bool.false_ne_true)]
 refine wpAny_bind (len_tuple ht (by lia) ?_)
 refine wpAny_bind (m:=asInt? (.int (items.size:Int) (s.toks+1))) (wpAny_pure ?_)
 dsimp only
 refine wpAny_bind (wpAny_field ho hd (x:=rawInt ((items.size:Int) - 1)) rfl ?_)
 show wpAny _ _ (if (items.size:Int)<((items.size:Int) - 1)+1 then _ else retInt (((items.size:Int) - 1)+1)) _ _ _
 rw [if_neg (by lia),show ((items.size:Int) - 1)+1=(items.size:Int) by lia]
 unfold retInt
 refine wpAny_bind (wpAny_mkInt (wpAny_pure ⟨_,rfl,hQ _ _ ?_⟩))
 show s.toks≤s.toks+1+1+1
 lia
theorem aaW {it a S:Addr}{items:Array Value}{c₀:Nat}{R:Result→Shared→Prop} (hh:A.handled=none) (hit:RvO s.heap it a ((items.size:Int) - 1)) (ht:IsTup s.heap a items) (hz:items.size≤sizeLine)
  (hai:a≠it) (hSi:S≠it) (hSa:S≠a) (hS:s.heap.get? S=some { cls:=.type "list",data:=.seq #[] c₀ })
  (hR:∀ h' tk acc' c',(∀ b o,b≠S→b≠it→s.heap.get? b=some o→h'.get? b=some o)→h'.get? S=some { cls:=.type "list",dict:=none,data:=.seq acc' c',slots:=#[] } →
   ItemsOf (fun i v=>items[items.size - 1 - i]?=some v) acc' items.size→R (.ok (.ret .none)) { s with heap:=h',toks:=tk }) :
  wpAny (model prog w) A.in1 (Builtin.List.listExtendWith (.ref S) (.ref it) .none)
   (fun fin s'=>match fin with | .done f=>R (.ok f) s' | .again c'=>c'.quiet=true∧codeAny (model prog w) A c' R s') (fun e s'=>R (.error e) s') s:=by
 have hl:sizeLine=16777216:=sizeLine_eq
 have h1:Builtin.List.listSameRef (.ref S) (.ref it)=false:=by simp [Builtin.List.listSameRef,hSi]
 unfold Builtin.List.listExtendWith
 refine wpAny_bind (wpAny_typeOf hit.typeIs ?_)
 rw [if_neg (by rw [h1]; decide)]
 refine wpAny_bind (zN hit ?_)
 refine wpAny_bind (wpAny_holding ?_)
 unfold Builtin.List.listLengthHint
 refine wpAny_bind (wpAny_specialOf hit.typeIs ait ?_)
 show wpAny _ A.in1 (specialOf (Value.ref it) (Str.ofString "__length_hint__") >>= _) _ _ _
 refine wpAny_bind (wpAny_specialOf hit.typeIs QK.lookup ?_)
 (generalize hid:("reversed.__length_hint__":String)=id0; (fail_if_success (clear hid id0)); wp_delta; rw [show splitId id0=some ("reversed","__length_hint__") from by subst hid; decide +kernel]; subst hid)
 refine wpAny_bind (wpAny_isInstance (b:=true) hit.typeIs (by rw [isSubtype_type]; kernel_rfl) ?_)
 rw [if_neg (by decide)]
 dsimp only
 rw [if_neg (by decide)]
 refine wpAny_bind (wpAny_rule ?_)
 refine wpAny_bind (wpAny_of_eq (QK.bind _) ?_)
 dsimp only
 refine wpAny_bind (wpAny_attempt (adN hit ht hz fun t tk htk=>?_))
 dsimp only
 rw [T_,pure_bind]
 dsimp only
 have hf:Builtin.List.listFitsIndex (items.size:Int)=true:=by
  unfold Builtin.List.listFitsIndex
  simp only [Bool.and_eq_true,decide_eq_true_eq]
  lia
 have htl:Builtin.List.listTooLong (Int.toNat (items.size:Int))=false:=by
  rw [Int.toNat_natCast]
  exact Mf hz
 rw [if_neg (by rw [hf]; decide),if_neg (by lia),if_neg (by rw [htl]; decide)]
 refine wpAny_pure ?_
 have hSf:S ∉ [it,a]:=by simp [hSi,hSa]
 have W:=acy (prog:=prog) (w:=w) (A:=A.in1) hh it a hai items hz
 have loop:∀ (s2:Shared) (c₂:Nat),(∀ b o,b≠S→s.heap.get? b=some o→s2.heap.get? b=some o)→s2.heap.get? S=some { cls:=.type "list",data:=.seq #[] c₂ }→s2.gens=s.gens→s2.drawn=s.drawn→s2.os=s.os →
   codeAny (model prog w) A (.builtin "list.extend.loop" ⟨[.ref S,.ref it,.none],[]⟩) R s2:=fun s2 c₂ hk hS2 g1 g2 g3=>by
  have st:0≤items.size∧RvO s2.heap it a ((items.size:Int) - 1 - ((0:Nat):Int))∧IsTup s2.heap a items:=by
   refine⟨Nat.zero_le _,?_,CZ ht fun o e=>hk a o (Ne.symm hSa) e⟩
   have:(items.size:Int) - 1 - ((0:Nat):Int)=(items.size:Int) - 1:=by lia
   rw [this]
   exact hit.keep fun o e=>hk it o (Ne.symm hSi) e
  refine codeAny_extend_loopS W.toS hz S hSf .none items.size 0 s2 #[] c₂ rfl (Nat.zero_le _) st hS2 (ItemsOf.nil _) fun s' acc' c' hm hS' hacc=>?_
  have hs':=Moved.eq_with hm
  rw [g1,g2,g3] at hs'
  rw [hs']
  exact hR s'.heap s'.toks acc' c' (fun b o hbS hbi e=>hm.heap b o (by simp [hbS,hbi]) (hk b o hbS e)) hS' hacc
 split
 ·refine wpAny_bind (wpAny_rule ?_)
  unfold Builtin.List.listTouch
  have e1:=Heap.get?_update_self (Obj.mapSeq (·.push Value.none)) hS rfl
  have e2:=Heap.get?_update_self (Obj.mapSeq (·.pop)) e1 rfl
  refine wpAny_bind (wpAny_bind (m:=Builtin.List.listUpdate (.ref S) (·.push Value.none)) (wpAny_updateSeq hS rfl ?_ (hz:=Nat.zero_le _) (_hz':=Nat.succ_le_succ (Nat.zero_le _))))
  refine wpAny_updateSeq e1 rfl ?_ (hz:=(by show 1≤sizeLine; decide)) (_hz':=Nat.zero_le _)
  refine wpAny_pure ⟨plainId_quiet F.plain_extend_loop _,loop _ _ (fun b o hb e=>?_) (by simpa [Obj.mapSeq] using e2) rfl rfl rfl⟩
  exact (Heap.get?_update_other _ _ (Ne.symm hb)).trans ((Heap.get?_update_other _ _ (Ne.symm hb)).trans e)
 ·exact wpAny_pure ⟨plainId_quiet F.plain_extend_loop _,loop _ c₀ (fun b o _ e=>e) hS rfl rfl rfl⟩
theorem Uw {it a:Addr}{items:Array Value}{Q:Value→Shared→Prop} (hh:A.handled=none) (hit:RvO s.heap it a ((items.size:Int) - 1)) (ht:IsTup s.heap a items) (hz:items.size≤sizeLine) (hai:a≠it)
  (hQ:∀ h' tk acc' c',(∀ b o,b≠it→s.heap.get? b=some o→h'.get? b=some o)→h'.get? s.heap.objs.size=some { cls:=.type "list",dict:=none,data:=.seq acc' c',slots:=#[] } →
   acc'.toList=items.toList.reverse→Q (.ref s.heap.objs.size) { s with heap:=h',toks:=tk }):wpAny (model prog w) A (call (.type "list") [.ref it]) Q E s:=by
 have lit:it<s.heap.objs.size:=let ⟨_,ho,_⟩:=hit; Heap.lt_size ho
 have la:a<s.heap.objs.size:=let ⟨_,ho,_⟩:=ht; Heap.lt_size ho
 refine callType_codes (Q₁:=fun obj s₁=>obj=.ref s.heap.objs.size∧s₁={ s with heap:=s.heap.push { cls:=.type "list",data:=.seq #[] } }) F.called_list (F.typeCall_list_1 _) F.entry_list_init (code_list_new _ ⟨rfl,rfl⟩) fun obj s1 h1=>?_
 obtain⟨e1,e2⟩:=h1
 subst e1 e2
 have hS:(s.heap.push { cls:=.type "list",data:=.seq #[] }).get? s.heap.objs.size=some { cls:=.type "list",data:=.seq #[] }:=Heap.get?_push_size _ rfl
 refine⟨⟨_,hS,rfl⟩,F.args_list_init_2 _ _,?_⟩
 show wpAny _ _ (Builtin.List.listItems (.ref s.heap.objs.size) >>= fun old=>Builtin.List.listUpdate (.ref s.heap.objs.size) (fun _=>#[]) >>= fun _=>letGo old.toList.reverse >>= fun _=>Builtin.List.listExtendWith (.ref s.heap.objs.size) (.ref it) .none) _ _ _
 refine wpAny_bind ?_
 unfold Builtin.List.listItems
 refine wpAny_bind (wpAny_seqItems hS rfl (wpAny_pure ?_))
 refine wpAny_bind (m:=Builtin.List.listUpdate (.ref s.heap.objs.size) (fun _=>#[])) (wpAny_updateSeq hS rfl ?_)
 have hS2:=Heap.get?_update_self (Obj.mapSeq (fun _=>(#[]:Array Value))) hS rfl
 have oth:∀ b o,b≠s.heap.objs.size→s.heap.get? b=some o→((s.heap.push { cls:=.type "list",data:=.seq #[] }).update s.heap.objs.size (Obj.mapSeq (fun _=>(#[]:Array Value)))).get? b=some o :=
  fun b o hb e=>(Heap.get?_update_other _ _ (Ne.symm hb)).trans (Heap.get?_push_of_some _ e)
 refine wpAny_bind (wpAny_letGo ?_)
 refine aaW (A:=A.in1) hh (hit.keep fun o e=>oth it o (Nat.ne_of_lt lit) e) (CZ ht fun o e=>oth a o (Nat.ne_of_lt la) e) hz hai (Nat.ne_of_gt lit) (Nat.ne_of_gt la) hS2 fun h' tk acc' c' hk hS' hacc=>?_
 refine⟨rfl,hQ h' tk acc' c' (fun b o hb e=>hk b o (Nat.ne_of_lt (Heap.lt_size e)) hb (oth b o (Nat.ne_of_lt (Heap.lt_size e)) e)) hS' ?_⟩
 obtain⟨hsz,hat⟩:=hacc
 refine List.ext_getElem? fun i=>?_
 by_cases hi:i<items.size
 ·have h1:=hat i (acc'[i]'(by lia)) (Array.getElem?_eq_getElem (by lia))
  rw [List.getElem?_reverse (by rw [Array.length_toList]; exact hi),Array.length_toList,Array.getElem?_toList,Array.getElem?_toList,h1,Array.getElem?_eq_getElem (by lia)]
 ·rw [List.getElem?_eq_none (by rw [Array.length_toList]; lia),List.getElem?_eq_none (by rw [List.length_reverse,Array.length_toList]; lia)]
end
section
variable {prog:Program}{w:World}{A:Around}{E:Value→Shared→Prop}{s:Shared}
theorem Ug (a:Addr) (items:Array Value) (n:Nat) (dd:Option Addr) (sl:Array (Option Value)) (hz:items.size≤sizeLine) :
  Meets (Builtin.«reversed.__new__» ⟨[.type "reversed",.ref a],[]⟩) (fun _ R s=>s.heap.get? a=some { cls:=.type "tuple",dict:=dd,data:=.seq items n,slots:=sl } ∧
   ∀ tk,R (.ok (.ret (.ref s.heap.objs.size))) { s with heap:=s.heap.push { cls:=.type "reversed",data:=.fields #[.ref a,rawInt ((items.size:Int) - 1)] },toks:=tk }) :=
 .of_wp fun prog w A R s h=>by
  obtain⟨ht,h⟩:=h
  have hl:sizeLine=16777216:=sizeLine_eq
  have hT:s.TypeIs (.ref a) "tuple":=⟨_,ht,rfl⟩
  have hI:IsTup s.heap a items:=⟨_,ht,rfl,n,rfl⟩
  unfold Builtin.«reversed.__new__»
  refine wpAny_bind (wpAny_of_eq (newClass_reversed _) ?_)
  dsimp only
  refine wpAny_bind (wpAny_of_eq (a:=()) (by first | rfl | kernel_rfl) ?_); refine wpAny_bind (wpAny_of_eq (a:=()) (by first | rfl | kernel_rfl) ?_)
  refine wpAny_bind (wpAny_specialOf hT acG ?_)
  dsimp only
  refine wpAny_bind ?_
  refine wpAny_bind (wpAny_isInstance (b:=false) hT (by rw [isSubtype_type]; kernel_rfl) ?_)
  rw [if_neg (by decide)]
  refine wpAny_bind (wpAny_specialOf hT PyProof.Rows.slot_tuple_getitem.lookup ?_)
  dsimp only
  rw [if_pos (by decide)]
  refine wpAny_pure ?_
  rw [if_neg (by decide)]
  refine wpAny_bind (len_tuple hI (by lia) ?_)
  rw [T_,pure_bind]
  dsimp only
  show wpAny _ _ (newObj (.type "reversed") (.fields #[.ref a,rawInt ((items.size:Int) - 1)]) >>= _) _ _ _
  refine wpAny_bind (wpAny_newObj_type ?_)
  exact wpAny_pure ⟨_,rfl,h _⟩
theorem XQ {a:Addr}{items:Array Value}{Q:Value→Shared→Prop} (ht:IsTup s.heap a items) (hz:items.size≤sizeLine)
  (h:∀ tk,Q (.ref s.heap.objs.size) { s with heap:=s.heap.push { cls:=.type "reversed",data:=.fields #[.ref a,rawInt ((items.size:Int) - 1)] },toks:=tk }):wpAny (model prog w) A (call (.type "reversed") [.ref a]) Q E s:=by
 obtain⟨⟨c,d,dt,sl⟩,ho,hc,n,hd⟩:=id ht
 simp only at hc hd
 subst hc hd
 refine callType_new abT (by decide) (F.typeCall_reversed_1 _) (F.newCall_reversed_1 _) (fun obj=>F.args_object_init_2 obj _) F.entry_reversed_new (Ug a items n d sl hz) ⟨ho,fun tk=>?_⟩
 exact⟨⟨_,Heap.get?_push_size _ rfl,rfl⟩,h tk⟩
end
theorem Ba:bootBuiltins "reversed"=some (.type "reversed"):=by decide +kernel
theorem afB:bootBuiltins "list"=some (.type "list"):=by decide +kernel
def tLR (K:PySem.W.Frag) (te:TE):TE:=fun σ H Q=>te σ H fun x H1=>∃ a ys,x=.ref a∧SqT K H1 a ys∧∀ l,H1 l=none→Q (.ref l) (upd H1 l (.lst ys.reverse))
theorem aa1 {X:Cx}{e:Expr}{te:TE}{p1 p2 pos pos2:Pos} (hgl:Gl X "list") (hgr:Gl X "reversed") (ml:X.mg "list"=none) (mr:X.mg "reversed"=none) (hc:X.calm=true) (he:PE X e te)
  (hs1:starEach [.Call (.Name "reversed" p2) [e] [] pos2] X.env=[(false,eval (.Call (.Name "reversed" p2) [e] [] pos2) X.env)]:=by rfl) (hs2:starEach [e] X.env=[(false,eval e X.env)]:=by rfl) :
  PE X (.Call (.Name "list" p1) [.Call (.Name "reversed" p2) [e] [] pos2] [] pos) (tLR X.K te):=by
 intro pins s σ H Q I h
 refine wpAny_Call_Name_kw (ld_blt I hgl ml afB ?_)
 refine PyProof.Rows.callWith_type1 ?_ (by rw [hs1]; rfl) (by rfl)
 rw [hs1]
 refine Calls.spliced_cons ?_
 refine wpAny_Call_Name_kw (ld_blt I hgr mr Ba ?_)
 refine PyProof.Rows.callWith_type1 ?_ (by rw [hs2]; rfl) (by rfl)
 rw [hs2]
 refine Calls.spliced_cons (thn (he pins s σ H _ I h) fun v s1 ⟨x,H1,I1,r1,q1⟩=>Calls.spliced_nil ?_)
 obtain⟨a,ys,e1,hq,q⟩:=q1
 subst e1
 cases r1
 obtain⟨its,rv,ht,hz⟩:=I1.tuple hq
 have hlen:=rv.length
 have hz':its.toArray.size≤sizeLine:=by rw [List.size_toArray]; lia
 refine XQ ht hz' fun tk=>Calls.spliced_nil ?_
 generalize MP:({ s1 with heap:=s1.heap.push { cls:=.type "reversed",data:=.fields #[.ref a,rawInt ((its.toArray.size:Int) - 1)] },toks:=tk }:Shared)=s2
 have I2:Inv X pins σ H1 s2:=by rw [← MP]; exact I1.kept fun b o e=>Heap.get?_push_of_some _ e
 have la:a<s1.heap.objs.size:=let ⟨_,ho,_⟩:=ht; Heap.lt_size ho
 have sz2:s2.heap.objs.size=s1.heap.objs.size+1:=by rw [← MP]; exact Heap.size_push ..
 have hit:RvO s2.heap s1.heap.objs.size a ((its.toArray.size:Int) - 1):=by rw [← MP]; exact⟨_,Heap.get?_push_size _ rfl,rfl,rfl⟩
 have ht2:IsTup s2.heap a its.toArray:=by rw [← MP]; exact ht.push _
 have fp:FpOk X pins H1 s1.heap.objs.size:=I1.fpOk (Nat.le_refl _) (I1.hok.fresh (Nat.le_refl _))
 refine Uw (I2.ok.hd hc) hit ht2 hz' (Nat.ne_of_lt la) fun h' tk' acc' c' hk hS' hacc=>?_
 have hfree:H1 s2.heap.objs.size=none:=I2.hok.fresh (Nat.le_refl _)
 have hp0:H1 s1.heap.objs.size=none:=fp.1
 have oks:ObjOk X.prog X.w (upd H1 s2.heap.objs.size (.lst ys.reverse)) h' s2.heap.objs.size (.lst ys.reverse):=by
  refine⟨by rw [List.length_reverse]; exact hz,its.reverse,c',rv.reverse,?_⟩
  rw [hS',show acc'=its.reverse.toArray from Array.toList_inj.mp (by simpa using hacc)]
 have nS:∀ b o,s2.heap.get? b=some o→b≠s2.heap.objs.size:=fun b o e=>Nat.ne_of_lt (Heap.lt_size e)
 have np:∀ b u,H1 b=some u→b≠s1.heap.objs.size:=fun b u e=>ne_of_none e hp0
 have nh:∀ b u,H1 b=some u→upd H1 s2.heap.objs.size (.lst ys.reverse) b=some u:=fun b u e=>by rw [upd_ne (ne_of_none e hfree)]; exact e
 have hok:HOk X.prog X.w (upd H1 s2.heap.objs.size (.lst ys.reverse)) h':=fun b u e=>by
  by_cases hb:b=s2.heap.objs.size
  ·subst hb
   rw [upd_same] at e
   cases e
   exact oks
  ·rw [upd_ne hb] at e
   refine (I2.hok b u e).stay (fun c v hc' q'=>hk c v ?_ q') (fun x q'=>nh _ _ q') fun c v q'=>nh _ _ q'
   rcases hc' with z | z
   ·rw [z]; exact np b u e
   ·exact np c _ z
 have I3:Inv X pins σ (upd H1 s2.heap.objs.size (.lst ys.reverse)) { s2 with heap:=h',toks:=tk' }:=by
  refine I2.step (g':=s2.gens) (d':=s2.drawn) (t':=tk') (ch:=[s1.heap.objs.size]) (fun b hb=>?_) (fun b o _ _ hb e _=>hk b o (fun z=>hb (by simp [z])) e) (fun b o _ _ hb e _=>⟨o.slots,hk b o (fun z=>hb (by simp [z])) e⟩)
   (fun b o _ e n=>by rw [upd_ne (nS b o e)]; exact n) (fun b o hb e=>⟨o,hk b o (fun z=>hb (by simp [z])) e⟩) (fun b xs e=>nh _ _ e) (fun b o u e=>nh _ _ e) (fun b ps e=>⟨#[],by rw [nh _ _ e]; simp⟩) (fun m hm=>?_) hok I2.bare
  ·have e:b=s1.heap.objs.size:=by simpa using hb
   subst e
   exact⟨fp.2.2.2.1,fp.2.1,fp.2.2.2.2.1,fp.2.2.2.2.2⟩
  ·obtain⟨o,es,ep,ho,r⟩:=hm
   exact⟨o,es,ep,hk _ o (Ne.symm fp.2.1) ho,r⟩
 exact⟨.ref s2.heap.objs.size,_,I3,rfl,q _ hfree⟩
end SwR
namespace Sw
open PySem PySem.Spec PyProof.Rows L2
section
variable {X:Cx}
theorem afv {pins:List (Addr×Obj)}{σ:Sg}{H:Hp}{s:Shared} (I:Inv X pins σ H s) {ts us:List T}{xs ys:List V}{its its2:List Value} (q2:TRs X.K H ts xs) (r2:TRs X.K H us ys) (rv:Vals xs its) (rv2:Vals ys its2) {n:Nat}{A:Around}
  (hd:T.bM ts≤n+1) (hu:A.units+n<cLine):∀ j (h1:j<its.toArray.size) (h2:j<its2.toArray.size),SeqAt.EqAt A s its.toArray[j] its2.toArray[j] (pD ts us j):=by
 intro j j1 j2
 have l1:=rv.length
 have l2:=rv2.length
 have j1':j<xs.length:=by rw [l1]; simpa using j1
 have j2':j<ys.length:=by rw [l2]; simpa using j2
 obtain⟨u1,hu1,ru1⟩:=rv.get (List.getElem?_eq_getElem j1')
 obtain⟨u2,hu2,ru2⟩:=rv2.get (List.getElem?_eq_getElem j2')
 obtain⟨t1,ht1,tr1⟩:=q2.get (List.getElem?_eq_getElem j1')
 obtain⟨t2,afi,tr2⟩:=r2.get (List.getElem?_eq_getElem j2')
 have ee:pD ts us j=T.beq t1 t2:=by unfold pD; rw [ht1,afi]
 have g1:its.toArray[j]=u1:=by
  have:its[j]?=some u1:=hu1
  rw [List.getElem?_eq_some_iff] at this
  obtain⟨_,e⟩:=this
  simpa using e
 have g2:its2.toArray[j]=u2:=by
  have:its2[j]?=some u2:=hu2
  rw [List.getElem?_eq_some_iff] at this
  obtain⟨_,e⟩:=this
  simpa using e
 rw [ee,g1,g2]
 obtain⟨a1,zs1,e1,_⟩:=Fb tr1
 obtain⟨a2,zs2,e2,_⟩:=Fb tr2
 rw [e1] at ru1 tr1
 rw [e2] at ru2 tr2
 obtain rfl:u1=Value.ref a1:=ru1
 obtain rfl:u2=Value.ref a2:=ru2
 by_cases hne:a1=a2
 ·subst hne
  have et:t1=t2:=(U7 I t1.parts).1 t1 t2 _ (Nat.le_refl _) tr1 tr2
  rw [et,T.uY]
  exact SeqAt.EqAt.same _
 ·have hd1:t1.deep≤n:=by
   have:=T.jM (List.mem_of_getElem? ht1)
   lia
  exact SeqAt.EqAt.of_refs hne (Z8 I n t1 t2 A a1 a2 hd1 tr1 tr2 hu)
def aj_ (K:PySem.W.Frag) (n:Nat):R2:=fun x y H Q=>∃ t u,TR K H t x∧TR K H u y∧t.deep≤n∧Q (.bl (!T.beq t u)) H
theorem agz {n:Nat} (hu:X.A.units+n+1<cLine):OpR X (compareOp .NotEq) (aj_ X.K n):=by
 intro pins s σ H x y v u Q I rx ry h
 obtain⟨t,t',h1,h2,hd,q⟩:=h
 cases t with
 | node ts =>
  cases t' with
  | node us =>
   obtain⟨a,xs,rfl,q1,q2⟩:=cN.mp h1
   obtain⟨b,ys,rfl,r1,r2⟩:=cN.mp h2
   cases rx
   cases ry
   rw [T.aO] at hd
   obtain⟨its,rv,ht,_⟩:=I.tuple q1
   obtain⟨its2,rv2,ht2,_⟩:=I.tuple r1
   have key:=SeqAt.RcNeAt.tuples (A:=X.A) (e:=pD ts us) ht ht2 (by lia) (afv I q2 r2 rv rv2 (n:=n) (by lia) (by rw [Around.in1_units]; lia))
   have ev:((List.range (min its.toArray.size its2.toArray.size)).all (pD ts us) && its.toArray.size == its2.toArray.size)=T.beq (.node ts) (.node us):=by
    rw [List.size_toArray,List.size_toArray,← rv.length,← rv2.length,q2.length,r2.length,T.beq,← xr]
   rw [ev] at key
   exact key _ _ _ _ ⟨.bl _,H,I,rfl,q⟩
end
end Sw
namespace Sw
namespace T
end T
end Sw
namespace Sw
namespace T
end T
end Sw
namespace Sw
open PySem PySem.Spec PyProof.Rows L2
end Sw
namespace Sw
open PySem PySem.Spec PyProof.Rows L2
section
variable {P:Program}{w:World}{K:PySem.W.Frag}{mg:Str→Option Value}{base:Heap}{N:List Str}{qual:Str}{scope:Scope}{f:Addr}{cd:Value}{A:Around}{outer:List Env}{s₀:Shared}{H₀:Hp}{E:XK}
end
section
variable {X:Cx}{pins:List (Addr×Obj)}{σ:Sg}{H:Hp}{s:Shared}
end
end Sw
namespace Sw
open PySem PySem.Spec PyProof.Rows L2
end Sw
namespace Sw
open PySem PySem.Spec PyProof.Rows L2
section
variable {K:PySem.W.Frag}{C a:Addr}{prog:Program}{w:World}{A:Around}
end
end Sw
namespace Sw
open PySem PySem.Spec PyProof.Rows L2
structure QE (X:Cx) (e:Expr) (t:TE):Prop where
 run:PE X e t
structure QT (X:Cx) (e:Expr) (t:TT):Prop where
 run:PT X e t
structure QW (X:Cx) (e:Expr) (t:TT):Prop where
 run:PW X e t
structure QA (X:Cx) (es:List Expr) (t:TA):Prop where
 run:PA X es t
structure QS (X:Cx) (st:Stmt) (t:TS):Prop where
 run:PS X st t
structure QSs (X:Cx) (st:List Stmt) (t:TS):Prop where
 run:PSs X st t
structure QI (X:Cx) (tg iter:Expr) (wi:TI):Prop where
 run:PI X tg iter wi
structure QG (X:Cx) (tg:Expr) (t:TG):Prop where
 run:PG X tg t
structure QGs (X:Cx) (ts:List Expr) (t:TGs):Prop where
 run:PGs X ts t
structure QO (X:Cx) (o:Option Expr) (t:TO):Prop where
 run:PO X o t
theorem QW.pt {X:Cx}{e:Expr}{t:TT} (h:QW X e t):QT X e t:=⟨h.run.pt⟩
theorem qv {X:Cx} (i:Nat) {x:Str}{pos:Pos} (hN:X.N[i]?=some x:=by rfl) (hv:Vis X.env.scope x:=by first | exact Or.inl rfl | exact Or.inr (Or.inl rfl) | exact Or.inr (Or.inr rfl)) (hd:(x == ("__debug__":Str))=false:=by decide) (hcd:(x == ("__classdict__":Str))=false:=by decide):QE X (.Name x pos) (tVar i):=⟨L2.pv (i:=i) (hN:=hN) (hv:=hv) (hd:=hd) (hcd:=hcd)⟩
theorem aH {X:Cx}{i j pos}:QE X (.Constant (.int i) j pos) (tC (.int i)):=⟨L2.pe_int⟩
theorem JF {X:Cx}{b j pos}:QE X (.Constant (.bool b) j pos) (tC (.bl b)):=⟨L2.pe_bl⟩
theorem yD {X:Cx}{j pos}:QE X (.Constant .none j pos) (tC .non):=⟨L2.ah5⟩
theorem eO {X:Cx}{x j pos}:QE X (.Constant (.str x) j pos) (tC (.str x)):=⟨L2.ah3⟩
theorem bC {X:Cx}{x:Str}{v:V}{u:Value}{pos:Pos} (hg:Gl X x) (hm:X.mg x=some u) (r:RelV v u) (hd:(x == ("__debug__":Str))=false:=by decide):QE X (.Name x pos) (tC v):=⟨L2.agx (hg:=hg) (hm:=hm) (r:=r) (hd:=hd)⟩
theorem aW {X:Cx}{a b:Expr}{ta tb:TE}{pos:Pos}{op:Operator}{r:R2} (ho:OpR X (binaryOp op) r) (ha:QE X a ta) (hb:QE X b tb):QE X (.BinOp a op b pos) (tOp r ta tb):=⟨L2.pe_op (ho:=ho) (ha:=ha.run) (hb:=hb.run)⟩
theorem zL {X:Cx}{a:Expr}{ta:TE}{pos:Pos}{op:UnaryOp}{r:V→Hp→VK→Prop} (ho:UnR X (unaryOp op) r) (ha:QE X a ta):QE X (.UnaryOp op a pos) (tUn r ta):=⟨L2.akg (ho:=ho) (ha:=ha.run)⟩
theorem JD {X:Cx}{a b:Expr}{ta tb:TE}{pos:Pos}{op:CmpOp}{r:R2} (ho:OpR X (compareOp op) r) (ha:QE X a ta) (hb:QE X b tb) (hm:behindInMarks op b=false):QE X (.Compare a [op] [b] pos) (tOp r ta tb):=⟨L2.pe_cmpR (ho:=ho) (ha:=ha.run) (hb:=hb.run) (hm:=hm)⟩
theorem ake {X:Cx}{a b:Expr}{ta tb:TE}{pos:Pos}{rest:List Expr} (ha:QE X a ta) (hb:QE X (.BoolOp .Or (b::rest) pos) tb):QE X (.BoolOp .Or (a::b::rest) pos) (ahw ta tb):=⟨L2.akh (ha:=ha.run) (hb:=hb.run)⟩
theorem ahP {X:Cx}{a:Expr}{pos:Pos}{op}{t:TE} (h:QE X a t):QE X (.BoolOp op [a] pos) t:=⟨L2.ah4 (h:=h.run)⟩
theorem oH {X:Cx}{es:List Expr}{t:TA}{pos:Pos} (h:QA X es t):QE X (.List es pos) (tLst t):=⟨L2.pe_lst (h:=h.run)⟩
theorem bA {X:Cx}{es:List Expr}{t:TA}{pos:Pos}{x1} (h:QA X es t):QE X (.Tuple es x1 pos) (ahv t):=⟨L2.ah2 (h:=h.run)⟩
theorem rN {X:Cx}{a b:Expr}{ta tb:TE}{pos:Pos}{tA:TT}{c:Expr} (hc:QT X c tA) (ha:QE X a ta) (hb:QE X b tb):QE X (.IfExp c a b pos) (tIf tA ta tb):=⟨L2.aeS (hc:=hc.run) (ha:=ha.run) (hb:=hb.run)⟩
theorem nD {X:Cx}{e:Expr}{te:TE}{lo hi:Option Expr}{tl th:TO}{pos p2:Pos}{r:V→Option Int→Option Int→Hp→VK→Prop} (hr:SlR X r) (he:QE X e te) (hl:QO X lo tl) (hu:QO X hi th):QE X (.Subscript e (.Slice lo hi none p2) pos) (tSl r te tl th):=⟨L2.aeQ (hr:=hr) (he:=he.run) (hl:=hl.run) (hu:=hu.run)⟩
theorem gB {X:Cx}{a b:Expr}{ta tb:TE}{pos:Pos}{r:R2} (hr:IxR X r) (ha:QE X a ta) (hb:QE X b tb) (hs:PlainIx b):QE X (.Subscript a b pos) (tOp r ta tb):=⟨L2.pe_ix (hr:=hr) (ha:=ha.run) (hb:=hb.run) (hs:=hs)⟩
theorem JC {X:Cx}{scope:Scope}{cl:List (Str×Addr)}{x:Str}{fr:List Str}{js:List Nat}{elt iter:Expr}{px pos:Pos}{wi:TI}{te:TE} (hc:X.calm=true) (L:Jj X scope x fr js cl) (hi:QI X (.Name x px) iter wi) (he:∀ C s H fp pins,QE (blk X scope cl C (x::fr) s H fp pins) elt te) (hs:∀ v,foldedSetIterable iter X.env v=pure v:=by intro _; rfl):QE X (.ListComp elt [⟨.Name x px,iter,[],0⟩] scope pos) (tLC wi js te):=⟨Sw.aki (hc:=hc) (L:=L) (hi:=hi.run) (he:=fun C s H fp pins=>(he C s H fp pins).run) (hs:=hs)⟩
theorem aF {X:Cx}{CX:CXT}{k:Nat}{f:Addr}{fd:FuncData}{ps:List Str}{sp:Sp}{dvs:List V}{ds:List Value}{E:XK}{x:Str}{p pos:Pos}{e:Expr}{es:List Expr}{t:TA} (F:FnOk X.prog X.w X.K X.mg X.base CX k f fd ps sp) (hr:Room k X.A) (hg:Gl X x) (hm:X.mg x=some (.ref f)) (hk:PySem.W.keepIn X.K (.ref f)=true) (hb:Binds X.K fd ps ds) (hd:Vals dvs ds) (hx:Passes CX X E) (ha:QA X (e::es) t) (hdb:(x == ("__debug__":Str))=false:=by decide) (he:starEach (e::es) X.env=(false,eval e X.env)::starEach es X.env:=by rfl) (hpl:(backTo pos (starEach es X.env)).any (·.1)=false:=by rfl):QE X (.Call (.Name x p) (e::es) [] pos) (tCall sp dvs E t):=⟨L2.pe_call (F:=F) (hr:=hr) (hg:=hg) (hm:=hm) (hk:=hk) (hb:=hb) (hd:=hd) (hx:=hx) (ha:=ha.run) (hdb:=hdb) (he:=he) (hpl:=hpl)⟩
theorem lN {X:Cx}{CX:CXT}{k:Nat}{f:Addr}{fd:FuncData}{ps:List Str}{sp:Sp}{dvs:List V}{ds:List Value}{E:XK}{x:Str}{p pos:Pos} (F:FnOk X.prog X.w X.K X.mg X.base CX k f fd ps sp) (hr:Room k X.A) (hg:Gl X x) (hm:X.mg x=some (.ref f)) (hk:PySem.W.keepIn X.K (.ref f)=true) (hb:Binds X.K fd ps ds) (hd:Vals dvs ds) (hx:Passes CX X E) (hdb:(x == ("__debug__":Str))=false:=by decide):QE X (.Call (.Name x p) [] [] pos) (tCall sp dvs E tNil):=⟨L2.aeT (F:=F) (hr:=hr) (hg:=hg) (hm:=hm) (hk:=hk) (hb:=hb) (hd:=hd) (hx:=hx) (hdb:=hdb)⟩
theorem jw {X:Cx}{x:Str}{p pos:Pos}{e:Expr}{es:List Expr}{t:TA}{T:String}{r:List V→Hp→VK→Prop} (hc:CallR X (.type T) r) (hg:Gl X x) (hm:X.mg x=none) (hv:bootBuiltins x=some (.type T)) (ha:QA X (e::es) t) (hn:x≠"__name__":=by decide) (hdb:(x == ("__debug__":Str))=false:=by decide) (he:starEach (e::es) X.env=(false,eval e X.env)::starEach es X.env:=by rfl) (hpl:(backTo pos (starEach es X.env)).any (·.1)=false:=by rfl):QE X (.Call (.Name x p) (e::es) [] pos) (tCB r t):=⟨L2.ac6 (hc:=hc) (hg:=hg) (hm:=hm) (hv:=hv) (ha:=ha.run) (hn:=hn) (hdb:=hdb) (he:=he) (hpl:=hpl)⟩
theorem cO {X:Cx}{x:Str}{p pos:Pos}{e:Expr}{es:List Expr}{t:TA}{id:String}{r:List V→Hp→VK→Prop} (hc:CallR X (.builtin id) r) (hg:Gl X x) (hm:X.mg x=none) (hv:bootBuiltins x=some (.builtin id)) (ha:QA X (e::es) t) (hn:x≠"__name__":=by decide) (hdb:(x == ("__debug__":Str))=false:=by decide) (he:starEach (e::es) X.env=(false,eval e X.env)::starEach es X.env:=by rfl) (hpl:(backTo pos (starEach es X.env)).any (·.1)=false:=by rfl):QE X (.Call (.Name x p) (e::es) [] pos) (tCB r t):=⟨L2.pe_callB (hc:=hc) (hg:=hg) (hm:=hm) (hv:=hv) (ha:=ha.run) (hn:=hn) (hdb:=hdb) (he:=he) (hpl:=hpl)⟩
theorem gC {X:Cx}{o e:Expr}{es:List Expr}{to:TE}{t:TA}{name:Str}{apos cpos:Pos}{T id:String}{r:V→List V→Hp→VK→Prop} (pa:PlainAttrs T) (slot:Slot T name id) (hty:typeOf (.builtin id)=pure (.type "method_descriptor")) (hm:MtR X id r) (ho:QE X o to) (ha:QA X (e::es) t) (hbase:attributeBase o name X.env (eval o X.env)=eval o X.env:=by rfl) (hfew:((backTo cpos (starEach (e::es) X.env)).all (fun x=>!x.1) && (backToKw cpos (keywordEach [] X.env)).all (fun x=>x.1.isSome)
   && decide ((e::es).length+([]:List Keyword).length+(if ([]:List Keyword).isEmpty then 0 else 1)<30))=true:=by rfl) (hline:(apos.endLine == cpos.line)=true:=by rfl) (hs:starEach (e::es) X.env=(false,eval e X.env)::starEach es X.env:=by rfl) (hplain:(backTo cpos (starEach es X.env)).any (·.1)=false:=by rfl):QE X (.Call (.Attribute o name apos) (e::es) [] cpos) (tBM X.K T r to t):=⟨L2.akj (pa:=pa) (slot:=slot) (hty:=hty) (hm:=hm) (ho:=ho.run) (ha:=ha.run) (hbase:=hbase) (hfew:=hfew) (hline:=hline) (hs:=hs) (hplain:=hplain)⟩
theorem rA {X:Cx}{o:Expr}{to:TE}{name:Str}{apos cpos:Pos}{T id:String}{r:V→List V→Hp→VK→Prop} (pa:PlainAttrs T) (slot:Slot T name id) (hty:typeOf (.builtin id)=pure (.type "method_descriptor")) (hm:MtR X id r) (ho:QE X o to) (hbase:attributeBase o name X.env (eval o X.env)=eval o X.env:=by rfl) (hline:(apos.endLine == cpos.line)=true:=by rfl):QE X (.Call (.Attribute o name apos) [] [] cpos) (ahz X.K T r to):=⟨L2.ah7 (pa:=pa) (slot:=slot) (hty:=hty) (hm:=hm) (ho:=ho.run) (hbase:=hbase) (hline:=hline)⟩
theorem aaZ {X:Cx}{e:Expr}{te:TE}{p1 p2 pos pos2:Pos} (hgl:Gl X "list") (hgr:Gl X "reversed") (ml:X.mg "list"=none) (mr:X.mg "reversed"=none) (hc:X.calm=true) (he:QE X e te) (hs1:starEach [.Call (.Name "reversed" p2) [e] [] pos2] X.env=[(false,eval (.Call (.Name "reversed" p2) [e] [] pos2) X.env)]:=by rfl) (hs2:starEach [e] X.env=[(false,eval e X.env)]:=by rfl):QE X (.Call (.Name "list" p1) [.Call (.Name "reversed" p2) [e] [] pos2] [] pos) (SwR.tLR X.K te):=⟨SwR.aa1 (hgl:=hgl) (hgr:=hgr) (ml:=ml) (mr:=mr) (hc:=hc) (he:=he.run) (hs1:=hs1) (hs2:=hs2)⟩
theorem oG {X:Cx}{e:Expr}{t:TE} (h:QE X e t) (he:∀ whole,isTrue e X.env whole=(do let v ← whole; standAt e.pos; holding [v] (truthy v)):=by intro _; rfl):QT X e (tB t):=⟨L2.ahU (h:=h.run) (he:=he)⟩
theorem Dj {X:Cx}{a:Expr}{ta:TE} (ha:QE X a ta) (he:∀ whole,isTrue a X.env whole=(do let v ← whole; standAt a.pos; holding [v] (truthy v))):QT X a (fun σ H Q=>ta σ H fun x H'=>∃ k,Yd X.K x H' k∧Q k H'):=⟨L2.aeM (ha:=ha.run) (he:=he)⟩
theorem aZ {X:Cx}{a b:Expr}{ta tb:TE}{pos:Pos}{op:CmpOp}{r:R2} (ho:OpR X (compareOp op) r) (ha:QE X a ta) (hb:QE X b tb) (hm:behindInMarks op b=false):QT X (.Compare a [op] [b] pos) (tTest (tOp r ta tb)):=⟨L2.pt_cmpR (ho:=ho) (ha:=ha.run) (hb:=hb.run) (hm:=hm)⟩
theorem V0 {X:Cx}{a:Expr}{pos:Pos}{tA:TT} (ha:QT X a tA):QT X (.UnaryOp .Not a pos) (ahx tA):=⟨L2.ahV (ha:=ha.run)⟩
theorem BP {X:Cx}{a b:Expr}{pos:Pos}{tA tB':TT}{rest:List Expr} (ha:QT X a tA) (hb:QW X (.BoolOp .And (b::rest) pos) tB'):QW X (.BoolOp .And (a::b::rest) pos) (U9 tA tB'):=⟨L2.ahT (ha:=ha.run) (hb:=hb.run)⟩
theorem xM {X:Cx}{a:Expr}{pos:Pos}{tA:TT} (ha:QT X a tA):QW X (.BoolOp .And [a] pos) tA:=⟨L2.agn (ha:=ha.run)⟩
theorem aaY {X:Cx}{a b:Expr}{pos:Pos}{tA tB':TT}{rest:List Expr} (ha:QT X a tA) (hb:QW X (.BoolOp .Or (b::rest) pos) tB'):QW X (.BoolOp .Or (a::b::rest) pos) (tOr tA tB'):=⟨L2.akf (ha:=ha.run) (hb:=hb.run)⟩
theorem VR {X:Cx}{a:Expr}{pos:Pos}{tA:TT} (ha:QT X a tA):QW X (.BoolOp .Or [a] pos) tA:=⟨L2.ahS (ha:=ha.run)⟩
theorem ak {X:Cx}:QA X [] tNil:=⟨L2.pa_nil⟩
theorem aj {X:Cx}{e:Expr}{es:List Expr}{te:TE}{t:TA} (ha:QE X e te) (hr:QA X es t) (hs:starEach (e::es) X.env=(false,eval e X.env)::starEach es X.env:=by rfl):QA X (e::es) (tCons te t):=⟨L2.pa_cons (ha:=ha.run) (hr:=hr.run) (hs:=hs)⟩
theorem aV {X:Cx}{e:Expr}{te:TE}{pos:Pos} (he:QE X e te):QS X (.Return (some e) pos) (tRet te):=⟨L2.ps_ret (he:=he.run)⟩
theorem Z_ {X:Cx}{pos:Pos}:QS X (.Return none pos) afO:=⟨L2.ago⟩
theorem bN {X:Cx}{pos:Pos}{i:Nat}{x:Str}{e:Expr}{te:TE}{pos':Pos} (hN:X.N.Nodup) (hi:X.N[i]?=some x) (hx:Loc X.env.scope x) (he:QE X e te) (hs:swapsWith e (some (.Name x pos')) pos.line X.env=pure false:=by rfl) (hf:X.fn x=true∨X.env.scope.names.lookup x=some .local:=by first | exact .inl rfl | exact .inr rfl | assumption):QS X (.Assign [.Name x pos'] e pos) (tAsg te (gName i)):=⟨L2.ps_set (hN:=hN) (hi:=hi) (hx:=hx) (he:=he.run) (hs:=hs) (hf:=hf)⟩
theorem ac0 {X:Cx}{pos:Pos}{i:Nat}{x:Str}{e:Expr}{te:TE}{op:Operator}{ti:TIp}{pos':Pos} (hN:X.N.Nodup) (hi:X.N[i]?=some x) (hx:Loc X.env.scope x) (he:QE X e te) (ho:PIp X op ti) (hf:X.fn x=true∨X.env.scope.names.lookup x=some .local:=by first | exact .inl rfl | exact .inr rfl | assumption):QS X (.AugAssign (.Name x pos') op e pos) (ahA i te ti):=⟨L2.ahW (hN:=hN) (hi:=hi) (hx:=hx) (he:=he.run) (ho:=ho) (hf:=hf)⟩
theorem cg {X:Cx}{t u:TS}{pos:Pos}{c:Expr}{a b:List Stmt}{tc:TT} (hc:QT X c tc) (ha:QSs X a t) (hb:QSs X b u):QS X (.If c a b pos) (tIfS tc t u):=⟨L2.ps_if (hc:=hc.run) (ha:=ha.run) (hb:=hb.run)⟩
theorem yC {X:Cx}{pos:Pos}{c:Expr}{body:List Stmt}{tc:TT}{tb:TS} (hp:PassesOwn (model X.prog X.w) X.A X.env X.xe) (hc:QT X c tc) (hb:QSs X body tb):QS X (.While c body [] pos) (vM tc tb):=⟨L2.aeN (hp:=hp) (hc:=hc.run) (hb:=hb.run)⟩
theorem BR {X:Cx}{tg:Expr}{iter:Expr}{body:List Stmt}{wi:TI}{g:TG}{tb:TS}{pos:Pos} (hp:PassesOwn (model X.prog X.w) X.A X.env X.xe) (hc:X.calm=true) (hi:QI X tg iter wi) (hg:QG X tg g) (hb:QSs X body tb) (hs:∀ x,foldedSetIterable iter X.env x=pure x:=by intro _; rfl):QS X (.For tg iter body [] pos) (tFor wi g tb):=⟨L2.ps_for (hp:=hp) (hc:=hc) (hi:=hi.run) (hg:=hg.run) (hb:=hb.run) (hs:=hs)⟩
theorem cU {X:Cx}{e:Expr}{te:TE}{pos:Pos} (he:QE X e te) (hs:swapsWith e none pos.line X.env=pure false:=by rfl):QS X (.Expr e pos) (tDrop te):=⟨L2.ps_expr (he:=he.run) (hs:=hs)⟩
theorem YH {X:Cx}{pos:Pos}:QS X (.Continue pos) afR:=⟨L2.YJ⟩
theorem agi {X:Cx}{pos:Pos}:QS X (.Pass pos) tNext:=⟨L2.agp⟩
theorem aeL {X:Cx}{st:Stmt}:QS X st acM:=⟨L2.aeO⟩
theorem ahM {X:Cx}{pos:Pos}{tg e:Expr}{te:TE}{g:TG} (he:QE X e te) (hg:QG X tg g) (hs:swapsWithSole [tg] e pos.line X.env=pure false:=by rfl) (hw:swappedStores [tg] e X.env=pure none:=by rfl) (h1:(assignEach [tg] X.env).map (·.2)=[assign tg X.env]:=by rfl):QS X (.Assign [tg] e pos) (tAsg te g):=⟨L2.ahX (he:=he.run) (hg:=hg.run) (hs:=hs) (hw:=hw) (h1:=h1)⟩
theorem bL {X:Cx}:QSs X [] tNext:=⟨L2.pss_nil⟩
theorem aA {X:Cx}{st:Stmt}{rest:List Stmt}{t u:TS} (h1:QS X st t) (h2:QSs X rest u):QSs X (st::rest) (tSeq t u):=⟨L2.pss_cons (h1:=h1.run) (h2:=h2.run)⟩
theorem aD {X:Cx}{st:Stmt}{t:TS} (h1:QS X st t):QSs X [st] t:=⟨L2.pss_one (h1:=h1.run)⟩
theorem vW {X:Cx}{tg:Expr}{a:Expr}{ta:TA}{p pos:Pos} (hg:Gl X "range") (hm:X.mg "range"=none) (ha:QA X [a] ta) (hs:starEach [a] X.env=[(false,eval a X.env)]:=by rfl):QI X tg (.Call (.Name "range" p) [a] [] pos) (afW ta):=⟨L2.ac4 (hg:=hg) (hm:=hm) (ha:=ha.run) (hs:=hs)⟩
theorem aac {X:Cx}{tg:Expr}{l:Expr}{tl:TE} (hl:QE X l tl):QI X tg l (iList X.K tl):=⟨L2.pi_list (hl:=hl.run)⟩
theorem ac2 {X:Cx}{tg:Expr}{l:Expr}{tl:TE} (hl:QE X l tl):QI X tg l (aiI X.K tl):=⟨L2.ah0 (hl:=hl.run)⟩
theorem uI {X:Cx}{pos:Pos}{i:Nat}{x:Str} (hN:X.N.Nodup) (hi:X.N[i]?=some x) (hx:Loc X.env.scope x) (hf:X.fn x=true∨X.env.scope.names.lookup x=some .local:=by first | exact .inl rfl | exact .inr rfl | assumption):QG X (.Name x pos) (gName i):=⟨L2.pg_name (hN:=hN) (hi:=hi) (hx:=hx) (hf:=hf)⟩
theorem ahN {X:Cx}{pos:Pos}{es:List Expr}{k:Nat}{t:TGs}{n:Nat} (hc:X.calm=true) (h:QGs X es t) (hn:(assignEach es X.env).length=n:=by rfl) (hst:(assignEach es X.env).findIdx? (·.1)=none:=by rfl):QG X (.Tuple es k pos) (afn X.K n t):=⟨L2.ac5 (hc:=hc) (h:=h.run) (hn:=hn) (hst:=hst)⟩
theorem agl {X:Cx}:QGs X [] afo:=⟨L2.aae⟩
theorem V1 {X:Cx}{e:Expr}{es:List Expr}{t:TG}{u:TGs} (h1:QG X e t) (h2:QGs X es u) (hs:(assignEach (e::es) X.env).map (·.2)=assign e X.env::(assignEach es X.env).map (·.2):=by rfl):QGs X (e::es) (UW t u):=⟨L2.Lj (h1:=h1.run) (h2:=h2.run) (hs:=hs)⟩
theorem sS {X:Cx}:QO X none QB:=⟨L2.ags⟩
theorem oY {X:Cx}{e:Expr}{te:TE} (h:QE X e te):QO X (some e) (afP te):=⟨L2.agr (h:=h.run)⟩
theorem okQ {P:Program}{w:World}{K:PySem.W.Frag}{mg:Str→Option Value}{base:Heap}{x qual:Str}{st:Stmt}{f:Addr}{fd:FuncData}{N ps:List Str}{k:Nat}{sp:Sp} (F:Fun K x qual st f fd) (S:FnScope N ps (defScope st)) (len:∀ vs H Q E,sp vs H Q E→vs.length=ps.length)
  (hb:∀ (cdv:Value) (A:Around) (outer:List Env) (s:Shared) (H:Hp) (vs:List V) (Q:VK) (E:XK),Room k (A.deeper (envOfC qual (defScope st) s.heap.objs.size f cdv))→sp vs H Q E →
   ∃ t,QSs (cxOf CX0 P w K mg base N qual (defScope st) f cdv A outer s H E).nox (defBody st) t∧t { nx:=fun _ H'=>Q .non H',rt:=Q } (start N vs) H):FnOk P w K mg base CX0 (k+1) f fd ps sp :=
 F.ok S len fun cdv A outer s H vs Q E hr h=>let ⟨t,q,r⟩:=hb cdv A outer s H vs Q E hr h; ⟨t,q.run,r⟩
end Sw
namespace Sw
open PySem PySem.Spec PyProof.Rows L2
theorem oN:bootBuiltins "len"=some (.builtin "len"):=by decide +kernel
theorem adO:bootBuiltins "sum"=some (.builtin "sum"):=by decide +kernel
theorem XR:bootBuiltins "min"=some (.builtin "min"):=by decide +kernel
theorem jj:bootBuiltins "isinstance"=some (.builtin "isinstance"):=by decide +kernel
theorem ajD:bootBuiltins "int"=some (.type "int"):=by decide +kernel
theorem nU:bootBuiltins "tuple"=some (.type "tuple"):=by decide +kernel
theorem small {n:Nat} (h:n≤1000000):n≤sizeLine:=Nat.le_trans h (by decide)
theorem acS {n:Nat} (h:n≤1000000):n<sizeLine:=Nat.lt_of_le_of_lt h (by decide)
theorem agR {α:Type}{ys:List α} (h:ys≠[]):∃ y,ys[ys.length - 1]?=some y:=by
 have:ys.length - 1<ys.length:=by
  have:=List.length_pos_iff.mpr h
  lia
 exact⟨ys[ys.length - 1],List.getElem?_eq_getElem this⟩
theorem Nq (xs:List V) (k:Nat):iK xs (some (k:Int)) none=xs.drop k:=by
 unfold iK
 rw [HT.JB,HT.VH]
 by_cases h:k≤xs.length
 ·rw [Nat.min_eq_left h,List.take_of_length_le (by rw [List.length_drop]; lia)]
 ·rw [Nat.min_eq_right (by lia),List.drop_eq_nil_of_le (by lia),List.drop_eq_nil_of_le (by lia),List.take_nil]
theorem XH (xs:List V) (k:Nat):iK xs none (some (k:Int))=xs.take k:=by
 unfold iK
 rw [HT.JB,HT.VH,List.drop_zero,Nat.sub_zero]
 by_cases h:k≤xs.length
 ·rw [Nat.min_eq_left h]
 ·rw [Nat.min_eq_right (by lia),List.take_of_length_le (Nat.le_refl _),List.take_of_length_le (by lia)]
section
variable {K:PySem.W.Frag}
theorem bh.rev {α β:Type}{R:α→β→Prop}{as:List α}{bs:List β} (h:bh R as bs):bh R as.reverse bs.reverse:=by
 induction h with
 | nil=>exact .nil
 | cons r _ ih=>rw [List.reverse_cons,List.reverse_cons]; exact ih.append (bh.one r)
def J0 (K:PySem.W.Frag) (H₀ H:Hp) (ts:List T) (x:V):Prop:=∃ a xs,x=.ref a∧H₀ a=none∧H a=some (.lst xs)∧TRs K H ts xs
structure Fd (K:PySem.W.Frag) (H₀ H:Hp) (p:Addr) (st:List (List T)) (ys:List V):Prop where
 new:H₀ p=none
 same:Same H₀ H
 at_:H p=some (.lst ys)
 rows:bh (J0 K H₀ H) st.reverse ys
 nd:((.ref p:V)::ys).Nodup
theorem J0.upd {H₀ H:Hp}{p:Addr}{o:HO}{ts:List T}{x:V} (h:J0 K H₀ H ts x) (hne:x≠.ref p) (k:Kt H (upd H p o)):J0 K H₀ (upd H p o) ts x:=by
 obtain⟨a,xs,rfl,h1,h2,h3⟩:=h
 exact⟨a,xs,rfl,h1,by rw [upd_ne (fun z=>hne (by rw [z]))]; exact h2,h3.mono k⟩
theorem yu {H₀ H:Hp}{p:Addr}{o:HO} (k:Kt H (upd H p o)):∀ {ss:List (List T)}{ys:List V},bh (J0 K H₀ H) ss ys→(.ref p:V) ∉ ys→bh (J0 K H₀ (upd H p o)) ss ys:=by
 intro ss ys h
 induction h with
 | nil=>intro _; exact .nil
 | cons r _ ih=>intro hn; exact .cons (r.upd (fun z=>hn (by rw [z]; exact List.mem_cons_self)) k) (ih fun z=>hn (List.mem_cons_of_mem _ z))
theorem acV {H₀ H:Hp}{p q:Addr}{st:List (List T)}{ys:List V} (R:Fd K H₀ H p st ys) (hq:H q=none):Fd K H₀ (upd (upd H q (.lst [])) p (.lst (ys++[.ref q]))) p ([]::st) (ys++[.ref q]):=by
 have npq:p≠q:=ne_of_none R.at_ hq
 have hq0:H₀ q=none:=R.same.free hq
 have nin:(.ref q:V) ∉ ys:=fun hm=>by
  obtain⟨i,hi⟩:=List.mem_iff_getElem?.mp hm
  obtain⟨ts,_,a,xs,e,_,h2,_⟩:=R.rows.get hi
  cases e
  rw [hq] at h2
  cases h2
 have nd:=List.nodup_cons.mp R.nd
 have k1:Kt H (upd H q (.lst [])):=Kt.new hq
 have h1:upd H q (.lst []) p=some (.lst ys):=by rw [upd_ne npq]; exact R.at_
 have k2:Kt (upd H q (.lst [])) (upd (upd H q (.lst [])) p (.lst (ys++[.ref q]))):=Kt.lst h1
 refine⟨R.new,eG (eG R.same hq0) R.new,upd_same,?_,?_⟩
 ·rw [List.reverse_cons]
  refine bh.append (yu k2 (yu k1 R.rows nin) nd.1) (bh.one ⟨q,[],rfl,hq0,?_,bJ.mpr rfl⟩)
  rw [upd_ne (Ne.symm npq)]
  exact upd_same
 ·rw [← List.cons_append]
  refine List.nodup_append.mpr ⟨R.nd,by simp,fun x hx y hy e=>?_⟩
  have ey:y=.ref q:=by simpa using hy
  rw [ey] at e
  subst e
  rcases List.mem_cons.mp hx with z | z
  ·exact npq (V.ref.inj z).symm
  ·exact nin z
theorem bh.snoc {α β:Type}{R:α→β→Prop}{as:List α}{a:α}{bs:List β} (h:bh R (as++[a]) bs):∃ bs' b,bs=bs'++[b]∧bh R as bs'∧R a b:=by
 induction as generalizing bs with
 | nil =>
  cases h with
  | cons r h=>cases h; exact⟨[],_,rfl,.nil,r⟩
 | cons c as ih =>
  cases h with
  | cons r h =>
   obtain⟨bs',b,rfl,h1,h2⟩:=ih h
   exact⟨_::bs',b,rfl,.cons r h1,h2⟩
theorem Cr {ys:List V}{v:V}:atI (ys++[v]) (-1)=some v:=by
 unfold atI ixN
 have hl:(ys++[v]).length=ys.length+1:=by simp
 rw [if_neg (by decide),if_pos (by rw [hl]; lia),hl,show ((-1:Int)+((ys.length+1:Nat):Int)).toNat=ys.length by lia,Option.bind_some]
 simp
theorem ajT {t u:TT}{σ:Sg}{H H1 H2:Hp}{Q:Bool→Hp→Prop}{b1 b2:Bool} (h1:∀ R:Bool→Hp→Prop,R b1 H1→t σ H R) (h2:∀ R:Bool→Hp→Prop,R b2 H2→u σ H1 R) (q1:b1=true→Q b2 H2) (q2:b1=false→Q false H1):U9 t u σ H Q:=by
 refine h1 _ ?_
 cases b1 with
 | true=>exact iteT (h2 _ (q1 rfl))
 | false=>exact iteF (q2 rfl)
theorem acL {t u:TT}{σ:Sg}{H:Hp}{Q:Bool→Hp→Prop}{b1 b2:Bool} (h1:∀ R:Bool→Hp→Prop,R b1 H→t σ H R) (h2:∀ R:Bool→Hp→Prop,R b2 H→u σ H R) (q:Q (b1 && b2) H):U9 t u σ H Q :=
 ajT h1 h2 (fun e=>by subst e; exact q) (fun e=>by subst e; exact q)
end
end Sw
namespace Sw
open PySem PySem.Spec PyProof.Rows L2
section
variable {X:Cx}
def acZ (K:PySem.W.Frag):R2:=fun x y H Q=>∃ a b xs ys,x=.ref a∧y=.ref b∧SqT K H a xs∧SqT K H b ys∧xs.length+ys.length≤sizeLine∧∀ p H',Same H H'→SqT K H' p (xs++ys)→Q (.ref p) H'
theorem bH:OpR X (binaryOp .Add) (acZ X.K):=by
 intro pins s σ H x y v u Q I rx ry h
 obtain⟨a,b,xs,ys,rfl,rfl,ha,hb,hz,q⟩:=h
 by_cases hx:xs=[]
 ·subst hx
  cases rx
  cases ry
  obtain⟨its,r1,p1,_⟩:=I.tuple ha
  obtain⟨its2,r2,p2,_⟩:=I.tuple hb
  have e1:its=[]:=r1.Ca.mpr rfl
  subst e1
  obtain⟨⟨cls,dd,data,sl⟩,ho,hc,n,hd⟩:=id p1
  obtain⟨⟨cls2,dd2,data2,sl2⟩,ho2,hc2,n2,hd2⟩:=id p2
  simp only at hc hd hc2 hd2
  subst hc hd hc2 hd2
  exact concat_meets ⟨_,ho,rfl⟩ ⟨_,ho2,rfl⟩ noFill_tuple_add seq_tuple_add PySem.F.slot_tuple_add PySem.F.entry_tuple_add (PySem.F.args_tuple_add_2 _ _)
   (tuple_addW0 a b ([]:List Value).toArray its2.toArray n n2 dd dd2 sl sl2 rfl) ⟨ho,ho2,⟨.ref b,H,I,rfl,q b H (Same.refl H) hb⟩⟩
 ·refine agA pins s σ H _ _ v u Q I rx ry ⟨a,b,xs,ys,rfl,rfl,ha,hb,hx,hz,fun e=>?_,fun _ p hp=>q p _ (same_new hp _) (SqT.of upd_same)⟩
  subst e
  exact q a H (Same.refl H) (by rw [List.append_nil]; exact ha)
theorem Mg:fillsNumberSlot (.type "tuple") "mul"=pure false:=by
 first | kernel_rfl | (unfold fillsNumberSlot; kernel_rfl)
theorem VP:seqRepeat? (.type "tuple")=pure (some (.builtin "tuple.__mul__")):=by
 unfold seqRepeat?
 first | kernel_rfl | (simp only [typeLookup_type,builtinLookup_eq_fast]; kernel_rfl) | rfl
theorem aaV (a:Int) (t:Tok) (l:Addr) (items:Array Value) (n:Nat) (dd:Option Addr) (sl:Array (Option Value)) :
  Meets (Builtin.«int.__rmul__» ⟨[.int a t,.ref l],[]⟩) (fun _ R s=>s.heap.get? l=some { cls:=.type "tuple",dict:=dd,data:=.seq items n,slots:=sl }∧R (.ok (.ret Value.notImplemented)) s) :=
 .of_wp fun prog w A R s h=>by
  obtain⟨hp,g,d,tk,os⟩:=s
  obtain⟨hl,h⟩:=h
  wp_walk
  exact⟨_,rfl,h⟩
theorem acJ (l:Addr) (items:Array Value) (n:Nat) (dd:Option Addr) (sl:Array (Option Value)) (k:Int) (t:Tok) (h0:(items.isEmpty || k == 1)=true) (h1:¬ (decide (k < -(2 ^ 63)) || decide (k ≥ 2 ^ 63))=true) :
  Meets (Builtin.«tuple.__mul__» ⟨[.ref l,.int k t],[]⟩) (fun _ R s=>s.heap.get? l=some { cls:=.type "tuple",dict:=dd,data:=.seq items n,slots:=sl }∧R (.ok (.ret (.ref l))) s) :=
 .of_wp fun prog w A R s h=>by
  obtain⟨hp,g,d,tk,os⟩:=s
  obtain⟨hl,h⟩:=h
  have f1:=AutoSeq1.idx_int
  have f2:=AutoSeq1.sub_tuple_tuple
  wp_walk using AutoSeq1.wpAny_loadPart' hl
  rw [if_neg h1]
  wp_walk using AutoSeq1.wpAny_loadPart' hl
  exact⟨_,rfl,h⟩
theorem acI (l:Addr) (items:Array Value) (n:Nat) (dd:Option Addr) (sl:Array (Option Value)) (k:Int) (t:Tok) (h0:¬ (items.isEmpty || k == 1)=true) (h1:¬ (decide (k < -(2 ^ 63)) || decide (k ≥ 2 ^ 63))=true) (h2:(decide (k≤0) || items.isEmpty)=true) :
  Meets (Builtin.«tuple.__mul__» ⟨[.ref l,.int k t],[]⟩) (fun _ R s=>s.heap.get? l=some { cls:=.type "tuple",dict:=dd,data:=.seq items n,slots:=sl }∧R (.ok (.ret (.ref s.heap.objs.size))) { s with heap:=s.heap.push { cls:=.type "tuple",data:=.seq #[] } }) :=
 .of_wp fun prog w A R s h=>by
  obtain⟨hp,g,d,tk,os⟩:=s
  obtain⟨hl,h⟩:=h
  have f1:=AutoSeq1.idx_int
  have f2:=AutoSeq1.sub_tuple_tuple
  wp_walk using AutoSeq1.wpAny_loadPart' hl
  rw [if_neg h1]
  wp_walk using AutoSeq1.wpAny_loadPart' hl
  exact⟨_,rfl,h⟩
theorem acK (l:Addr) (items:Array Value) (n:Nat) (dd:Option Addr) (sl:Array (Option Value)) (k:Int) (t:Tok) (h0:¬ (items.isEmpty || k == 1)=true) (h1:¬ (decide (k < -(2 ^ 63)) || decide (k ≥ 2 ^ 63))=true) (h2:¬ (decide (k≤0) || items.isEmpty)=true)
  (h3:¬ (items.size:Int) * k > (2 ^ 63 - 1) / 8) (h4:¬ Builtin.Tuple.tupleTooMany ((items.size:Int) * k)=true) (h5:((List.replicate k.toNat items).foldl (·++·) #[]).size≤sizeLine) :
  Meets (Builtin.«tuple.__mul__» ⟨[.ref l,.int k t],[]⟩) (fun _ R s=>s.heap.get? l=some { cls:=.type "tuple",dict:=dd,data:=.seq items n,slots:=sl }∧R (.ok (.ret (.ref s.heap.objs.size))) { s with heap:=s.heap.push { cls:=.type "tuple",data:=.seq ((List.replicate k.toNat items).foldl (·++·) #[]) } }) :=
 .of_wp fun prog w A R s h=>by
  obtain⟨hp,g,d,tk,os⟩:=s
  obtain⟨hl,h⟩:=h
  have f1:=AutoSeq1.idx_int
  have f2:=AutoSeq1.sub_tuple_tuple
  wp_walk using AutoSeq1.wpAny_loadPart' hl
  rw [if_neg h1]
  wp_walk using AutoSeq1.wpAny_loadPart' hl
  rw [if_neg h3]
  wp_walk using AutoSeq1.wpAny_loadPart' hl
  exact⟨_,rfl,h⟩
def tG (xs:List V) (k:Int):List V:=(List.replicate k.toNat xs).flatten
def G9 (K:PySem.W.Frag):R2:=fun x y H Q=>∃ a k xs,x=.ref a∧y=.int k∧SqT K H a xs∧-(2 ^ 62)≤k∧k<2 ^ 62∧xs.length * k.toNat≤sizeLine∧∀ p H',Same H H'→SqT K H' p (tG xs k)→Q (.ref p) H'
theorem qd:OpR X (binaryOp .Mult) (G9 X.K):=by
 intro pins s σ H x y v u Q I rx ry h
 obtain⟨a,k,xs,rfl,rfl,ha,h1,h2,hz,q⟩:=h
 cases rx
 obtain⟨t,rfl⟩:=ry
 obtain⟨its,r,p1,hzx⟩:=I.tuple ha
 have hlen:=r.length
 obtain⟨⟨cls,dd,data,sl⟩,ho,hc,n,hd⟩:=id p1
 simp only at hc hd
 subst hc hd
 have b1:¬ (decide (k < -(2 ^ 63)) || decide (k ≥ 2 ^ 63))=true:=by
  rw [decide_eq_false (by lia),decide_eq_false (by lia)]
  decide
 refine wpAny_binaryOp_repeat_ref (T:="tuple") (U:="int") (by decide) ⟨_,ho,rfl⟩ (fun s'=>typeIs_int s' k t) Mg F.fills_int_mul F.slot_int_rmul VP F.slot_int_index.lookup
  (call_meets F.slot_int_rmul (typeIs_int s k t) F.entry_int_rmul (F.args_int_rmul_2 _ _) (aaV k t a its.toArray n dd sl) ⟨ho,rfl,⟨_,ho,rfl⟩,?_⟩)
 by_cases c0:(its.toArray.isEmpty || k == 1)=true
 ·refine call_meets F.slot_tuple_mul ⟨_,ho,rfl⟩ F.entry_tuple_mul (F.args_tuple_mul_2 _ _) (acJ a its.toArray n dd sl k t c0 b1) ⟨ho,⟨.ref a,H,I,rfl,q a H (Same.refl H) ?_⟩⟩
  rcases Bool.or_eq_true_iff.mp c0 with z | z
  ·have:its=[]:=by simpa using z
   have hx:xs=[]:=r.Ca.mp this
   subst hx
   have:tG ([]:List V) k=[]:=by unfold tG; simp
   rw [this]
   exact ha
  ·have:k=1:=by simpa using z
   subst this
   have:tG xs 1=xs:=by unfold tG; simp
   rw [this]
   exact ha
 ·by_cases c2:(decide (k≤0) || its.toArray.isEmpty)=true
  ·refine call_meets F.slot_tuple_mul ⟨_,ho,rfl⟩ F.entry_tuple_mul (F.args_tuple_mul_2 _ _) (acI a its.toArray n dd sl k t c0 b1 c2) ⟨ho,?_⟩
   have hk:k≤0:=by
    rcases Bool.or_eq_true_iff.mp c2 with z | z
    ·exact of_decide_eq_true z
    ·rw [z] at c0
     exact absurd rfl c0
   have e0:tG xs k=[]:=by
    unfold tG
    rw [show k.toNat=0 by lia]
    rfl
   refine⟨.ref s.heap.objs.size,_,I.laid (t':=s.toks) (o:=.tup []) (fun b ob z=>Heap.get?_push_of_some _ z) (Nat.le_refl _) ?_,rfl,q _ _ (same_new (I.hok.fresh (Nat.le_refl _)) _) (by rw [e0]; exact SqT.of upd_same)⟩
   exact⟨Nat.zero_le _,[],.nil,IsTup.new _ _⟩
  ·have hk:0<k:=by
    by_cases hk:k≤0
    ·rw [decide_eq_true hk] at c2
     exact absurd rfl c2
    ·lia
   have hsz:its.toArray.size * k.toNat≤sizeLine:=by rw [List.size_toArray,← hlen]; exact hz
   have hsl:(sizeLine:Nat)=16777216:=sizeLine_eq
   have hpr:(its.toArray.size:Int) * k=((its.toArray.size * k.toNat:Nat):Int):=by
    rw [Int.natCast_mul,show ((k.toNat:Nat):Int)=k by lia]
   have hnew:(List.replicate k.toNat its.toArray).foldl (·++·) #[]=(List.replicate k.toNat its).flatten.toArray:=by
    have:=foldl_rep its k.toNat []
    rw [List.nil_append] at this
    exact this
   have hrl:(List.replicate k.toNat its).flatten.length≤sizeLine:=by
    rw [len_rep,Nat.mul_comm]
    simpa using hsz
   refine call_meets F.slot_tuple_mul ⟨_,ho,rfl⟩ F.entry_tuple_mul (F.args_tuple_mul_2 _ _) (acK a its.toArray n dd sl k t c0 b1 c2 ?_ ?_ ?_) ⟨ho,?_⟩
   ·rw [hpr]
    have:((2:Int) ^ 63 - 1) / 8=1152921504606846975:=by decide
    rw [this]
    lia
   ·unfold Builtin.Tuple.tupleTooMany
    rw [hpr,decide_eq_false (by lia)]
    decide
   ·rw [hnew,List.size_toArray]
    exact hrl
   ·rw [hnew]
    have rr:=r.rep k.toNat
    refine⟨.ref s.heap.objs.size,_,I.laid (t':=s.toks) (o:=.tup (tG xs k)) (fun b ob z=>Heap.get?_push_of_some _ z) (Nat.le_refl _) ?_,rfl,q _ _ (same_new (I.hok.fresh (Nat.le_refl _)) _) (SqT.of upd_same)⟩
    exact⟨by unfold tG; rw [rr.length]; exact hrl,_,rr,IsTup.new _ _⟩
end
theorem T3 {H:Hp}{lo:Int}{n:Nat}{σ:Sg}{js:List Nat}{te:TE}{Q:VK} (J:Addr→Nat→List V→Hp→Prop) (hz:n≤sizeLine) (h0:∀ D,H D=none→J D 0 [] (upd H D (.lst [])))
  (hD:∀ D i ys H',J D i ys H'→H' D=some (.lst ys)∧ys.length=i)
  (hte:∀ D i ys H' (R:VK),i<n→J D i ys H'→(∀ y H3,H3 D=some (.lst ys)→J D (i+1) (ys++[y]) (upd H3 D (.lst (ys++[y])))→R y H3)→te (some (.int (lo+i))::frv σ js) H' R)
  (q:∀ D ys H',J D n ys H'→Q (.ref D) H'):Fg (Itr lo n) js te σ Q H:=by
 intro D hDn
 refine⟨fun i m ys H'=>m=n - i∧i≤n∧J D i ys H',⟨n,by lia,Nat.zero_le _,h0 D hDn⟩,?_⟩
 rintro i m ys H' ⟨rfl,hi,hj⟩
 obtain⟨h1,h2⟩:=hD D i ys H' hj
 refine⟨h1,?_⟩
 by_cases hlt:i<n
 ·refine .inr ⟨hlt,fun x H2 y=>?_⟩
  obtain⟨e,y⟩:=y
  subst e
  subst y
  exact hte D i ys _ _ hlt hj fun y H3 g1 g2=>⟨g1,by lia,n - (i+1),by lia,rfl,hlt,g2⟩
 ·have e:i=n:=by lia
  subst e
  exact .inl ⟨Nat.le_refl _,q D ys H' hj⟩
theorem aan {K:PySem.W.Frag}{H:Hp}{a:Addr}{xs:List V}{σ:Sg}{js:List Nat}{te:TE}{Q:VK} (J:Addr→Nat→List V→Hp→Prop) (hz:xs.length≤sizeLine) (h0:∀ D,H D=none→J D 0 [] (upd H D (.lst [])))
  (hD:∀ D i ys H',J D i ys H'→H' D=some (.lst ys)∧ys.length=i∧SqT K H' a xs)
  (hte:∀ D i x ys H' (R:VK),xs[i]?=some x→J D i ys H'→(∀ y H3,H3 D=some (.lst ys)→J D (i+1) (ys++[y]) (upd H3 D (.lst (ys++[y])))→R y H3)→te (some x::frv σ js) H' R)
  (q:∀ D ys H',J D xs.length ys H'→Q (.ref D) H'):Fg (Itt K a) js te σ Q H:=by
 intro D hDn
 refine⟨fun i m ys H'=>m=xs.length - i∧i≤xs.length∧J D i ys H',⟨xs.length,by lia,Nat.zero_le _,h0 D hDn⟩,?_⟩
 rintro i m ys H' ⟨rfl,hi,hj⟩
 obtain⟨h1,h2,h3⟩:=hD D i ys H' hj
 refine⟨h1,?_⟩
 by_cases hlt:i<xs.length
 ·refine .inr ⟨⟨xs,xs[i],h3,List.getElem?_eq_getElem hlt⟩,fun x H2 y=>?_⟩
  obtain⟨e,y⟩:=y
  subst e
  exact hte D i x ys _ _ (y xs h3) hj fun y H3 g1 g2=>⟨g1,by lia,xs.length - (i+1),by lia,rfl,hlt,g2⟩
 ·have e:i=xs.length:=by lia
  subst e
  exact .inl ⟨⟨xs,h3,Nat.le_refl _⟩,q D ys H' hj⟩
theorem ae9 {K:PySem.W.Frag}{H:Hp}{a:Addr}{xs:List V}{σ:Sg}{js:List Nat}{te:TE}{Q:VK} (J:Addr→Nat→List V→Hp→Prop) (hz:xs.length≤sizeLine) (h0:∀ D,H D=none→J D 0 [] (upd H D (.lst [])))
  (hD:∀ D i ys H',J D i ys H'→H' D=some (.lst ys)∧ys.length=i∧SqL K H' a xs)
  (hte:∀ D i x ys H' (R:VK),xs[i]?=some x→J D i ys H'→(∀ y H3,H3 D=some (.lst ys)→J D (i+1) (ys++[y]) (upd H3 D (.lst (ys++[y])))→R y H3)→te (some x::frv σ js) H' R)
  (q:∀ D ys H',J D xs.length ys H'→Q (.ref D) H'):Fg (Itl K a) js te σ Q H:=by
 intro D hDn
 refine⟨fun i m ys H'=>m=xs.length - i∧i≤xs.length∧J D i ys H',⟨xs.length,by lia,Nat.zero_le _,h0 D hDn⟩,?_⟩
 rintro i m ys H' ⟨rfl,hi,hj⟩
 obtain⟨h1,h2,h3⟩:=hD D i ys H' hj
 refine⟨h1,?_⟩
 by_cases hlt:i<xs.length
 ·refine .inr ⟨⟨xs,xs[i],h3,List.getElem?_eq_getElem hlt⟩,fun x H2 y=>?_⟩
  obtain⟨e,y⟩:=y
  subst e
  exact hte D i x ys _ _ (y xs h3) hj fun y H3 g1 g2=>⟨g1,by lia,xs.length - (i+1),by lia,rfl,hlt,g2⟩
 ·have e:i=xs.length:=by lia
  subst e
  exact .inl ⟨⟨xs,h3,Nat.le_refl _⟩,q D ys H' hj⟩
def vp (H:Hp) (p:Addr):Prop:=∃ ns:List Int,H p=some (.lst (ns.map V.int))
structure Dr (p:Addr) (H H':Hp):Prop where
 keep:∀ b o,b≠p→H b=some o→H' b=some o
 dH:vp H' p
theorem Dr.refl {p:Addr}{H:Hp} (d:vp H p):Dr p H H:=⟨fun _ _ _ e=>e,d⟩
theorem Dr.trans {p:Addr}{H H1 H2:Hp} (a:Dr p H H1) (b:Dr p H1 H2):Dr p H H2:=⟨fun c o n e=>b.keep c o n (a.keep c o n e),b.dH⟩
theorem Dr.same {p:Addr}{H H1 H2:Hp} (a:Dr p H H1) (S:Same H1 H2):Dr p H H2:=⟨fun c o n e=>S c o (a.keep c o n e),let ⟨ns,e⟩:=a.dH; ⟨ns,S _ _ e⟩⟩
theorem Dr.kt {p:Addr}{H H':Hp} (d:vp H p) (a:Dr p H H'):Kt H H':=by
 obtain⟨ns,e⟩:=d
 exact⟨fun b xs q=>a.keep b _ (ne_of q e (fun z=>by cases z)) q,fun b o u q=>a.keep b _ (ne_of q e (fun z=>by cases z)) q⟩
theorem Dr.upd {p b:Addr}{H H':Hp}{o:HO} (a:Dr p H H') (h:H b=none) (hp:b≠p):Dr p H (upd H' b o) :=
 ⟨fun c u n e=>by rw [upd_ne (ne_of_none e h)]; exact a.keep c u n e,let ⟨ns,e⟩:=a.dH; ⟨ns,by rw [upd_ne (Ne.symm hp)]; exact e⟩⟩
end Sw
namespace Sw
open PySem PySem.Spec PyProof.Rows L2
section
variable {X:Cx}{scope:Scope}{cl:List (Str×Addr)}{x:Str}{fr:List Str}{js:List Nat}{elt iter:Expr}{px pos:Pos}{wi:TI}{te:TE}{pins:List (Addr×Obj)}{s:Shared}{σ:Sg}{H:Hp}
end
end Sw
namespace Sw
open PySem PySem.Spec PyProof.Rows L2
section
variable {K:PySem.W.Frag}{H:Hp}{Q:VK}
theorem cG {ts us:List T}{x y:V} (hx:TR K H (.node ts) x) (hy:TR K H (.node us) y) (hz:ts.length+us.length≤sizeLine) (q:∀ z H',Same H H'→TR K H' (.node (ts++us)) z→Q z H'):acZ K x y H Q:=by
 obtain⟨a,xs,rfl,ha,ra⟩:=cN.mp hx
 obtain⟨b,ys,rfl,hb,rb⟩:=cN.mp hy
 refine⟨a,b,xs,ys,rfl,rfl,ha,hb,by rw [ra.length,rb.length]; exact hz,fun p H' S h=>q _ _ S (vH h ((ra.append rb).mono (.of S)))⟩
theorem TRs.at {ts:List T}{xs:List V} (h:TRs K H ts xs) {i:Nat}{t:T} (e:ts[i]?=some t):∃ x,xs[i]?=some x∧TR K H t x:=by
 have hl:=h.length
 have hi:i<ts.length:=(List.getElem?_eq_some_iff.mp e).1
 have e2:xs[i]?=some (xs[i]'(by lia)):=List.getElem?_eq_getElem _
 obtain⟨t',e3,h3⟩:=h.get e2
 rw [e] at e3
 cases e3
 exact⟨_,e2,h3⟩
theorem nIx {ts:List T}{x y:V}{t:T} (hx:TR K H (.node ts) x) (i:Nat) (e:ts[i]?=some t) (q:∀ z,TR K H t z→Q z H) (hy:y=.int ((i:Nat):Int):=by rfl):aeJ K x y H Q:=by
 obtain⟨a,xs,rfl,ha,ra⟩:=cN.mp hx
 obtain⟨v,e2,h2⟩:=ra.at e
 exact⟨a,xs,_,v,rfl,hy,ha,atI_nat e2,q v h2⟩
theorem akn {ts:List T}{x:V} (hx:TR K H (.node ts) x) (k:Nat) {j:Option Int} (q:∀ z H',Same H H'→TR K H' (.node (ts.drop k)) z→Q z H') (hj:j=some ((k:Nat):Int):=by rfl):aaX K x j none H Q:=by
 obtain⟨a,xs,rfl,ha,ra⟩:=cN.mp hx
 subst hj
 refine⟨a,xs,rfl,ha,fun p H' S h=>q _ _ S (vH h ?_)⟩
 rw [Nq]
 exact (ra.drop k).mono (.of S)
theorem fj {t:T}{x:V} (h:TR K H t x):TRs K H [t] [x]:=cH.mpr ⟨x,[],rfl,h,bJ.mpr rfl⟩
theorem Gn {t u:T}{x y:V} (h:TR K H t x) (g:TR K H u y):TRs K H [t,u] [x,y]:=cH.mpr ⟨x,[y],rfl,h,fj g⟩
theorem aaJ {t u r:T}{x y z:V} (h:TR K H t x) (g:TR K H u y) (k:TR K H r z):TRs K H [t,u,r] [x,y,z]:=cH.mpr ⟨x,[y,z],rfl,h,Gn g k⟩
end
section
variable {X:Cx}{K:PySem.W.Frag}
end
theorem agQ {K:PySem.W.Frag}{p:Addr}{H1:Hp}{n:Nat}{lo:Int}{σ:Sg}{js:List Nat}{te:TE}{Q:VK} (Sh:T→Prop) (hk:vp H1 p) (hn:n≤sizeLine)
  (hte:∀ (i:Nat) H' (R:VK),i<n→Dr p H1 H'→(∀ y t H3,Dr p H' H3→TR K H3 t y→Sh t→R y H3)→te (some (.int (lo+i))::frv σ js) H' R)
  (q:∀ D ys ts H',Dr p H1 H'→H' D=some (.lst ys)→ts.length=n→TRs K H' ts ys→(∀ t∈ts,Sh t)→Q (.ref D) H'):Fg (Itr lo n) js te σ Q H1:=by
 refine T3 (fun D i ys H'=>D≠p∧H1 D=none∧Dr p H1 H'∧H' D=some (.lst ys)∧ys.length=i∧∃ ts,TRs K H' ts ys∧∀ t∈ts,Sh t) hn (fun D hD=>?_) (fun D i ys H' j=>⟨j.2.2.2.1,j.2.2.2.2.1⟩) (fun D i ys H' R hi j hR=>?_) (fun D ys H' j=>?_)
 ·have hne:D≠p:=fun z=>by
   obtain⟨ns,e1⟩:=hk
   rw [z,e1] at hD; cases hD
  exact⟨hne,hD,(Dr.refl hk).upd hD hne,upd_same,rfl,[],bJ.mpr rfl,fun _ h=>by simp at h⟩
 ·obtain⟨hne,hD,Dh,h1,hl,ts,htr,hsh⟩:=j
  refine hte i H' R hi Dh fun y t H3 D3 ht hs=>?_
  have h3:=D3.keep D _ hne h1
  refine hR y H3 h3 ⟨hne,hD,(Dh.trans D3).upd hD hne,upd_same,by rw [List.length_append,hl]; rfl,ts++[t],?_,fun u hu=>?_⟩
  ·exact TRs.append ((htr.mono (D3.kt Dh.dH)).mono (Kt.lst h3)) (cH.mpr ⟨y,[],rfl,ht.mono (Kt.lst h3),bJ.mpr rfl⟩)
  ·rcases List.mem_append.mp hu with z | z
   ·exact hsh u z
   ·rw [List.mem_singleton.mp z]; exact hs
 ·obtain⟨hne,hD,Dh,h1,hl,ts,htr,hsh⟩:=j
  exact q D ys ts H' Dh h1 (by rw [← htr.length]; exact hl) htr hsh
section
variable {X:Cx}
end
def B (a b:Nat) (t:T):Prop:=t.deep≤a∧t.parts≤b
theorem B.le {a b a' b':Nat}{t:T} (h:B a b t) (h1:a≤a') (h2:b≤b'):B a' b' t:=⟨Nat.le_trans h.1 h1,Nat.le_trans h.2 h2⟩
theorem zW:B 0 1 (.node []):=⟨by rw [T.aO,T.aY]; lia,by rw [T.aL,T.aR]; lia⟩
theorem cR {a b a' b':Nat}{t:T}{ts:List T} (h:B a b t) (g:B a' b' (.node ts)):B (max (a+1) a') (b+b') (.node (t::ts)):=by
 obtain⟨h1,h2⟩:=h
 obtain⟨g1,g2⟩:=g
 rw [T.aO] at g1
 rw [T.aL] at g2
 refine⟨?_,?_⟩
 ·rw [T.aO,T.aK]; lia
 ·rw [T.aL,T.aq]; lia
theorem rK {a b a' b':Nat}{us:List T} (g:B a' b' (.node us)):∀ {ts:List T},B a b (.node ts)→B (max a a') (b+b') (.node (ts++us))
 | [],_=>g.le (by lia) (by lia)
 | t::ts,h=>by
  obtain⟨h1,h2⟩:=h
  rw [T.aO,T.aK] at h1
  rw [T.aL,T.aq] at h2
  have q:=rK g (ts:=ts) (a:=a) (b:=b - t.parts) ⟨by rw [T.aO]; lia,by rw [T.aL]; lia⟩
  have q1:=q.1
  have q2:=q.2
  rw [T.aO] at q1
  rw [T.aL] at q2
  refine⟨?_,?_⟩
  ·rw [List.cons_append,T.aO,T.aK]; lia
  ·rw [List.cons_append,T.aL,T.aq]; lia
theorem jo {a b:Nat}{t:T} (h:B a b t):B (a+1) (b+1) (.node [t]):=(cR h zW).le (by lia) (by lia)
theorem U3 {a b n:Nat}:∀ {ts:List T},(∀ t∈ts,B a b t)→ts.length≤n→B (a+1) (1+n * b) (.node ts)
 | [],_,_=>zW.le (by lia) (by lia)
 | t::ts,h,hl=>by
  rw [List.length_cons] at hl
  obtain⟨m,rfl⟩:∃ m,n=m+1:=⟨n - 1,by lia⟩
  refine (cR (h t List.mem_cons_self) (U3 (n:=m) (fun u hu=>h u (List.mem_cons_of_mem _ hu)) (by lia))).le (by lia) ?_
  rw [Nat.succ_mul]; lia
theorem B.len {a b:Nat}{ts:List T} (h:B a b (.node ts)):ts.length<b:=by
 have h2:=h.2
 rw [T.aL] at h2
 have:∀ us:List T,us.length≤T.au us:=fun us=>by
  induction us with
  | nil=>exact Nat.zero_le _
  | cons u us ih =>
   rw [List.length_cons,T.aq]
   have:1≤u.parts:=by cases u; rw [T.aL]; lia
   lia
 have:=this ts
 lia
theorem cA {K:PySem.W.Frag}{H:Hp}{p:Addr}{xs:List V}{ts:List T} (hp:H p=none) (h:TRs K H ts xs):Same H (upd H p (.tup xs))∧TR K (upd H p (.tup xs)) (.node ts) (.ref p) :=
 ⟨same_new hp _,vH (SqT.of upd_same) (h.mono (.new hp))⟩
def pbT:Nat→Nat
 | 0=>1
 | d+1=>1+3 * pbT d
theorem ac9 {ts:List T}{n b:Nat} (hl:ts.length≤n) (h:∀ t∈ts,t.parts≤b):T.au ts≤n * b :=
 Nat.le_trans (T.tL h) (Nat.mul_le_mul_right b hl)
theorem Ci {K:PySem.W.Frag}{H:Hp}{p:Addr} (h:H p=some (.tup [])):TR K H (.node []) (.ref p):=vH (xs:=[]) (SqT.of h) (bJ.mpr rfl)
theorem agf (x:V) (n:Nat):tG [x] (n:Int)=List.replicate n x:=by
 unfold tG
 rw [Int.toNat_natCast]
 induction n with
 | zero=>rfl
 | succ n ih=>rw [List.replicate_succ,List.flatten_cons,ih,List.replicate_succ]; rfl
theorem Qt {K:PySem.W.Frag}{H:Hp}{t:T}{x:V} (h:TR K H t x):∀ n:Nat,TRs K H (List.replicate n t) (List.replicate n x)
 | 0=>bJ.mpr rfl
 | n+1=>by
  rw [List.replicate_succ,List.replicate_succ]
  exact cH.mpr ⟨x,_,rfl,h,Qt h n⟩
def acR (K:PySem.W.Frag):Sp:=fun vs H Q _=>∃ (a:Addr) (ns:List Int),vs=[.ref a]∧SqL K H a (ns.map V.int)∧ns.length≤63∧∀ p H',Same H H'→H p=none→vp H' p→Q (.ref p) H'
def Gw:Sp:=fun vs H Q _=>∃ (p:Addr) (m:Int),vs=[.ref p,.int m]∧0<m∧vp H p∧∀ i H',0≤i→i<m→Dr p H H'→Q (.int i) H'
def ShT:Nat→T→Prop:=fun d t=>t.deep≤d∧t.parts≤pbT d
def dh (n:Nat):T:=.node (List.replicate n (.node []))
def yd (K:PySem.W.Frag):Sp:=fun vs H Q _=>∃ n:Nat,vs=[.int (n:Int)]∧n≤100000∧∀ y H',Same H H'→TR K H' (dh n) y→Q y H'
theorem qH (n:Nat):B 1 (1+n) (dh n):=(U3 (n:=n) (fun t ht=>by rw [List.eq_of_mem_replicate ht]; exact zW) (by rw [List.length_replicate]; exact Nat.le_refl _)).le (by lia) (by lia)
theorem ShT.b {d:Nat}{t:T} (h:ShT d t):B d (pbT d) t:=h
def pbW:Nat→Nat
 | 0=>60
 | d+1=>60+2 * (1+4 * pbW d)
theorem ac7:∀ d,60≤pbW d
 | 0=>Nat.le_refl _
 | d+1=>by rw [pbW]; lia
theorem aiA {ns:List Nat}{k:Nat} (hk:k<ns.length):∃ c∈ns,atI (ns.map fun n:Nat=>V.int (n:Int)) (k:Int)=some (.int (c:Int)) :=
 ⟨ns[k],List.getElem_mem hk,atI_nat (by rw [List.getElem?_map,List.getElem?_eq_getElem hk]; rfl)⟩
theorem Xx (p:Addr) (e:Nat):[V.ref p,V.int (((e+1:Nat):Int) - 1)]=[V.ref p,V.int (e:Int)]:=by
 rw [show ((e+1:Nat):Int) - 1=(e:Int) by lia]
def spLaw (K:PySem.W.Frag):Sp:=fun vs H Q _=>∃ (a:Addr) (ns:List Int),vs=[.ref a]∧SqL K H a (ns.map V.int)∧ns.length≤63∧∀ H',Q (.bl true) H'
def aJ (t:T):Nat:=match t.kids with
 | []=>0
 | f::_=>min 9 f.kids.length
def bD (t:T):T:=.node (t.kids.drop 1)
theorem afr {α:Type} (x:α) (n:Nat):(List.replicate n [x]).flatten=List.replicate n x:=by
 induction n with
 | zero=>rfl
 | succ n ih=>rw [List.replicate_succ,List.flatten_cons,ih,List.replicate_succ]; rfl
theorem ajG {ns:List Int}{k:Int} (h0:0≤k) (h:k<(ns.length:Int)):∃ i∈ns,atI (ns.map V.int) k=some (.int i):=by
 have hk:k.toNat<ns.length:=by lia
 have e:(ns.map V.int)[k.toNat]?=some (.int ns[k.toNat]):=by rw [List.getElem?_map,List.getElem?_eq_getElem hk]; rfl
 have:=atI_nat e
 rw [show ((k.toNat:Nat):Int)=k by lia] at this
 exact⟨_,List.getElem_mem hk,this⟩
theorem ag5 (xs:List V) (i j:Nat):∃ k,iK xs (some (i:Int)) (some (j:Int))=(xs.drop (min i xs.length)).take k:=⟨_,by unfold iK; rw [HT.JB,HT.JB]⟩
def aU (n:Nat) (us:List T):T:=.node (dh n::us)
def Oh (K:PySem.W.Frag):Sp:=fun vs H Q _=>∃ x t,vs=[x]∧TR K H t x∧t.deep≤400∧t.parts≤1000000∧∀ y H',Same H H'→TR K H' (aU 0 t.kids) y→Q y H'
def acP (K:PySem.W.Frag):Sp:=fun vs H Q _=>∃ x t,vs=[x]∧TR K H t x∧t.deep≤400∧t.parts≤1000000∧∀ y H',Same H H'→TR K H' (aU 8 t.kids) y→Q y H'
def ZV (K:PySem.W.Frag):Sp:=fun vs H Q _=>∃ n:Nat,vs=[.int (n:Int)]∧1≤n∧n≤6∧∀ y H',Same H H'→TR K H' (aU n []) y→Q y H'
def Gy (K:PySem.W.Frag):Sp:=fun vs H Q _=>∃ x t y u,vs=[x,y]∧TR K H t x∧TR K H u y∧(t.deep≤400∧t.parts≤1000000)∧(u.deep≤400∧u.parts≤1000000)∧∀ z H',Same H H'→TR K H' (aU 7 (t::u.kids)) z→Q z H'
end Sw
namespace Sw
open PySem PySem.Spec PyProof.Rows L2
theorem aiw {K:PySem.W.Frag}{H:Hp}{Q:VK}{σ:L2.St}{ts:List T}{x:V} (hx:TR K H (.node ts) x) (k:Nat) {j:Option Int} (q:∀ z H',Same H H'→TR K H' (.node (ts.drop k)) z→Q z H') (hj:j=some ((k:Nat):Int):=by rfl):QB σ H (fun u H3=>aaX K x j u H3 Q):=akn hx k q hj
theorem anH {K:PySem.W.Frag}{H:Hp}{Q:VK}{σ:L2.St}{ts:List T}{x y:V}{t:T} (hx:TR K H (.node ts) x) (i:Nat) (e:ts[i]?=some t) (q:∀ z,TR K H t z→Q z H) (hy:y=.int ((i:Nat):Int):=by rfl):tC y σ H (fun y H2=>aeJ K x y H2 Q):=nIx hx i e q hy
theorem aaB {a b:Nat}{t:T} (h:B a b t):B a b (bD t):=by
 cases t with
 | node ts =>
  cases ts with
  | nil=>exact h
  | cons u us =>
   obtain⟨h1,h2⟩:=h
   rw [T.aO,T.aK] at h1
   rw [T.aL,T.aq] at h2
   exact⟨by show (T.node us).deep≤a; rw [T.aO]; lia,by show (T.node us).parts≤b; rw [T.aL]; lia⟩
def leaf:T:=.node []
def ats (s:List T) (k:Nat):T:=(s[k]?).getD leaf
def many (k:Nat):Nat:=([0,1,1,2,2,1,3,1,1,0]:List Nat).getD k 0
def pad (s:List T) (n:Nat):List T:=s++List.replicate (n - s.length) leaf
theorem dD {s:List T}{n:Nat} (h:n≤s.length):pad s n=s:=by
 unfold pad
 rw [show n - s.length=0 by lia,List.replicate_zero,List.append_nil]
theorem aaf (s:List T) (n:Nat):n≤(pad s n).length:=by
 unfold pad
 rw [List.length_append,List.length_replicate]
 lia
def behind (w:T) (s:List T):List T :=
 if aJ w=0 then bD w::s
 else if 6<aJ w then pad s (many (aJ w))
 else if aJ w=1 then (pad s 1).drop 1
 else if aJ w=2 then ats (pad s 1) 0::ats (pad s 1) 0::(pad s 1).drop 1
 else if aJ w=3 then ats (pad s 2) 1::ats (pad s 2) 0::(pad s 2).drop 2
 else if aJ w=4 then .node (ats (pad s 2) 0::(ats (pad s 2) 1).kids)::(pad s 2).drop 2
 else if aJ w=5 then ats (ats (pad s 1) 0).kids 0::.node ((ats (pad s 1) 0).kids.drop 1)::(pad s 1).drop 1
 else ats (pad s 3) 2::ats (pad s 3) 0::ats (pad s 3) 1::(pad s 3).drop 3
def onward (tx s:List T):List T×List T×Nat :=
 match (ats tx 0).kids with
 | []=>(tx.drop 1,s,12)
 | w::ws =>
  if aJ w=7 then
   if (ats s 0).kids≠[] then (ats (w.kids.drop 1) 0::.node ws::tx.drop 1,behind w s,7) else (.node (w.kids.drop 2)::.node ws::tx.drop 1,behind w s,8)
  else if aJ w=8 then
   if (ats s 0).kids≠[] then (bD w::tx,behind w s,9) else (.node ws::tx.drop 1,behind w s,10)
  else if aJ w=9 then (.node ws::tx.drop 1,behind w s,11)
  else (.node ws::tx.drop 1,behind w s,aJ w)
theorem Bw (w:T):aJ w≤9:=by
 unfold aJ
 split
 ·lia
 ·exact Nat.min_le_left _ _
def ZS (K:PySem.W.Frag):Sp:=fun vs H Q _=>∃ x t,vs=[x]∧TR K H t x∧t.deep≤400∧∀ H',Same H H'→Q (.int (aJ t:Nat)) H'
theorem ahe {s:List T}{k:Nat} (h:k<s.length):s[k]?=some (ats s k):=by
 unfold ats
 rw [List.getElem?_eq_getElem h]
 rfl
theorem gM (t:T):T.node t.kids=t:=by cases t; rfl
section
variable {w:T}{s:List T}
theorem Nz (h:aJ w=0):behind w s=bD w::s:=by unfold behind; rw [if_pos h]
theorem pB (h:6<aJ w):behind w s=pad s (many (aJ w)):=by unfold behind; rw [if_neg (by lia),if_pos h]
theorem ab2 (h:aJ w=1):behind w s=(pad s 1).drop 1:=by unfold behind; rw [h]; rfl
theorem ab1 (h:aJ w=2):behind w s=ats (pad s 1) 0::ats (pad s 1) 0::(pad s 1).drop 1:=by unfold behind; rw [h]; rfl
theorem ab0 (h:aJ w=3):behind w s=ats (pad s 2) 1::ats (pad s 2) 0::(pad s 2).drop 2:=by unfold behind; rw [h]; rfl
theorem abZ (h:aJ w=4):behind w s=.node (ats (pad s 2) 0::(ats (pad s 2) 1).kids)::(pad s 2).drop 2:=by unfold behind; rw [h]; rfl
theorem abY (h:aJ w=5):behind w s=ats (ats (pad s 1) 0).kids 0::.node ((ats (pad s 1) 0).kids.drop 1)::(pad s 1).drop 1:=by unfold behind; rw [h]; rfl
theorem abX (h:aJ w=6):behind w s=ats (pad s 3) 2::ats (pad s 3) 0::ats (pad s 3) 1::(pad s 3).drop 3:=by unfold behind; rw [h]; rfl
end
theorem adZ {s:List T}{k:Nat} (h:k<s.length):ats s k∈s:=List.mem_of_getElem? (ahe h)
section
variable {X:Cx}
end
theorem akr {tc:TT}{te:TE}{i:Nat}{u:TS}{D:Ends}{σ:L2.St}{H:Hp} (P:V→Hp→Prop) (v0:V) (hv0:σ.set i (some v0)=σ) (k:∀ v H',P v H'→u D (σ.set i (some v)) H')
  (h:∀ A B:Hp→Prop,(∀ H1,(∀ R:VK,(∀ v H',P v H'→R v H')→te σ H1 R)→A H1)→(∀ H1,P v0 H1→B H1)→tc σ H (fun b H1=>if b=true then A H1 else B H1)) :
  tSeq (tIfS tc (tAsg te (gName i)) tNext) u D σ H:=by
 refine h (fun H1=>tAsg te (gName i) { D with nx:=u D } σ H1) (fun H1=>tNext { D with nx:=u D } σ H1) (fun H1 r=>r _ fun v H' p=>k v H' p) (fun H1 p=>?_)
 have q:=k v0 H1 p
 rw [hv0] at q
 exact q
theorem B.pos {a b:Nat}{t:T} (h:B a b t):1≤b:=Nat.le_trans (T.i_ t) h.2
theorem oO {a b:Nat} (k:Nat) {ts:List T} (h:B a b (.node ts)):B a b (.node (ts.drop k)):=by
 obtain⟨h1,h2⟩:=h
 have e:=List.take_append_drop k ts
 rw [← e,T.aO,T.dX] at h1
 rw [← e,T.aL,T.cB] at h2
 exact⟨by rw [T.aO]; lia,by rw [T.aL]; lia⟩
theorem af3 {a b:Nat}{ts:List T}{t:T} (h:B a b (.node ts)) (ht:t∈ts):B a b t:=by
 have h1:=h.1
 have h2:=h.2
 rw [T.aO] at h1
 rw [T.aL] at h2
 have:=T.jM ht
 have:=T.lq ht
 exact⟨by lia,by lia⟩
theorem lX {a b:Nat}{ts:List T} (h:B a b (.node ts)) (k:Nat):B a b (ats ts k):=by
 by_cases hk:k<ts.length
 ·exact af3 h (adZ hk)
 ·unfold ats
  rw [List.getElem?_eq_none (by lia)]
  exact zW.le (by lia) h.pos
theorem CK {a b:Nat}{t:T} (h:B a b t):B a b (.node t.kids):=by rw [gM]; exact h
theorem Ql {a b:Nat}{s:List T} (n:Nat) (hn:n≤3) (ha:1≤a) (h:B a b (.node s)):B a (b+4) (.node (pad s n)) :=
 (rK (U3 (a:=0) (b:=1) (n:=3) (fun t ht=>by rw [List.eq_of_mem_replicate ht]; exact zW) (by rw [List.length_replicate]; lia)) h).le (by lia) (by lia)
theorem afL {a b:Nat}{w:T}{s:List T} (ha:1≤a) (hw:B a b w) (hs:B a b (.node s)):B (a+2) (4 * b+16) (.node (behind w s)):=by
 have hb:=hw.pos
 unfold behind
 split
 ·exact (cR (aaB hw) hs).le (by lia) (by lia)
 split
 ·refine (Ql _ ?_ ha hs).le (by lia) (by lia)
  have:∀ k,k≤9→many k≤3:=by decide
  exact this _ (Bw w)
 have p1:=Ql 1 (by lia) ha hs
 have p2:=Ql 2 (by lia) ha hs
 have p3:=Ql 3 (by lia) ha hs
 split
 ·exact (oO 1 p1).le (by lia) (by lia)
 split
 ·exact (cR (lX p1 0) (cR (lX p1 0) (oO 1 p1))).le (by lia) (by lia)
 split
 ·exact (cR (lX p2 1) (cR (lX p2 0) (oO 2 p2))).le (by lia) (by lia)
 split
 ·exact (cR (cR (lX p2 0) (CK (lX p2 1))) (oO 2 p2)).le (by lia) (by lia)
 split
 ·exact (cR (lX (CK (lX p1 0)) 0) (cR (oO 1 (CK (lX p1 0))) (oO 1 p1))).le (by lia) (by lia)
 ·exact (cR (lX p3 2) (cR (lX p3 0) (cR (lX p3 1) (oO 3 p3)))).le (by lia) (by lia)
theorem afK {a b:Nat}{tx s:List T} (ha:1≤a) (ht:B a b (.node tx)) (hs:B a b (.node s)):B (a+2) (4 * b+16) (.node (onward tx s).1)∧B (a+2) (4 * b+16) (.node (onward tx s).2.1):=by
 have hb:=ht.pos
 have t0:=CK (lX ht 0)
 unfold onward
 split
 ·exact⟨(oO 1 ht).le (by lia) (by lia),hs.le (by lia) (by lia)⟩
 ·rename_i w ws e
  rw [e] at t0
  have hw:B a b w:=af3 t0 List.mem_cons_self
  have hws:B a b (.node ws):=oO 1 t0
  have hbe:=afL ha hw hs
  have hd:=oO 1 ht
  have hl:=oO 1 (CK hw)
  split
  ·split
   ·exact⟨(cR (lX hl 0) (cR hws hd)).le (by lia) (by lia),hbe⟩
   ·exact⟨(cR (oO 2 (CK hw)) (cR hws hd)).le (by lia) (by lia),hbe⟩
  split
  ·split
   ·exact⟨(cR (aaB hw) ht).le (by lia) (by lia),hbe⟩
   ·exact⟨(cR hws hd).le (by lia) (by lia),hbe⟩
  split
  ·exact⟨(cR hws hd).le (by lia) (by lia),hbe⟩
  ·exact⟨(cR hws hd).le (by lia) (by lia),hbe⟩
theorem alm {te:TE}{i:Nat}{u:TS}{D:Ends}{σ:L2.St}{H:Hp} (P:V→Hp→Prop) (h:∀ R:VK,(∀ v H',P v H'→R v H')→te σ H R) (k:∀ v H',P v H'→u D (σ.set i (some v)) H'):tSeq (tAsg te (gName i)) u D σ H:=h _ k
theorem abN {H:Hp}{p q:Addr} (d:vp H p) (h:H q=none):q≠p:=fun z=>by
 obtain⟨ms,e⟩:=d
 rw [z,e] at h
 cases h
theorem ji {te:TE}{i:Nat}{u:TS}{D:Ends}{σ:L2.St}{H:Hp} (σ':V→L2.St) (hσ:∀ v,σ.set i (some v)=σ' v) (P:V→Hp→Prop) (h:∀ R:VK,(∀ v H',P v H'→R v H')→te σ H R) (k:∀ v H',P v H'→u D (σ' v) H'):tSeq (tAsg te (gName i)) u D σ H :=
 alm P h fun v H' p=>by rw [hσ]; exact k v H' p
theorem aiG {tc:TT}{te:TE}{i:Nat}{u:TS}{D:Ends}{σ:L2.St}{H:Hp} (σ':V→L2.St) (hσ:∀ v,σ.set i (some v)=σ' v) (P:V→Hp→Prop) (v0:V) (hv0:σ.set i (some v0)=σ) (k:∀ v H',P v H'→u D (σ' v) H')
  (h:∀ A B:Hp→Prop,(∀ H1,(∀ R:VK,(∀ v H',P v H'→R v H')→te σ H1 R)→A H1)→(∀ H1,P v0 H1→B H1)→tc σ H (fun b H1=>if b=true then A H1 else B H1)) :
  tSeq (tIfS tc (tAsg te (gName i)) tNext) u D σ H:=akr P v0 hv0 (fun v H' p=>by rw [hσ]; exact k v H' p) h
end Sw
namespace Sw
open PySem PySem.Spec PyProof.Rows L2
def jZ (o:Obj) (xs:List V):Prop:=∃ (its:Array Value) (n:Nat),o.cls=.type "tuple"∧o.data=.seq its n∧its.size≤sizeLine∧Vals xs its.toList
theorem jZ.sq {K:PySem.W.Frag}{o:Obj}{xs:List V}{a:Addr}{H:Hp} (h:jZ o xs) (l:K.lookup a=some o):SqT K H a xs:=by
 obtain⟨its,n,h1,h2,h3,h4⟩:=h
 exact .inr ⟨o,its,n,l,h1,h2,h3,h4⟩
def Jw (K:PySem.W.Frag):Sp:=fun vs H Q _=>∃ x t,vs=[x]∧TR K H t x∧t.deep≤400∧∀ y H',Same H H'→TR K H' (ats t.kids 0) y→Q y H'
def Gv (K:PySem.W.Frag):Sp:=fun vs H Q _=>∃ x t,vs=[x]∧TR K H t x∧∀ y H',Same H H'→TR K H' (bD t) y→Q y H'
theorem Vt (t:T):aJ t=min 9 (ats t.kids 0).kids.length:=by
 cases t with
 | node ts=>cases ts <;> rfl
theorem xT {K:PySem.W.Frag}{H:Hp}{t:T}{x:V} (h:TR K H t x):TR K H (.node t.kids) x:=by rw [gM]; exact h
theorem Bx {n:Nat} (h:n≤16000000):n≤sizeLine:=Nat.le_trans h (by decide)
theorem ajS:(2:Int) ^ 62=4611686018427387904:=by decide
theorem aiv {K:PySem.W.Frag}{H:Hp}{Q:VK}{x y:V}{k:Int} (n:Nat) (hx:TR K H (.node [.node []]) x) (hy:y=.int k) (hk:k.toNat=n) (h0:-16000000≤k) (hn:n≤16000000) (q:∀ z H',Same H H'→TR K H' (dh n) z→Q z H'):G9 K x y H Q:=by
 obtain⟨a,xs,rfl,ha,ra⟩:=cN.mp hx
 obtain⟨v,r,rfl,hv,hr⟩:=cH.mp ra
 rw [bJ] at hr
 subst hr
 subst hk
 have h2:=ajS
 refine⟨a,k,[v],rfl,hy,ha,by lia,by lia,by show 1 * k.toNat≤sizeLine; exact Bx (by lia),fun p H' S h=>q _ _ S ?_⟩
 have e:tG [v] k=List.replicate k.toNat v:=by
  unfold tG
  exact afr v _
 rw [e] at h
 exact vH h (Qt (hv.mono (.of S)) _)
theorem afV {K:PySem.W.Frag}{H:Hp}{Q:VK}{σ:L2.St}{x y:V}{k:Int} (n:Nat) (hx:TR K H (.node [.node []]) x) (hy:y=.int k) (hk:k.toNat=n) (h0:-16000000≤k) (hn:n≤16000000) (q:∀ z H',Same H H'→TR K H' (dh n) z→Q z H'):tC y σ H (fun y H2=>G9 K x y H2 Q):=aiv n hx hy hk h0 hn q
def looks (k:Nat):Nat:=([0,1,1,2,2,1,3,1,1,1,1,0,0]:List Nat).getD k 0
def CP (k:Nat) (l:T) (s:List T):List T :=
 if k=0 then l::s
 else if k=1 then s.drop 1
 else if k=2 then ats s 0::s
 else if k=3 then ats s 1::ats s 0::s.drop 2
 else if k=4 then .node (ats s 0::(ats s 1).kids)::s.drop 2
 else if k=5 then ats (ats s 0).kids 0::bD (ats s 0)::s.drop 1
 else if k=6 then ats s 2::ats s 0::ats s 1::s.drop 3
 else s
theorem adK {s:List T} (h:1≤s.length):ats s 0::s.drop 1=s:=by
 cases s with
 | nil=>simp at h
 | cons t r=>rfl
theorem Yt {w:T}{s:List T} (h:aJ w≤6):behind w s=CP (aJ w) (bD w) (pad s (looks (aJ w))):=by
 have hl:aJ w=0∨aJ w=1∨aJ w=2∨aJ w=3∨aJ w=4∨aJ w=5∨aJ w=6:=by lia
 rcases hl with e | e | e | e | e | e | e
 ·rw [Nz e,e]; show _=bD w::pad s 0; rw [dD (Nat.zero_le _)]
 ·rw [ab2 e,e]; rfl
 ·rw [ab1 e,e]
  show _=ats (pad s 1) 0::pad s 1
  rw [adK (aaf s 1)]
 ·rw [ab0 e,e]; rfl
 ·rw [abZ e,e]; rfl
 ·rw [abY e,e]; rfl
 ·rw [abX e,e]; rfl
def stepT (tx s:List T):Nat:=(onward tx s).2.2
theorem Vb {tx s:List T} (h:(ats tx 0).kids=[]):stepT tx s=12:=by
 unfold stepT onward
 rw [h]
section
variable {tx s:List T}{w:T}{ws:List T}
theorem ada (h:(ats tx 0).kids=[]):onward tx s=(tx.drop 1,s,12):=by
 unfold onward
 rw [h]
theorem V8 (h:(ats tx 0).kids=w::ws) (e:aJ w=7) (d:(ats s 0).kids≠[]):onward tx s=(ats (w.kids.drop 1) 0::.node ws::tx.drop 1,pad s 1,7):=by
 unfold onward
 rw [h]
 show (if aJ w=7 then _ else _)=_
 rw [if_pos e,if_pos d,pB (by lia),e]
 rfl
theorem aa3 (h:(ats tx 0).kids=w::ws) (e:aJ w=7) (d:(ats s 0).kids=[]):onward tx s=(.node (w.kids.drop 2)::.node ws::tx.drop 1,pad s 1,8):=by
 unfold onward
 rw [h]
 show (if aJ w=7 then _ else _)=_
 rw [if_pos e,if_neg (by simp [d]),pB (by lia),e]
 rfl
theorem Rm (h:(ats tx 0).kids=w::ws) (e:aJ w=8) (d:(ats s 0).kids≠[]):onward tx s=(bD w::tx,pad s 1,9):=by
 unfold onward
 rw [h]
 show (if aJ w=7 then _ else _)=_
 rw [if_neg (by lia),if_pos e,if_pos d,pB (by lia),e]
 rfl
theorem Rj (h:(ats tx 0).kids=w::ws) (e:aJ w=8) (d:(ats s 0).kids=[]):onward tx s=(.node ws::tx.drop 1,pad s 1,10):=by
 unfold onward
 rw [h]
 show (if aJ w=7 then _ else _)=_
 rw [if_neg (by lia),if_pos e,if_neg (by simp [d]),pB (by lia),e]
 rfl
theorem Rk (h:(ats tx 0).kids=w::ws) (e:aJ w=9):onward tx s=(.node ws::tx.drop 1,pad s 0,11):=by
 unfold onward
 rw [h]
 show (if aJ w=7 then _ else _)=_
 rw [if_neg (by lia),if_neg (by lia),if_pos e,pB (by lia),e]
 rfl
theorem Ri (h:(ats tx 0).kids=w::ws) (e:aJ w≤6):onward tx s=(.node ws::tx.drop 1,CP (aJ w) (bD w) (pad s (looks (aJ w))),aJ w):=by
 unfold onward
 rw [h]
 show (if aJ w=7 then _ else _)=_
 rw [if_neg (by lia),if_neg (by lia),if_neg (by lia),Yt e]
end
theorem Qq {k:Nat}{l:T}{s:List T} (h:7≤k):CP k l s=s:=by
 unfold CP
 rw [if_neg (by lia),if_neg (by lia),if_neg (by lia),if_neg (by lia),if_neg (by lia),if_neg (by lia),if_neg (by lia)]
theorem ae7 (k:Nat):looks k≤3:=by
 by_cases h:k<13
 ·have:∀ k,k<13→looks k≤3:=by decide
  exact this k h
 ·unfold looks
  rw [List.getD_eq_getElem?_getD,List.getElem?_eq_none (by show 13≤k; lia)]
  decide
section
variable {tx s:List T}
theorem aib:((ats tx 0).kids=[]∧onward tx s=(tx.drop 1,s,12))∨∃ w ws,(ats tx 0).kids=w::ws ∧
  (onward tx s=(ats (w.kids.drop 1) 0::.node ws::tx.drop 1,pad s 1,7)∨onward tx s=(.node (w.kids.drop 2)::.node ws::tx.drop 1,pad s 1,8)∨onward tx s=(bD w::tx,pad s 1,9) ∨ ∃ k,(k≤6∨k=10∨k=11)∧onward tx s=(.node ws::tx.drop 1,CP k (bD w) (pad s (looks k)),k)):=by
 cases hk:(ats tx 0).kids with
 | nil=>exact .inl ⟨rfl,ada hk⟩
 | cons w ws =>
  refine .inr ⟨w,ws,rfl,?_⟩
  have h9:=Bw w
  by_cases e7:aJ w=7
  ·by_cases d:(ats s 0).kids=[]
   ·exact .inr (.inl (aa3 hk e7 d))
   ·exact .inl (V8 hk e7 d)
  by_cases e8:aJ w=8
  ·by_cases d:(ats s 0).kids=[]
   ·exact .inr (.inr (.inr ⟨10,by lia,Rj hk e8 d⟩))
   ·exact .inr (.inr (.inl (Rm hk e8 d)))
  by_cases e9:aJ w=9
  ·exact .inr (.inr (.inr ⟨11,by lia,Rk hk e9⟩))
  ·exact .inr (.inr (.inr ⟨aJ w,by lia,Ri hk (by lia)⟩))
theorem xJ:stepT tx s≤12:=by
 unfold stepT
 rcases aib (tx:=tx) (s:=s) with⟨_,e⟩ | ⟨w,ws,_,e | e | e | ⟨k,h,e⟩⟩
 ·rw [e]; exact Nat.le_refl 12
 ·rw [e]; show 7≤12; lia
 ·rw [e]; show 8≤12; lia
 ·rw [e]; show 9≤12; lia
 ·rw [e]; show k≤12; lia
variable {w:T}{ws:List T}
end
def BX (tx:List T):Prop:=tx.length≤8000000∧∀ t∈tx,B 389 8000000 t
theorem BX.of {a b:Nat}{tx:List T} (h:B a b (.node tx)) (ha:a≤390) (hb:b≤8000000):BX tx:=by
 refine⟨by have:=h.len; lia,fun t ht=>?_⟩
 have h1:=h.1
 have h2:=h.2
 rw [T.aO] at h1
 rw [T.aL] at h2
 have:=T.jM ht
 have:=T.lq ht
 exact⟨by lia,by lia⟩
end Sw
namespace Sw
open PySem PySem.Spec PyProof.Rows L2
end Sw
namespace Sw
open PySem PySem.Spec PyProof.Rows L2
theorem ahO {X:Cx}{pos:Pos}{o i:Expr}{to ti:TE}{t:N7} (ho:QE X o to) (hi:QE X i ti) (hs:Yj X t)
  (ha:∀ v,assign (.Subscript o i pos) X.env v=(do
   let ov ← holding [v] (eval o X.env)
   let iv ← holding [v,ov] (eval i X.env)
   standAt pos
   holding [v,ov,iv] (setItem ov iv v)
   release [v,ov,iv] []):=by intro _; rfl):QG X (.Subscript o i pos) (aiP to ti t):=⟨L2.ah1 (ho:=ho.run) (hi:=hi.run) (hs:=hs) (ha:=ha)⟩
section
variable {X:Cx}
theorem adL (hc:X.calm=true):CallR X (.builtin "sum") (fun xs H Q=>∃ (p:Addr) (ns:List Int),xs=[.ref p]∧SqT X.K H p (ns.map V.int)∧Q (.int ns.sum) H):=by
 intro pins s σ H xs us Q I r h
 obtain⟨p,ns,rfl,hq,q⟩:=h
 obtain⟨u,rfl,rx⟩:=vals1 r
 cases rx
 obtain⟨its,r',pl,hz⟩:=I.tuple hq
 have hi:IntsAre its ns:=intsAre_of r'
 obtain⟨ys,e⟩:=hi.allInts.items
 have hns:ns=ys.toList.map (·.1):=by
  rw [← hi.numsOf,← nums_intItems,← e]
 have ht:s.heap.IsTuple p its.toArray:=pl
 rw [e] at ht
 obtain⟨o,ho,hc',n,hd⟩:=id ht
 have hne:p≠s.heap.objs.size:=Nat.ne_of_lt (Heap.lt_size ho)
 have hsz:(intItems ys).size=ys.size:=by simp [intItems]
 have W:=Walks.tuple (prog:=X.prog) (w:=X.w) (A:=X.A.in1) (I.ok.hd hc) s.heap.objs.size p hne (intItems ys)
 rw [hsz] at W
 refine call_sum_walkG (wpAny_pyIter_tuple ht ?_)
 refine⟨s.heap.objs.size,_,_,_,_,_,numAt ys,rfl,W,⟨⟨_,Heap.get?_push_size _ rfl,rfl,rfl⟩,ht.push _⟩,fun b hb=>?_,fun i v hP=>intItems_at hP,fun h' tk t' hk=>?_⟩
 ·rcases List.mem_cons.mp hb with rfl | hb
  ·exact Heap.lt_size (Heap.get?_push_size _ rfl)
  ·obtain rfl:=List.mem_singleton.mp hb
   exact Heap.lt_size (Heap.get?_push_of_some _ ho)
 ·have es:preSum (numAt ys) ys.size=ns.sum:=by rw [preSum_eq,List.take_of_length_le (by simp),hns]
  exact⟨.int ns.sum,H,I.kept (fun b o e=>hk b o (fun z=>absurd (Heap.lt_size e) (by rw [List.mem_singleton.mp z]; exact Nat.lt_irrefl _)) (Heap.get?_push_of_some _ e)),⟨t',by rw [es]⟩,q⟩
end
theorem RP {n j:Nat} (h:j<n):ixN n (j:Int)=some j:=by
 unfold ixN
 rw [if_pos (by lia),if_pos (by lia),Int.toNat_natCast]
abbrev nv (n:Nat):V:=.int (n:Int)
def Vk (K:PySem.W.Frag):Sp:=fun vs H Q _=>∃ x t,vs=[x]∧TR K H t x∧t.parts≤8000000∧∀ H',Same H H'→Q (.int t.parts) H'
def aay (K:PySem.W.Frag) (H:Hp) (x:V) (n:Nat) (p:Addr):Nat→Sg→Hp→Prop:=fun m σ H'=>∃ (ys:List V) (ts:List T) (c:Nat) (o:Option V),
 σ=[some x,some (.ref p),some (.int c),o]∧Same H H'∧H' p=some (.lst ys)∧TRs K H' ts ys∧c+T.au ts=n∧m=T.au ts
def ev0 (k:Nat):List Nat:=(List.replicate 15 0).set k 1
def mL (tx s:List T):List Nat :=
 if stepT tx s=2 then (ev0 2).set 13 (ats s 0).parts
 else if stepT tx s=9 then (ev0 9).set 14 (bD (ats (ats tx 0).kids 0)).parts
 else ev0 (stepT tx s)
def nT (ns:List Nat):Int:=((ns.take 13).map fun n:Nat=>(n:Int)).sum - (ns.getD 2 0:Nat)+(ns.getD 13 0:Nat)
def bF (tx s:List T):Nat:=if stepT tx s=2 then (ats s 0).parts else 1
theorem HJ (tx s:List T):(mL tx s).length=15:=by
 unfold mL ev0
 split
 ·simp
 split <;> simp
theorem ag0 (tx s:List T):nT (mL tx s)=(bF tx s:Nat):=by
 have h:=xJ (tx:=tx) (s:=s)
 unfold mL bF
 split
 ·rename_i e
  show (0+(0+(1+(0+(0+(0+(0+(0+(0+(0+(0+(0+(0+0))))))))))))) - (1:Int)+((ats s 0).parts:Int)=_
  lia
 split
 ·show (0+(0+(0+(0+(0+(0+(0+(0+(0+(1+(0+(0+(0+0))))))))))))) - (0:Int)+(0:Int)=_
  lia
 ·generalize stepT tx s=k at *
  have:∀ k,k≤12→k≠2→nT (ev0 k)=((1:Nat):Int):=by decide
  exact this k h (by assumption)
theorem qw (tx s:List T):1≤bF tx s:=by
 unfold bF
 split
 ·exact T.i_ _
 ·exact Nat.le_refl 1
def Vr (K:PySem.W.Frag):Sp:=fun vs H Q _=>∃ (a:Addr) (ns:List Nat),vs=[.ref a]∧SqT K H a (ns.map nv)∧ns.length=15∧∀ H',Same H H'→Q (.int (nT ns)) H'
theorem afU {ns:List Nat}{k:Nat} (h:k<ns.length):atI (ns.map nv) (k:Int)=some (.int ((ns.getD k 0:Nat):Int)) :=
 atI_nat (by rw [List.getElem?_map,List.getElem?_eq_getElem h,List.getD_eq_getElem?_getD,List.getElem?_eq_getElem h]; rfl)
theorem agK (ns:List Nat) (k:Nat):(ns.map nv).take k=((ns.take k).map fun n:Nat=>(n:Int)).map V.int:=by
 rw [← List.map_take,List.map_map]
 rfl
theorem air (ns:List Nat) (k v:Nat):(ns.map nv).set k (nv v)=(ns.set k v).map nv:=by rw [List.map_set]
end Sw
namespace Sw
open PySem PySem.Spec PyProof.Rows L2
theorem abI (s:List T) (k:Nat):T.au (s.drop k)≤T.au s:=by
 have e:=congrArg T.au (List.take_append_drop k s)
 rw [T.cB] at e
 lia
theorem aeU (t:T):t.parts=1+T.au t.kids:=by cases t; rw [T.aL]; rfl
theorem abp (t:T):(bD t).parts≤t.parts:=by
 unfold bD
 rw [T.aL,aeU t]
 have:=abI t.kids 1
 lia
end Sw
namespace PySem
section
variable {prog:Program}{w:World}{A:Around}{E:Value→Shared→Prop}{s:Shared}
theorem adl {m t:Addr}{i:Nat}{its:Array Value}{x:Value}{Q:Value→Shared→Prop} (hm:s.heap.IsTupleIter m t i) (ht:s.heap.IsTuple t its) (hx:its[i]?=some x)
  (q:∀ g,g.IsTupleIter m t (i+1)→Heap.SameBut m s.heap g→Q x { s with heap:=g }):wpAny (model prog w) A (Builtin.SmallTypes.nextOf (.ref m)) Q E s:=by
 obtain⟨om,e1,e2,e3⟩:=id hm
 obtain⟨ot,f1,_,nt,f3⟩:=ht
 unfold Builtin.SmallTypes.nextOf; refine wpAny_bind (wpAny_callSpecial?_slot (name:=Str.ofString "__next__") hm.typeIs F.slot_tuple_iterator_next (wpAny_call_entry F.slot_tuple_iterator_next hm.typeIs F.entry_tuple_iterator_next ?_ (F.args_tuple_iterator_next_1 _)))
 show wpAny _ _ (field (.ref m) 0 >>= _) _ _ s
 refine wpAny_bind (wpAny_field e1 e3 (x:=.ref t) rfl ?_); show wpAny _ _ (if (Value.ref t == Value.none)=true then _ else _) _ _ s
 rw [if_neg (fun z:(Value.ref t == Value.none)=true=>Bool.false_ne_true z)]; show wpAny _ _ (field (.ref m) 1 >>= _) _ _ s
 refine wpAny_bind (wpAny_field e1 e3 (x:=.int i 0) rfl ?_); show wpAny _ _ (seqItems? (.ref t) >>= _) _ _ s
 refine wpAny_bind (wpAny_seqItems f1 f3 ?_); simp only [Int.toNat_natCast,hx]
 refine wpAny_bind (wpAny_setField e1 e3 (by simp) (wpAny_pure ⟨x,rfl,wpAny_pure (q _ ?_ (Heap.SameBut.update ..))⟩))
 refine⟨_,Heap.get?_update_self _ e1 (Obj.isFreed_of_fields (Obj.data_mapFields e3 _)),(Obj.cls_mapFields ..).trans e2,?_⟩
 rw [Obj.data_mapFields e3]; simp [rawInt]
theorem abd {m t:Addr}{i:Nat}{its:Array Value}{Q:Value→Shared→Prop} (hh:A.handled=none) (hm:s.heap.IsTupleIter m t i) (ht:s.heap.IsTuple t its) (hx:its[i]?=none)
  (q:∀ g e,Heap.ExtBut m s.heap g→(∃ o,g.get? e=some o∧o.cls=.type "StopIteration")→E (.ref e) { s with heap:=g }):wpAny (model prog w) A (Builtin.SmallTypes.nextOf (.ref m)) Q E s:=by
 obtain⟨om,e1,e2,e3⟩:=id hm
 obtain⟨ot,f1,_,nt,f3⟩:=ht
 unfold Builtin.SmallTypes.nextOf; refine wpAny_bind (wpAny_callSpecial?_slot (name:=Str.ofString "__next__") hm.typeIs F.slot_tuple_iterator_next (wpAny_call_entry F.slot_tuple_iterator_next hm.typeIs F.entry_tuple_iterator_next ?_ (F.args_tuple_iterator_next_1 _)))
 show wpAny _ _ (field (.ref m) 0 >>= _) _ _ s
 refine wpAny_bind (wpAny_field e1 e3 (x:=.ref t) rfl ?_); show wpAny _ _ (if (Value.ref t == Value.none)=true then _ else _) _ _ s
 rw [if_neg (fun z:(Value.ref t == Value.none)=true=>Bool.false_ne_true z)]; show wpAny _ _ (field (.ref m) 1 >>= _) _ _ s
 refine wpAny_bind (wpAny_field e1 e3 (x:=.int i 0) rfl ?_); show wpAny _ _ (seqItems? (.ref t) >>= _) _ _ s
 refine wpAny_bind (wpAny_seqItems f1 f3 ?_); simp only [Int.toNat_natCast,hx]
 refine wpAny_bind (wpAny_rule (wpAny_bind (wpAny_setField e1 e3 (by simp) ?_))); show wpAny _ _ (newExc (.type "StopIteration") [] >>= _) _ _ _
 refine wpAny_bind ?_; simp only [newExc,newTuple]; refine wpAny_bind (wpAny_newObj_type ?_ (by size_fits))
 refine wpAny_bind (m:=firstArgMember _ _) (wpAny_of_eq (a:=Value.none) (by first | rfl | (simp only [firstArgMember]; rfl)) ?_); refine wpAny_newObj_type ?_ (by size_fits)
 simp only [raiseNew]; refine wpAny_bind (wpAny_handled ?_); first | rw [show A.in1.handled=none from hh] | rw [hh]
 refine wpAny_bind (wpAny_pure (wpAny_throw ?_))
 exact q _ _ (((Heap.SameBut.update ..).extBut.push _).push _) ⟨_,Heap.get?_push_size _ rfl,rfl⟩
theorem af4 {z I O i1 i2 l1 l2:Addr}{k1 k2:Nat}{xs ys:Array Value}{x y a b:Value}{Q:Value→Shared→Prop} (D:ZipApart z I O i1 i2 l1 l2)
  (hz:IsZip s.heap z I O .none) (hI:IsPair s.heap I (.ref i1) (.ref i2)) (hO:IsPair s.heap O a b) (m1:s.heap.IsTupleIter i1 l1 k1) (m2:s.heap.IsTupleIter i2 l2 k2)
  (t1:s.heap.IsTuple l1 xs) (t2:s.heap.IsTuple l2 ys) (hx:xs[k1]?=some x) (hy:ys[k2]?=some y)
  (q:∀ g,IsZip g z I O (rawInt s.heap.objs.size)→IsPair g O x y→g.IsTupleIter i1 l1 (k1+1)→g.IsTupleIter i2 l2 (k2+1)→IsPair g s.heap.objs.size x y→g.objs.size=s.heap.objs.size+1 →
   (∀ c o,c≠z→c≠O→c≠i1→c≠i2→s.heap.get? c=some o→g.get? c=some o)→Q (.ref s.heap.objs.size) { s with heap:=g }) :
  wpAny (model prog w) A (Builtin.«zip.__next__» ⟨[.ref z],[]⟩) (fun fin u=>∃ v,fin=.done (.ret v)∧Q v u) E s:=by
 show wpAny _ _ (field (.ref z) 2 >>= _) _ _ _; refine wpAny_bind (wpAny_field hz rfl (x:=.bool false) rfl ?_)
 show wpAny _ _ (field (.ref z) 3 >>= _) _ _ _; refine wpAny_bind (wpAny_field hz rfl (x:=.ref I) rfl ?_)
 refine wpAny_bind (wpAny_seqItems hI rfl ?_); show wpAny _ _ (Builtin.SmallTypes.ownedTupleIsFree (.ref z) >>= _) _ _ _
 refine wpAny_bind ?_; unfold Builtin.SmallTypes.ownedTupleIsFree; refine wpAny_bind (wpAny_field hz rfl (x:=.none) rfl (wpAny_pure ?_))
 simp only [if_true]; refine wpAny_bind (wpAny_rule ?_); refine wpAny_bind (wpAny_field hz rfl (x:=.ref O) rfl ?_)
 refine wpAny_bind (wpAny_setField_rec hz (by simp) fun g1 z1 b1=>?_)
 replace z1:IsZip g1 z I O .ellipsis:=z1
 refine wpAny_bind ?_; simp only [List.zipIdx_cons,List.zipIdx_nil,List.forIn_cons,List.forIn_nil]
 refine wpAny_bind (wpAny_bind (wpAny_onRaise ?_)); show wpAny _ _ (Builtin.SmallTypes.nextOf (.ref i1) >>= _) _ _ _
 refine wpAny_bind (adl (m1.extBut b1.extBut D.i1z) (t1.extBut b1.extBut D.l1z) hx fun g2 m12 b2=>wpAny_pure ?_)
 have O2:IsPair g2 O a b:=b2.extBut _ _ D.TOi1 (b1.extBut _ _ D.TOz hO)
 refine wpAny_bind (wpAny_seqItems O2 rfl ?_); refine wpAny_bind (wpAny_updateSeq_pair O2 fun g3 O3 b3=>?_)
 replace O3:IsPair g3 O x b:=O3
 refine wpAny_bind (wpAny_letGo (wpAny_pure ?_)); refine wpAny_bind (wpAny_bind (wpAny_onRaise ?_)); show wpAny _ _ (Builtin.SmallTypes.nextOf (.ref i2) >>= _) _ _ _
 refine wpAny_bind (adl (((m2.extBut b1.extBut D.i2z).extBut b2.extBut D.i12.symm).extBut b3.extBut D.TOi2.symm) (((t2.extBut b1.extBut D.l2z).extBut b2.extBut D.l2i1).extBut b3.extBut D.l2TO) hy fun g4 m24 b4=>wpAny_pure ?_)
 have O4:IsPair g4 O x b:=b4.extBut _ _ D.TOi2 O3
 refine wpAny_bind (wpAny_seqItems O4 rfl ?_); refine wpAny_bind (wpAny_updateSeq_pair O4 fun g5 O5 b5=>?_)
 replace O5:IsPair g5 O x y:=O5
 refine wpAny_bind (wpAny_letGo (wpAny_pure (wpAny_pure ?_))); refine wpAny_bind (wpAny_seqItems O5 rfl ?_); refine wpAny_bind (wpAny_newTuple ?_)
 have sz:g5.objs.size=s.heap.objs.size:=by rw [b5.1,b4.1,b3.1,b2.1,b1.1]
 have z5:IsZip g5 z I O .ellipsis:=b5.extBut _ _ D.TOz.symm (b4.extBut _ _ D.i2z.symm (b3.extBut _ _ D.TOz.symm (b2.extBut _ _ D.i1z.symm z1)))
 have k5:∀ c o,c≠z→c≠O→c≠i1→c≠i2→s.heap.get? c=some o→g5.get? c=some o:=fun c o c1 c2 c3 c4 e=>b5.extBut _ _ c2 (b4.extBut _ _ c4 (b3.extBut _ _ c2 (b2.extBut _ _ c3 (b1.extBut _ _ c1 e))))
 have m15:g5.IsTupleIter i1 l1 (k1+1):=((m12.extBut b3.extBut D.TOi1.symm).extBut b4.extBut D.i12).extBut b5.extBut D.TOi1.symm
 have m25:g5.IsTupleIter i2 l2 (k2+1):=m24.extBut b5.extBut D.TOi2.symm
 have zlt:z<g5.objs.size:=Heap.lt_size z5
 show wpAny _ _ (Builtin.SmallTypes.ownedTupleHandOut (.ref z) (.ref g5.objs.size) >>= _) _ _ _
 refine wpAny_bind ?_; unfold Builtin.SmallTypes.ownedTupleHandOut
 have z6:IsZip (g5.push { cls:=.type "tuple",data:=.seq #[x,y] }) z I O .ellipsis:=Heap.get?_push_of_some _ z5
 refine wpAny_bind (wpAny_setField_rec z6 (by simp) fun g7 z7 b7=>?_)
 replace z7:IsZip g7 z I O (rawInt g5.objs.size):=z7
 refine wpAny_setField_rec z7 (by simp) fun g8 z8 b8=>?_
 replace z8:IsZip g8 z I O (rawInt g5.objs.size):=z8
 have up:∀ c o,c≠z→g5.get? c=some o→g8.get? c=some o:=fun c o c1 e=>b8.extBut _ _ c1 (b7.extBut _ _ c1 (Heap.get?_push_of_some _ e))
 have T8:IsPair g8 g5.objs.size x y:=b8.extBut _ _ (Nat.ne_of_gt zlt) (b7.extBut _ _ (Nat.ne_of_gt zlt) (Heap.get?_push_size _ rfl))
 have s8:g8.objs.size=g5.objs.size+1:=by rw [b8.1,b7.1,Heap.size_push]
 rw [sz] at z8 T8 s8; refine wpAny_pure ⟨_,rfl,?_⟩; show Q (.ref g5.objs.size) _
 rw [sz]; exact q g8 z8 (up _ _ D.TOz O5) (by obtain⟨o,e,r⟩:=m15; exact⟨o,up _ o D.i1z e,r⟩) (by obtain⟨o,e,r⟩:=m25; exact⟨o,up _ o D.i2z e,r⟩) T8 s8 fun c o c1 c2 c3 c4 e=>up c o c1 (k5 c o c1 c2 c3 c4 e)
theorem aho {z I O i1 i2 l1 l2:Addr}{k1:Nat}{xs:Array Value}{Q:Fin→Shared→Prop} (hh:A.handled=none) (D:ZipApart z I O i1 i2 l1 l2)
  (hz:IsZip s.heap z I O .none) (hI:IsPair s.heap I (.ref i1) (.ref i2)) (m1:s.heap.IsTupleIter i1 l1 k1) (t1:s.heap.IsTuple l1 xs) (hx:xs[k1]?=none)
  (q:∀ g e,(∀ c o,c≠z→c≠O→c≠i1→c≠i2→s.heap.get? c=some o→g.get? c=some o)→(∃ o,g.get? e=some o∧o.cls=.type "StopIteration")→E (.ref e) { s with heap:=g }) :
  wpAny (model prog w) A (Builtin.«zip.__next__» ⟨[.ref z],[]⟩) Q E s:=by
 show wpAny _ _ (field (.ref z) 2 >>= _) _ _ _; refine wpAny_bind (wpAny_field hz rfl (x:=.bool false) rfl ?_)
 show wpAny _ _ (field (.ref z) 3 >>= _) _ _ _; refine wpAny_bind (wpAny_field hz rfl (x:=.ref I) rfl ?_)
 refine wpAny_bind (wpAny_seqItems hI rfl ?_); show wpAny _ _ (Builtin.SmallTypes.ownedTupleIsFree (.ref z) >>= _) _ _ _
 refine wpAny_bind ?_; unfold Builtin.SmallTypes.ownedTupleIsFree; refine wpAny_bind (wpAny_field hz rfl (x:=.none) rfl (wpAny_pure ?_))
 simp only [if_true]; refine wpAny_bind (wpAny_rule ?_); refine wpAny_bind (wpAny_field hz rfl (x:=.ref O) rfl ?_)
 refine wpAny_bind (wpAny_setField_rec hz (by simp) fun g1 z1 b1=>?_)
 replace z1:IsZip g1 z I O .ellipsis:=z1
 refine wpAny_bind ?_; simp only [List.zipIdx_cons,List.zipIdx_nil,List.forIn_cons,List.forIn_nil]
 refine wpAny_bind (wpAny_bind (wpAny_onRaise ?_)); show wpAny _ _ (Builtin.SmallTypes.nextOf (.ref i1) >>= _) _ _ _
 refine wpAny_bind (abd hh (m1.extBut b1.extBut D.i1z) (t1.extBut b1.extBut D.l1z) hx fun g2 e b2 he=>?_)
 obtain⟨oe,h1,h2⟩:=he
 have z2:IsZip g2 z I O .ellipsis:=b2 _ _ D.i1z.symm z1
 have ez:e≠z:=fun x=>by subst x; rw [z2] at h1; cases h1; simp at h2
 refine wpAny_setField_rec z2 (by simp) fun g3 _ b3=>q g3 e (fun c o c1 _ c3 _ x=>b3.extBut _ _ c1 (b2 _ _ c3 (b1.extBut _ _ c1 x))) ⟨oe,b3.extBut _ _ ez h1,h2⟩
abbrev zt1 (h:Heap) (l1:Addr):Heap:=h.push { cls:=.type "tuple_iterator",data:=.fields #[.ref l1,.int 0 0] }
abbrev zt2 (h:Heap) (l1 l2:Addr):Heap:=(zt1 h l1).push { cls:=.type "tuple_iterator",data:=.fields #[.ref l2,.int 0 0] }
abbrev zt3 (h:Heap) (l1 l2:Addr):Heap:=(zt2 h l1 l2).push { cls:=.type "tuple",data:=.seq #[.ref h.objs.size,.ref (zt1 h l1).objs.size] }
abbrev zt4 (h:Heap) (l1 l2:Addr):Heap:=(zt3 h l1 l2).push { cls:=.type "tuple",data:=.seq #[.none,.none] }
abbrev zt5 (h:Heap) (l1 l2:Addr):Heap:=(zt4 h l1 l2).push { cls:=.type "zip",data:=.fields #[.none,.bool false,.bool false,.ref (zt2 h l1 l2).objs.size,.ref (zt3 h l1 l2).objs.size] }
theorem ahn (l1 l2:Addr) (xs ys:Array Value) :
  Meets (Builtin.«zip.__new__» ⟨[.type "zip",.ref l1,.ref l2],[]⟩) (fun _ R u=>u.heap.IsTuple l1 xs∧u.heap.IsTuple l2 ys∧R (.ok (.ret (.ref (zt4 u.heap l1 l2).objs.size))) { u with heap:=zt5 u.heap l1 l2 }) :=
 .of_wp fun prog w A R u h=>by
  obtain⟨hp,g,d,tk,os⟩:=u; obtain⟨h1,h2,h⟩:=h
  have hsub:=sub_zip
  have T1:Heap.IsTuple (Shared.heap ⟨hp,g,d,tk,os⟩) l1 xs:=h1
  have T2:Heap.IsTuple (Shared.heap ⟨hp.push { cls:=.type "tuple_iterator",data:=.fields #[.ref l1,.int 0 0] },g,d,tk,os⟩) l2 ys:=Heap.IsTuple.push h2 _
  wp_walk using wpAny_pyIter_tuple T1,wpAny_pyIter_tuple T2
  exact⟨_,rfl,h⟩
theorem ag9 {l1 l2:Addr}{xs ys:Array Value}{Q:Value→Shared→Prop} (h1:s.heap.IsTuple l1 xs) (h2:s.heap.IsTuple l2 ys)
  (q:∀ g,IsZip g (s.heap.objs.size+4) (s.heap.objs.size+2) (s.heap.objs.size+3) .none→IsPair g (s.heap.objs.size+2) (.ref s.heap.objs.size) (.ref (s.heap.objs.size+1)) →
   IsPair g (s.heap.objs.size+3) .none .none→g.IsTupleIter s.heap.objs.size l1 0→g.IsTupleIter (s.heap.objs.size+1) l2 0→g.objs.size=s.heap.objs.size+5 →
   (∀ c o,s.heap.get? c=some o→g.get? c=some o)→Q (.ref (s.heap.objs.size+4)) { s with heap:=g }):wpAny (model prog w) A (call (.type "zip") [.ref l1,.ref l2]) Q E s:=by
 refine callType_new F.called_zip (by decide) (F.typeCall_zip_2 _ _) (F.newCall_zip_2 _ _) (fun obj=>F.args_object_init_3 obj _ _) F.entry_zip_new (ahn l1 l2 xs ys) ⟨h1,h2,?_⟩
 have z1:(zt1 s.heap l1).objs.size=s.heap.objs.size+1:=Heap.size_push ..
 have z2:(zt2 s.heap l1 l2).objs.size=s.heap.objs.size+2:=by rw [Heap.size_push,z1]
 have z3:(zt3 s.heap l1 l2).objs.size=s.heap.objs.size+3:=by rw [Heap.size_push,z2]
 have z4:(zt4 s.heap l1 l2).objs.size=s.heap.objs.size+4:=by rw [Heap.size_push,z3]
 have z5:(zt5 s.heap l1 l2).objs.size=s.heap.objs.size+5:=by rw [Heap.size_push,z4]
 have w5:(zt5 s.heap l1 l2).get? (zt4 s.heap l1 l2).objs.size=some _:=Heap.get?_push_size _ rfl
 have w4:(zt5 s.heap l1 l2).get? (zt3 s.heap l1 l2).objs.size=some _:=Heap.get?_push_of_some _ (Heap.get?_push_size _ rfl)
 have w3:(zt5 s.heap l1 l2).get? (zt2 s.heap l1 l2).objs.size=some _:=Heap.get?_push_of_some _ (Heap.get?_push_of_some _ (Heap.get?_push_size _ rfl))
 have w2:(zt5 s.heap l1 l2).get? (zt1 s.heap l1).objs.size=some _:=Heap.get?_push_of_some _ (Heap.get?_push_of_some _ (Heap.get?_push_of_some _ (Heap.get?_push_size _ rfl)))
 have w1:(zt5 s.heap l1 l2).get? s.heap.objs.size=some _:=Heap.get?_push_of_some _ (Heap.get?_push_of_some _ (Heap.get?_push_of_some _ (Heap.get?_push_of_some _ (Heap.get?_push_size _ rfl))))
 show _∧_
 rw [z2,z3,z4] at w5; rw [z1,z2] at w3; rw [z3] at w4; rw [z1] at w2; rw [z4]
 exact⟨⟨_,w5,rfl⟩,q _ w5 w3 w4 ⟨_,w1,rfl,rfl⟩ ⟨_,w2,rfl,rfl⟩ z5 fun c o x=>Heap.get?_push_of_some _ (Heap.get?_push_of_some _ (Heap.get?_push_of_some _ (Heap.get?_push_of_some _ (Heap.get?_push_of_some _ x))))⟩
end
end PySem
namespace Sw
open PySem PySem.Spec PyProof.Rows L2
def Itz (K:PySem.W.Frag) (a b:Addr):It :=
 ⟨fun i H=>∃ xs ys x y,SqT K H a xs∧SqT K H b ys∧xs[i]?=some x∧ys[i]?=some y, fun i H v H'=>∃ p x y,v=.ref p∧H p=none∧H'=upd H p (.tup [x,y])∧(∀ xs,SqT K H a xs→xs[i]?=some x)∧∀ ys,SqT K H b ys→ys[i]?=some y, fun i H=>∃ xs,SqT K H a xs∧xs.length≤i⟩
theorem afp {X:Cx}{pins:List (Addr×Obj)}{σ:Sg}{H:Hp}{s:Shared}{h2:Heap}{tk:Nat}{fp:List Addr}{xs:List V} (I:Inv X pins σ H s) (hf:∀ b∈fp,FpOk X pins H b)
  (k:∀ b o,b ∉ fp→s.heap.get? b=some o→h2.get? b=some o) (new:ObjOk X.prog X.w (upd H s.heap.objs.size (.tup xs)) h2 s.heap.objs.size (.tup xs)) :
  Inv X pins σ (upd H s.heap.objs.size (.tup xs)) { s with heap:=h2,toks:=tk }:=by
 have hn:H s.heap.objs.size=none:=I.hok.fresh (Nat.le_refl _)
 have nt:∀ b u,H b=some u→b≠s.heap.objs.size:=fun b u q=>ne_of_none q hn
 have ne:∀ b u,H b=some u→b ∉ fp:=fun b u q z=>by rw [(hf b z).1] at q; cases q
 have up:∀ b u,H b=some u→upd H s.heap.objs.size (.tup xs) b=some u:=fun b u q=>by rw [upd_ne (nt b u q)]; exact q
 refine I.step (g':=s.gens) (d':=s.drawn) (t':=tk) (ch:=fp) (fun b hb=>⟨(hf b hb).2.2.2.1,(hf b hb).2.1,(hf b hb).2.2.2.2.1,(hf b hb).2.2.2.2.2⟩) (fun b o _ _ hb q _=>k b o hb q)
  (fun b o _ _ hb q _=>⟨o.slots,k b o hb q⟩) (fun b o _ q n=>by rw [upd_ne (Nat.ne_of_lt (Heap.lt_size q))]; exact n)
  (fun b o hb q=>⟨o,k b o hb q⟩) (fun b ys q=>up _ _ q) (fun b o u q=>up _ _ q) (fun b ps q=>⟨#[],by rw [up _ _ q]; simp⟩) (fun m hm=>?_) (fun b u q=>?_) I.bare
 ·obtain⟨o,es,ep,ho,r⟩:=hm
  exact⟨o,es,ep,k _ o (fun z=>(hf _ z).2.1 rfl) ho,r⟩
 ·by_cases hb:b=s.heap.objs.size
  ·subst hb
   rw [upd_same] at q
   cases q
   exact new
  ·rw [upd_ne hb] at q
   refine (I.hok b u q).stay (fun c v hc q'=>k c v ?_ q') (fun c q'=>up _ _ q') fun c ys q'=>up _ _ q'
   rcases hc with z | z
   ·rw [z]; exact ne b u q
   ·exact ne c _ z
theorem Zc {X:Cx}{pins:List (Addr×Obj)}{σ:Sg}{H:Hp}{s:Shared}{h2:Heap}{tk:Nat}{fp:List Addr} (I:Inv X pins σ H s) (hf:∀ b∈fp,FpOk X pins H b)
  (k:∀ b o,b ∉ fp→s.heap.get? b=some o→h2.get? b=some o):Inv X pins σ H { s with heap:=h2,toks:=tk }:=by
 have ne:∀ b u,H b=some u→b ∉ fp:=fun b u q z=>by rw [(hf b z).1] at q; cases q
 refine I.step (g':=s.gens) (d':=s.drawn) (t':=tk) (ch:=fp) (fun b hb=>⟨(hf b hb).2.2.2.1,(hf b hb).2.1,(hf b hb).2.2.2.2.1,(hf b hb).2.2.2.2.2⟩) (fun b o _ _ hb q _=>k b o hb q)
  (fun b o _ _ hb q _=>⟨o.slots,k b o hb q⟩) (fun _ _ _ _ n=>n) (fun b o hb q=>⟨o,k b o hb q⟩) (fun _ _ q=>q) (fun _ _ _ q=>q) (fun b ps q=>⟨#[],by rw [q]; simp⟩) (fun m hm=>?_) (fun b u q=>?_) I.bare
 ·obtain⟨o,es,ep,ho,r⟩:=hm
  exact⟨o,es,ep,k _ o (fun z=>(hf _ z).2.1 rfl) ho,r⟩
 ·refine (I.hok b u q).stay (fun c v hc q'=>k c v ?_ q') (fun _ q'=>q') fun _ _ q'=>q'
  rcases hc with z | z
  ·rw [z]; exact ne b u q
  ·exact ne c _ z
theorem aes {P:Program}{w:World}{K:PySem.W.Frag}{elts:List Expr}{x1:Nat}{tp:Pos} (z I O i1 i2 a b:Addr) (D:ZipApart z I O i1 i2 a b) :
  Turn P w K (.Tuple elts x1 tp) (Itz K a b) [z,I,O,i1,i2] z (fun i h=>IsZip h z I O .none∧IsPair h I (.ref i1) (.ref i2)∧(∃ u v,IsPair h O u v)∧h.IsTupleIter i1 a i∧h.IsTupleIter i2 b i) where
 mem:=by simp
 obj:=fun i h st c hc=>by
  obtain⟨h1,h2,⟨u,v,h3⟩,⟨o4,h4,_,d4⟩,⟨o5,h5,_,d5⟩⟩:=st
  simp only [List.mem_cons,List.not_mem_nil,or_false] at hc
  rcases hc with e | e | e | e | e
  ·rw [e]; exact⟨_,h1,fun v z=>by cases z⟩
  ·rw [e]; exact⟨_,h2,fun v z=>by cases z⟩
  ·rw [e]; exact⟨_,h3,fun v z=>by cases z⟩
  ·rw [e]; exact⟨_,h4,fun v z=>by rw [d4] at z; cases z⟩
  ·rw [e]; exact⟨_,h5,fun v z=>by rw [d5] at z; cases z⟩
 keep:=fun i h h' st k=>by
  obtain⟨h1,h2,⟨u,v,h3⟩,⟨o4,h4,r4⟩,⟨o5,h5,r5⟩⟩:=st
  exact⟨k z (by simp) _ h1,k I (by simp) _ h2,⟨u,v,k O (by simp) _ h3⟩,⟨o4,k i1 (by simp) _ h4,r4⟩,⟨o5,k i2 (by simp) _ h5,r5⟩⟩
 item:=by
  intro X hP hw hK hc i pins s σ H E Iv hf st hg
  subst hP hw hK
  obtain⟨h1,h2,⟨u,v,h3⟩,h4,h5⟩:=st
  obtain⟨xs,ys,x,y,qa,qb,ex,ey⟩:=hg
  obtain⟨its,ra,pa,_⟩:=Iv.tuple qa
  obtain⟨jts,rb,pb,_⟩:=Iv.tuple qb
  obtain⟨vx,hvx,rx⟩:=ra.get ex
  obtain⟨vy,hvy,ry⟩:=rb.get ey
  have hT:s.TypeIs (.ref z) "zip":=⟨_,h1,rfl⟩
  unfold pyNext
  refine wpAny_bind (wpAny_attempt (wpAny_callSpecial?_slot (name:=Str.ofString "__next__") hT F.slot_zip_next (wpAny_call_entry F.slot_zip_next hT F.entry_zip_next
   (af4 D h1 h2 h3 h4 h5 (show s.heap.IsTuple a its.toArray from pa) (show s.heap.IsTuple b jts.toArray from pb) (x:=vx) (y:=vy) (by simpa using hvx) (by simpa using hvy) fun g a1 a2 a3 a4 a5 a6 a7=>wpAny_pure ⟨_,rfl,?_⟩) (F.args_zip_next_1 _))))
  refine wpAny_letOwnedTupleGo_zip a1 fun g2 z2 b2=>?_
  have zlt:z<s.heap.objs.size:=Heap.lt_size h1
  have hn:H s.heap.objs.size=none:=Iv.hok.fresh (Nat.le_refl _)
  have T2:g2.get? s.heap.objs.size=some { cls:=.type "tuple",data:=.seq #[vx,vy] }:=(b2.2 _ (Nat.ne_of_gt zlt)).trans a5
  have lt:∀ c∈[z,I,O,i1,i2],c<s.heap.objs.size:=fun c hc=>by
   simp only [List.mem_cons,List.not_mem_nil,or_false] at hc
   rcases hc with e | e | e | e | e
   ·rw [e]; exact zlt
   ·rw [e]; exact Heap.lt_size h2
   ·rw [e]; exact Heap.lt_size h3
   ·rw [e]; obtain⟨_,q,_⟩:=h4; exact Heap.lt_size q
   ·rw [e]; obtain⟨_,q,_⟩:=h5; exact Heap.lt_size q
  refine⟨.ref s.heap.objs.size,upd H s.heap.objs.size (.tup [x,y]),afp (s:=s) (xs:=[x,y]) (h2:=g2) (tk:=s.toks) Iv hf (fun c o hc q=>?_) ?_,rfl,⟨_,x,y,rfl,hn,rfl,fun zs hz=>by rw [Iv.sI hz qa]; exact ex,fun zs hz=>by rw [Iv.sI hz qb]; exact ey⟩,⟨z2,?_,⟨_,_,(b2.2 O D.TOz).trans a2⟩,?_,?_⟩,fun c hc=>?_⟩
  ·simp only [List.mem_cons,List.not_mem_nil,or_false,not_or] at hc
   exact (b2.2 c hc.1).trans (a7 c o hc.1 hc.2.2.1 hc.2.2.2.1 hc.2.2.2.2 q)
  ·exact⟨(by show 2≤sizeLine; decide),[vx,vy],.cons rx (.cons ry .nil),⟨_,T2,rfl,_,rfl⟩⟩
  ·exact (b2.2 I D.TIz).trans (a7 I _ D.TIz D.TITO D.TIi1 D.TIi2 h2)
  ·obtain⟨o,q,r⟩:=a3; exact⟨o,(b2.2 i1 D.i1z).trans q,r⟩
  ·obtain⟨o,q,r⟩:=a4; exact⟨o,(b2.2 i2 D.i2z).trans q,r⟩
  ·rw [upd_ne (Nat.ne_of_lt (lt c hc))]; exact (hf c hc).1
 done:=by
  intro X hP hw hK hc i pins s σ H E Iv hf st hg
  subst hP hw hK
  obtain⟨h1,h2,⟨u,v,h3⟩,h4,h5⟩:=st
  obtain⟨xs,qa,hl⟩:=hg
  obtain⟨its,ra,pa,_⟩:=Iv.tuple qa
  have hlen:=ra.length
  have hT:s.TypeIs (.ref z) "zip":=⟨_,h1,rfl⟩
  unfold pyNext
  refine wpAny_bind (wpAny_attempt (wpAny_callSpecial?_slot (name:=Str.ofString "__next__") hT F.slot_zip_next (wpAny_call_entry F.slot_zip_next hT F.entry_zip_next
   (aho (Iv.ok.hd hc) D h1 h2 h4 (show s.heap.IsTuple a its.toArray from pa) (by simp; lia) fun g e hk he=>?_) (F.args_zip_next_1 _))))
  obtain⟨oe,he1,he2⟩:=he
  refine wpAny_bind (wpAny_isInstance (T:="StopIteration") (b:=true) ⟨oe,he1,he2⟩ isSubtype_stop (wpAny_pure ⟨rfl,?_⟩))
  refine Zc (tk:=s.toks) Iv hf fun c o hc q=>?_
  simp only [List.mem_cons,List.not_mem_nil,or_false,not_or] at hc
  exact hk c o hc.1 hc.2.2.1 hc.2.2.2.1 hc.2.2.2.2 q
 self:=fun _ _ _ _ _ st h=>wpAny_pyIter_zip st.1 h
theorem ajC:bootBuiltins "zip"=some (.type "zip"):=by decide +kernel
def aiH (K:PySem.W.Frag) (ta:TA):TI:=fun σ H R=>ta σ H fun vs H1=>∃ a b xs ys,vs=[.ref a,.ref b]∧SqT K H1 a xs∧SqT K H1 b ys∧R (Itz K a b) H1
theorem ahZ {X:Cx}{elts:List Expr}{x1:Nat}{tp p pos:Pos}{a b:Expr}{ta:TA} (hg:Gl X "zip") (hm:X.mg "zip"=none) (ha:PA X [a,b] ta)
  (hs:starEach [a,b] X.env=[(false,eval a X.env),(false,eval b X.env)]:=by rfl) (hs2:starEach [b] X.env=[(false,eval b X.env)]:=by rfl) :
  PI X (.Tuple elts x1 tp) (.Call (.Name "zip" p) [a,b] [] pos) (aiH X.K ta):=by
 intro pins s σ H R I h
 refine Call_ (ld_blt I hg hm ajC (PyProof.Rows.callWith_type1 (thn (ha pos pins s σ H _ I h) fun us s1 ⟨vs,H1,I1,r1,q1⟩=>?_) (by rw [hs,hs2]) (by rw [hs2]; rfl)))
 obtain⟨l1,l2,xs,ys,rfl,qa,qb,q⟩:=q1
 cases r1 with
 | cons r rr =>
  cases rr with
  | cons r' rr =>
   cases rr
   cases r
   cases r'
   obtain⟨its,ra,pa,_⟩:=I1.tuple qa
   obtain⟨jts,rb,pb,_⟩:=I1.tuple qb
   have lt1:l1<s1.heap.objs.size:=by obtain⟨_,e,_⟩:=id pa; exact Heap.lt_size e
   have lt2:l2<s1.heap.objs.size:=by obtain⟨_,e,_⟩:=id pb; exact Heap.lt_size e
   refine ag9 (show s1.heap.IsTuple l1 its.toArray from pa) (show s1.heap.IsTuple l2 jts.toArray from pb) fun g z1 z2 z3 z4 z5 z6 z7=>wpAny_pyIter_zip z1 ?_
   have I2:Inv X pins σ H1 { s1 with heap:=g }:=I1.kept (t':=s1.toks) z7
   refine⟨_,_,_,Itz X.K l1 l2,H1,rfl,I2,aes (s1.heap.objs.size+4) (s1.heap.objs.size+2) (s1.heap.objs.size+3) s1.heap.objs.size (s1.heap.objs.size+1) l1 l2 (zipApart_new lt1 lt2),⟨z1,z2,⟨_,_,z3⟩,z4,z5⟩,fun c hc=>?_,q⟩
   have hb':s1.heap.objs.size≤c:=by
    simp only [List.mem_cons,List.not_mem_nil,or_false] at hc
    rcases hc with e | e | e | e | e <;> rw [e] <;> lia
   exact I1.fpOk hb' (I1.hok.fresh hb')
section
variable {X:Cx}{pins:List (Addr×Obj)}{σ:Sg}{H:Hp}{s:Shared}{scope:Scope}{cl:List (Str×Addr)}{x y:Str}{fr:List Str}{js:List Nat}{fp:List Addr}
theorem afC {h1:Heap}{m1:Str→Option Value}{tk:Nat} (I:Inv X pins σ H s) (L:Jj X scope x fr js cl) (hc:X.calm=true) (hfp:∀ b∈fp,FpOk X pins H b) (hsz:∀ b∈fp,b<s.heap.objs.size)
  (hy:scope.names.lookup y=some .local) (hn:h1.Ns s.heap.objs.size m1) (hk:∀ b o,s.heap.get? b=some o→h1.get? b=some o) :
  Inv (blk X scope cl s.heap.objs.size (x::y::fr) s H fp pins) [] (none::none::frv σ js) H { s with heap:=h1,toks:=tk }:=by
 refine⟨adP I L hc hfp hsz,rfl,I.bare,Un.kept hk,⟨m1,hn,fun i yy v e1 e2 _=>?_⟩,fun y c e=>?_,I.hok.fresh (Nat.le_refl _),fun y c e=>I.freeC y c (L.sub y c e),fun p hp=>?_,I.hok.kept hk,?_⟩
 ·cases i with
  | zero=>exact absurd e2 (by simp)
  | succ i =>
  cases i with
  | zero=>exact absurd e2 (by simp)
  | succ i =>
   have e1':fr[i]?=some yy:=by simpa [blk] using e1
   obtain⟨j,hj,hN,hcell,hrel⟩:=L.frk.get e1'
   have e2':σ[j]?=some (some v):=by
    have q:(frv σ js)[i]?=some (some v):=by simpa using e2
    unfold frv at q
    rw [List.getElem?_map,hj] at q
    have q':(σ[j]?).getD none=some v:=by simpa using q
    cases hs:σ[j]? with
    | none=>rw [hs] at q'; cases q'
    | some o=>rw [hs] at q'; exact congrArg some q'
   obtain⟨m,_,hl⟩:=I.loc
   obtain⟨u,r,lk⟩:=hl j yy v hN e2' (.inr (.inl hcell))
   refine⟨u,r,.inr ⟨.inl hrel,?_⟩⟩
   rcases lk with⟨hloc,_⟩ | ⟨_,c,hc1,hc2⟩
   ·have:X.env.scope.names.lookup yy=some .local:=hloc
    rw [hcell] at this; cases this
   ·obtain⟨c',hc'⟩:=L.has yy (.inl hrel)
    have e3:=L.sub yy c' hc'
    rw [hc1] at e3; cases e3
    exact⟨c,hc',hc2.keeps hk⟩
 ·obtain⟨v,hv⟩:=I.cell y c (L.sub y c e)
  exact⟨v,hv.keeps hk⟩
 ·have hp':p∈X.pn++pins:=by simpa [blk] using hp
  obtain⟨a1,a2,a3,a4,a5⟩:=I.pin p hp'
  refine⟨hk _ _ a1,a2,Nat.ne_of_lt (Heap.lt_size a1),fun z=>?_,a5⟩
  rcases List.mem_cons.mp (I.stkSub _ z) with e | e
  ·exact a3 e
  ·exact a4 e
 ·show (none::none::frv σ js).length=(x::y::fr).length
  simp [frv,L.frk.len]
end
def ad3 (K:PySem.W.Frag) (J:It) (js:List Nat) (te:TE) (σ:Sg) (Q:VK) (H1:Hp):Prop:=∀ D,H1 D=none →
 ∃ W:Nat→Nat→List V→Hp→Prop,(∃ m,W 0 m [] (upd H1 D (.lst [])))∧∀ i m ys H',W i m ys H'→H' D=some (.lst ys) ∧
  ((J.stop i H'∧Q (.ref D) H')∨(J.go i H'∧∀ v H2,J.yld i H' v H2→∃ a x y,v=.ref a∧SqT K H2 a [x,y]∧te (some x::some y::frv σ js) H2 fun z H3=>H3 D=some (.lst ys)∧ys.length<sizeLine ∧
   ∃ m',m'<m∧W (i+1) m' (ys++[z]) (upd H3 D (.lst (ys++[z])))))
def ahy (K:PySem.W.Frag) (wi:TI) (js:List Nat) (te:TE):TE:=fun σ H Q=>wi σ H fun J H1=>ad3 K J js te σ Q H1
section
variable {X:Cx}{scope:Scope}{cl:List (Str×Addr)}{x y:Str}{fr:List Str}{js:List Nat}{elt iter:Expr}{px py pt pos:Pos}{kt:Nat}{wi:TI}{te:TE}
theorem ah6 (hc:X.calm=true) (L:Jj X scope x fr js cl) (hy:scope.names.lookup y=some .local) (nd2:(x::y::fr).Nodup) (hi:PI X (.Tuple [.Name x px,.Name y py] kt pt) iter wi)
  (he:∀ C s H fp pins,PE (blk X scope cl C (x::y::fr) s H fp pins) elt te)
  (hs:∀ v,foldedSetIterable iter X.env v=pure v:=by intro _; rfl) :
  PE X (.ListComp elt [⟨.Tuple [.Name x px,.Name y py] kt pt,iter,[],0⟩] scope pos) (ahy X.K wi js te):=by
 intro pins s σ H Q I h
 rw [eval_ListComp]
 refine wpAny_comprehension_free (use:=none) rfl hs L.clos L.kind L.loc (thn (hi pins s σ H _ I h) fun v s1 h1=>thn h1 fun itv s2 h2=>?_)
 obtain⟨it,fp,tn,J,H2,e,I2,T,st2,f2,rd⟩:=h2
 subst e
 obtain⟨W,⟨m0,w0⟩,turn⟩:=rd _ I2.fresh
 have I3:=I2.lnew (ys:=[]) (its:=[]) (t':=s2.toks) .nil (Nat.zero_le _)
 refine wpAny_newObj_type ?_
 have Xc:∀ b∈fp,b<s2.heap.objs.size:=fun b hb=>by
  obtain⟨o,ho,_⟩:=T.obj 0 _ st2 b hb
  exact Heap.lt_size ho
 generalize hs3:({ s2 with heap:=s2.heap.push { cls:=.type "list",dict:=none,data:=.seq ([]:List Value).toArray } }:Shared)=s3
 have I3':Inv X pins σ (upd H2 s2.heap.objs.size (.lst [])) s3:=by rw [← hs3]; exact I3
 have sz3:s3.heap.objs.size=s2.heap.objs.size+1:=by rw [← hs3]; exact Heap.size_push ..
 have k23:∀ b o,s2.heap.get? b=some o→s3.heap.get? b=some o:=fun b o e=>by rw [← hs3]; exact Heap.get?_push_of_some _ e
 have fsz:∀ b∈fp,b<s3.heap.objs.size:=fun b hb=>by rw [sz3]; exact Nat.lt_succ_of_lt (Xc b hb)
 have f3:∀ b∈fp,FpOk X pins (upd H2 s2.heap.objs.size (.lst [])) b:=fun b hb=>⟨by rw [upd_ne (Nat.ne_of_lt (Xc b hb))]; exact (f2 b hb).1,(f2 b hb).2⟩
 refine wpAny_newFunctionEnv L.cell (by intro y' hy'; simp at hy') (fun h4 hn4 afj=>?_) L.kind
 have k34:∀ b o,s3.heap.get? b=some o→h4.get? b=some o:=fun b o e=>(afj.2 b (Nat.ne_of_lt (Heap.lt_size e))).trans (Heap.get?_push_of_some _ e)
 generalize hX':blk X scope cl s3.heap.objs.size (x::y::fr) s3 (upd H2 s2.heap.objs.size (.lst [])) fp pins=X'
 have I4:Inv X' [] (none::none::frv σ js) (upd H2 s2.heap.objs.size (.lst [])) { s3 with heap:=h4,toks:=s3.toks+([]:List (Str×Value)).length }:=by
  rw [← hX']; exact afC I3' L hc f3 fsz hy hn4 k34
 have st4:tn 0 h4:=T.keep _ _ _ st2 fun b _ o e=>k34 b o (k23 b o e)
 have he':PE X' elt te:=by rw [← hX']; exact he _ _ _ _ _
 have xp:X'.prog=X.prog:=by rw [← hX']; rfl
 have xw:X'.w=X.w:=by rw [← hX']; rfl
 have xK:X'.K=X.K:=by rw [← hX']; rfl
 have xA:X'.A=X.A:=by rw [← hX']; rfl
 have xc:X'.calm=true:=by rw [← hX']; rfl
 have xe:X'.xe=fun _ _=>False:=by rw [← hX']; rfl
 have xn:X'.N=x::y::fr:=by rw [← hX']; rfl
 have xv:X'.env=compEnvC scope cl s3.heap.objs.size X.env:=by rw [← hX']; rfl
 have xpn:X'.pn=X.pn++pins:=by rw [← hX']; rfl
 have xex:X'.ex=fp:=by rw [← hX']; rfl
 have xfs:X'.fs=frs X.stack:=by rw [← hX']; rfl
 have back:∀ {H':Hp}{s':Shared}{h':Heap}{σ':Sg},Inv X' [] σ' H' s'→Heap.SameBut s3.heap.objs.size s'.heap h'→Inv X pins σ H' { s' with heap:=h' }:=fun {H' s' h' σ'} J' hsb=>by
  rw [← hX'] at J'; exact XS I3' J' f3 hsb
 have frame:∀ b∈fp,b ∉ frs X.stack:=fun b hb z=>by
  rcases List.mem_cons.mp (I3'.stkSub b z) with e | e
  ·exact (f3 b hb).2.1 e
  ·exact (f3 b hb).2.2.1 e
 have stat:∀ {H':Hp},(∀ b∈fp,H' b=none)→∀ b∈fp,FpOk X' [] H' b:=fun {H'} hn b hb=>by
  refine⟨hn b hb,?_,?_,.inl (by rw [xex]; exact hb),?_,?_⟩
  ·rw [xv]; exact Nat.ne_of_lt (fsz b hb)
  ·rw [xfs]; exact frame b hb
  ·rw [xv]; exact fun y' c e=>(f3 b hb).2.2.2.2.1 y' c (L.sub y' c e)
  ·rw [xpn,List.append_nil]; exact (f3 b hb).2.2.2.2.2
 have loop:codeAny (model X.prog X.w) X.A (.compLoop (.ListComp elt [⟨.Tuple [.Name x px,.Name y py] kt pt,iter,[],0⟩] scope pos) 0 (.ref it) (.ref s2.heap.objs.size) (compEnvC scope cl s3.heap.objs.size X.env))
   (compPost (model X.prog X.w) X.A X.xe none (EP X pins σ Q) (.ref s2.heap.objs.size) s3.heap.objs.size) { s3 with heap:=h4,toks:=s3.toks+([]:List (Str×Value)).length }:=by
  refine aao (fun n s'=>∃ i ys o o' H',Inv X' [] (o::o'::frv σ js) H' s'∧tn i s'.heap∧(∀ b∈fp,H' b=none)∧W i n ys H') ?_ m0 ⟨0,[],none,none,_,I4,st4,fun b hb=>(f3 b hb).1,w0⟩
  rintro n s5 ⟨i,ys,o,o',H5,I5,st5,fr5,w5⟩
  obtain⟨hD,hstep⟩:=turn i n ys H5 w5
  rcases hstep with⟨stop,qn⟩ | ⟨go,step⟩
  ·have q:=T.done X' xp xw xK xc i [] s5 _ H5 (fun _ _=>False) I5 (stat fr5) st5 stop
   rw [xA] at q
   refine thn q fun r s6 ⟨hr,I6⟩=>?_
   subst hr
   obtain⟨m6,hn6,_⟩:=I6.loc
   rw [xv] at hn6
   exact⟨m6,hn6,fun h' hsb=>⟨.ref s2.heap.objs.size,H5,back I6 hsb,rfl,qn⟩⟩
  ·have q:=T.item X' xp xw xK xc i [] s5 _ H5 (fun _ _=>False) I5 (stat fr5) st5 go
   rw [xA] at q
   refine thn q fun r s6 ⟨u,hr,h6⟩=>?_
   subst hr
   refine thn h6 fun _ s7 ⟨xx,H7,I7,r7,y7,st7,fr7⟩=>?_
   have I7':=I7.pinned (stat fr7) (T.obj _ _ st7)
   obtain⟨ta,x0,y0,rfl,qt,step⟩:=step xx _ y7
   have g0:PG X' (.Name x px) (gName 0):=by
    refine pg_name (i:=0) (x:=x) (by rw [xn]; exact nd2) (by rw [xn]; rfl) ?_ ?_
    ·rw [xv]; exact .inl (lookup_relabel_local L.var)
    ·rw [xv]; exact .inr (lookup_relabel_local L.var)
   have g1:PG X' (.Name y py) (gName 1):=by
    refine pg_name (i:=1) (x:=y) (by rw [xn]; exact nd2) (by rw [xn]; rfl) ?_ ?_
    ·rw [xv]; exact .inl (lookup_relabel_local hy)
    ·rw [xv]; exact .inr (lookup_relabel_local hy)
   have hg:PG X' (.Tuple [.Name x px,.Name y py] kt pt) (afn X'.K 2 (UW (gName 0) (UW (gName 1) afo))):=ac5 xc (Lj g0 (Lj g1 aae))
   have q7:=hg _ s7 _ H7 _ u (fun σ8 H8=>σ8=some x0::some y0::frv σ js∧H8=H7) I7' r7 ⟨ta,[x0,y0],rfl,by rw [xK]; exact qt,rfl,_,_,rfl,_,_,rfl,rfl,rfl,rfl⟩
   rw [xp,xw,xA,xe,xv] at q7
   refine thn q7 fun _ s8 ⟨σ8,H8,I8,e8,e8'⟩=>?_
   subst e8 e8'
   have q8:=he' _ s8 _ _ _ I8 step
   rw [xp,xw,xA,xe,xv] at q8
   refine thn q8 fun yv s9 ⟨yr,H9,I9,r9,d9,z9,m9,hm9,w9⟩=>?_
   have q9:=cV (X:=X') _ s9 _ H9 (.ref s2.heap.objs.size) [yr] (.ref s2.heap.objs.size) [yv] (fun z H'=>H'=upd H9 s2.heap.objs.size (.lst (ys++[yr]))) I9 rfl (.cons r9 .nil) ⟨_,ys,yr,rfl,rfl,d9,z9,rfl⟩
   rw [xp,xw,xA,xe] at q9
   refine thn q9 fun _ s10 ⟨_,H10,I10,_,e10⟩=>?_
   subst e10
   refine⟨m9,hm9,i+1,ys++[yr],some x0,some y0,_,I10.unpinned,T.keep _ _ _ st7 fun b hb ob e=>(I10.pin (b,ob) (List.mem_append_right _ (List.mem_append_right _ (mem_pinsAt hb e)))).1,fun b hb=>?_,w9⟩
   obtain⟨ob,e,_⟩:=T.obj _ _ st7 b hb
   exact (I10.pin (b,ob) (List.mem_append_right _ (List.mem_append_right _ (mem_pinsAt hb e)))).2.1
 exact codeAny_compStart_list loop (T.self _ 0 _ _ _ st4 loop)
end
theorem ac1 {X:Cx}{elts:List Expr}{x1:Nat}{tp p pos:Pos}{a b:Expr}{ta:TA} (hg:Gl X "zip") (hm:X.mg "zip"=none) (ha:QA X [a,b] ta)
  (hs:starEach [a,b] X.env=[(false,eval a X.env),(false,eval b X.env)]:=by rfl) (hs2:starEach [b] X.env=[(false,eval b X.env)]:=by rfl) :
  QI X (.Tuple elts x1 tp) (.Call (.Name "zip" p) [a,b] [] pos) (aiH X.K ta):=⟨ahZ hg hm ha.run hs hs2⟩
theorem ahQ {X:Cx}{scope:Scope}{cl:List (Str×Addr)}{x y:Str}{fr:List Str}{js:List Nat}{elt iter:Expr}{px py pt pos:Pos}{kt:Nat}{wi:TI}{te:TE} (hc:X.calm=true) (L:Jj X scope x fr js cl) (hy:scope.names.lookup y=some .local) (nd2:(x::y::fr).Nodup) (hi:QI X (.Tuple [.Name x px,.Name y py] kt pt) iter wi)
  (he:∀ C s H fp pins,QE (blk X scope cl C (x::y::fr) s H fp pins) elt te)
  (hs:∀ v,foldedSetIterable iter X.env v=pure v:=by intro _; rfl) :
  QE X (.ListComp elt [⟨.Tuple [.Name x px,.Name y py] kt pt,iter,[],0⟩] scope pos) (ahy X.K wi js te):=⟨ah6 hc L hy nd2 hi.run (fun C s H fp pins=>(he C s H fp pins).run) hs⟩
theorem aiC {K:PySem.W.Frag}{a b:Addr}{H1:Hp}{ns ms:List Nat}{σ:Sg}{js:List Nat}{te:TE}{Q:VK} (hn:ns.length≤1000) (he:ns.length=ms.length) (ha:SqT K H1 a (ns.map nv)) (hb:SqT K H1 b (ms.map nv))
  (hte:∀ (i j:Nat) (H':Hp) (R:VK),R (nv (i+j)) H'→te (some (nv i)::some (nv j)::frv σ js) H' R)
  (q:∀ D H',Same H1 H'→H' D=some (.lst ((ns.zipWith (· + ·) ms).map nv))→Q (.ref D) H'):ad3 K (Itz K a b) js te σ Q H1:=by
 intro D hD
 refine⟨fun i m ys H'=>i≤ns.length∧m=ns.length - i∧Same H1 H'∧H' D=some (.lst ys)∧ys=((ns.zipWith (· + ·) ms).take i).map nv,⟨_,Nat.zero_le _,rfl,same_new hD _,upd_same,rfl⟩,?_⟩
 rintro i m ys H' ⟨hi,rfl,S,hl,rfl⟩
 refine⟨hl,?_⟩
 have ha':=dM (.of S) ha
 have hb':=dM (.of S) hb
 have hz:(ns.zipWith (· + ·) ms).length=ns.length:=by rw [List.length_zipWith,he,Nat.min_self]
 by_cases h:i<ns.length
 ·have hm:i<ms.length:=by lia
  have ex:(ns.map nv)[i]?=some (nv ns[i]):=by rw [List.getElem?_map,List.getElem?_eq_getElem h]; rfl
  have ey:(ms.map nv)[i]?=some (nv ms[i]):=by rw [List.getElem?_map,List.getElem?_eq_getElem hm]; rfl
  refine .inr ⟨⟨_,_,_,_,ha',hb',ex,ey⟩,?_⟩
  rintro v H2 ⟨p,x,y,rfl,hp,rfl,hx,hy⟩
  have e1:=(hx _ ha').symm.trans ex
  have e2:=(hy _ hb').symm.trans ey
  cases e1
  cases e2
  refine⟨p,_,_,rfl,SqT.of upd_same,hte _ _ _ _ ?_⟩
  have hne:D≠p:=fun z=>by rw [z,hp] at hl; cases hl
  refine⟨by rw [upd_ne hne]; exact hl,by rw [List.length_map,List.length_take]; exact Nat.lt_of_le_of_lt (Nat.min_le_left _ _) (Nat.lt_of_lt_of_le (Nat.lt_of_lt_of_le h hn) (by decide)),ns.length - (i+1),by lia,by lia,rfl,eG (S.trans (same_new hp _)) hD,upd_same,?_⟩
  have et:(ns.zipWith (· + ·) ms).take (i+1)=(ns.zipWith (· + ·) ms).take i++[ns[i]+ms[i]]:=by
   rw [List.take_succ,List.getElem?_zipWith,List.getElem?_eq_getElem h,List.getElem?_eq_getElem hm]
   rfl
  rw [et,List.map_append]
  rfl
 ·have e:i=ns.length:=by lia
  subst e
  refine .inl ⟨⟨_,ha',by rw [List.length_map]; exact Nat.le_refl _⟩,q D H' S ?_⟩
  rw [hl,List.take_of_length_le (by lia)]
end Sw
namespace Sw
open PySem PySem.Spec PyProof.Rows L2
section
variable {X:Cx}{pins:List (Addr×Obj)}{σ:Sg}{H:Hp}{s:Shared}
end
section
variable {X:Cx}
end
def Z4 (K:PySem.W.Frag):Sp:=fun vs H Q _=>∃ a b ns ms,vs=[.ref a,.ref b]∧SqT K H a (List.map nv ns)∧SqT K H b (List.map nv ms)∧ns.length=15∧ms.length=15∧∀ p H',Same H H'→SqT K H' p ((ns.zipWith (· + ·) ms).map nv)→Q (.ref p) H'
end Sw
namespace Sw
open PySem PySem.Spec PyProof.Rows L2
inductive Dt where
 | i (n:Int) | s (x:Str) | t (ds:List Dt)
namespace Dt
mutual
def deep:Dt→Nat
 | .i _=>0
 | .s _=>0
 | .t ds=>bM ds
def bM:List Dt→Nat
 | []=>0
 | d::ds=>max (deep d+1) (bM ds)
end
mutual
def beq:Dt→Dt→Bool
 | .i n,.i m=>n == m
 | .s x,.s y=>x == y
 | .t ds,.t es=>jq ds es
 | .i _,.s _=>false
 | .i _,.t _=>false
 | .s _,.i _=>false
 | .s _,.t _=>false
 | .t _,.i _=>false
 | .t _,.s _=>false
def jq:List Dt→List Dt→Bool
 | [],[]=>true
 | d::ds,e::es=>beq d e && jq ds es
 | [],_::_=>false
 | _::_,[]=>false
end
mutual
theorem beq_iff:∀ d e:Dt,beq d e=true↔d=e
 | .i n,.i m=>by rw [beq,beq_iff_eq]; simp
 | .s x,.s y=>by rw [beq,beq_iff_eq]; simp
 | .t ds,.t es=>by rw [beq,zc ds es]; simp
 | .i _,.s _=>by rw [beq]; simp
 | .i _,.t _=>by rw [beq]; simp
 | .s _,.i _=>by rw [beq]; simp
 | .s _,.t _=>by rw [beq]; simp
 | .t _,.i _=>by rw [beq]; simp
 | .t _,.s _=>by rw [beq]; simp
theorem zc:∀ ds es:List Dt,jq ds es=true↔ds=es
 | [],[]=>by rw [jq]; simp
 | d::ds,e::es=>by rw [jq,Bool.and_eq_true,beq_iff d e,zc ds es]; simp
 | [],_::_=>by rw [jq]; simp
 | _::_,[]=>by rw [jq]; simp
end
theorem uY (d:Dt):beq d d=true:=(beq_iff d d).mpr rfl
theorem jM {d:Dt}:∀ {ds:List Dt},d∈ds→d.deep+1≤bM ds
 | e::es,h=>by
  rw [bM]
  rcases List.mem_cons.mp h with rfl | h
  ·lia
  ·have:=jM h
   lia
end Dt
mutual
def DR (K:PySem.W.Frag) (H:Hp):Dt→V→Prop
 | .i n,x=>x=.int n
 | .s z,x=>x=.str z
 | .t ds,x=>∃ a xs,x=.ref a∧SqT K H a xs∧DRs K H ds xs
def DRs (K:PySem.W.Frag) (H:Hp):List Dt→List V→Prop
 | [],xs=>xs=[]
 | d::ds,xs=>∃ x r,xs=x::r∧DR K H d x∧DRs K H ds r
end
section
variable {K:PySem.W.Frag}{H H':Hp}
theorem Fq {n:Int}{x:V}:DR K H (.i n) x↔x=.int n:=by rw [DR]
theorem zF {z:Str}{x:V}:DR K H (.s z) x↔x=.str z:=by rw [DR]
theorem uz {ds:List Dt}{x:V}:DR K H (.t ds) x↔∃ a xs,x=.ref a∧SqT K H a xs∧DRs K H ds xs:=by rw [DR]
theorem xU {xs:List V}:DRs K H [] xs↔xs=[]:=by rw [DRs]
theorem lV {d:Dt}{ds:List Dt}{xs:List V}:DRs K H (d::ds) xs↔∃ x r,xs=x::r∧DR K H d x∧DRs K H ds r:=by rw [DRs]
theorem DRs.length:∀ {ds:List Dt}{xs:List V},DRs K H ds xs→xs.length=ds.length
 | [],xs,h=>by rw [xU] at h; rw [h]; rfl
 | d::ds,xs,h=>by
  obtain⟨x,r,rfl,_,h2⟩:=lV.mp h
  rw [List.length_cons,List.length_cons,DRs.length h2]
theorem DRs.get:∀ {ds:List Dt}{xs:List V}{j:Nat}{x:V},DRs K H ds xs→xs[j]?=some x→∃ d,ds[j]?=some d∧DR K H d x
 | [],xs,j,x,h,e=>by rw [xU] at h; rw [h] at e; simp at e
 | d::ds,xs,0,x,h,e=>by
  obtain⟨y,r,rfl,h1,_⟩:=lV.mp h
  cases e
  exact⟨d,rfl,h1⟩
 | d::ds,xs,j+1,x,h,e=>by
  obtain⟨y,r,rfl,_,h2⟩:=lV.mp h
  obtain⟨d',hd',h'⟩:=DRs.get (j:=j) h2 (by simpa using e)
  exact⟨d',by simpa using hd',h'⟩
mutual
def ofT:T→Dt
 | .node ts=>.t (Hi ts)
def Hi:List T→List Dt
 | []=>[]
 | t::ts=>ofT t::Hi ts
end
mutual
theorem TR.dr:∀ {t:T}{x:V},TR K H t x→DR K H (ofT t) x
 | .node ts,x,h=>by
  obtain⟨a,xs,e,h1,h2⟩:=cN.mp h
  rw [ofT]
  exact uz.mpr ⟨a,xs,e,h1,TRs.dr h2⟩
theorem TRs.dr:∀ {ts:List T}{xs:List V},TRs K H ts xs→DRs K H (Hi ts) xs
 | [],xs,h=>by rw [Hi]; exact xU.mpr (bJ.mp h)
 | t::ts,xs,h=>by
  obtain⟨x,r,e,h1,h2⟩:=cH.mp h
  rw [Hi]
  exact lV.mpr ⟨x,r,e,TR.dr h1,TRs.dr h2⟩
end
mutual
theorem Wh:∀ t:T,(ofT t).deep=t.deep
 | .node ts=>by rw [ofT,Dt.deep,T.aO,TX ts]
theorem TX:∀ ts:List T,Dt.bM (Hi ts)=T.bM ts
 | []=>by rw [Hi,Dt.bM,T.aY]
 | t::ts=>by rw [Hi,Dt.bM,T.aK,Wh t,TX ts]
end
theorem DR2 {a:Addr}{d e:Dt}{x y:V} (h:SqT K H a [x,y]) (h1:DR K H d x) (h2:DR K H e y):DR K H (.t [d,e]) (.ref a) :=
 uz.mpr ⟨a,_,rfl,h,lV.mpr ⟨_,_,rfl,h1,lV.mpr ⟨_,_,rfl,h2,xU.mpr rfl⟩⟩⟩
end
section
variable {X:Cx}{pins:List (Addr×Obj)}{σ:Sg}{H:Hp}{s:Shared}
mutual
theorem adG (I:Inv X pins σ H s):∀ (d e:Dt) (x:V),DR X.K H d x→DR X.K H e x→d=e
 | .i n,.i m,x,h,g=>by rw [Fq] at h g; rw [h] at g; cases g; rfl
 | .i n,.s m,x,h,g=>by rw [Fq] at h; rw [zF] at g; rw [h] at g; cases g
 | .i n,.t m,x,h,g=>by rw [Fq] at h; obtain⟨a,xs,e,_⟩:=uz.mp g; rw [h] at e; cases e
 | .s n,.i m,x,h,g=>by rw [zF] at h; rw [Fq] at g; rw [h] at g; cases g
 | .s n,.s m,x,h,g=>by rw [zF] at h g; rw [h] at g; cases g; rfl
 | .s n,.t m,x,h,g=>by rw [zF] at h; obtain⟨a,xs,e,_⟩:=uz.mp g; rw [h] at e; cases e
 | .t n,.i m,x,h,g=>by rw [Fq] at g; obtain⟨a,xs,e,_⟩:=uz.mp h; rw [g] at e; cases e
 | .t n,.s m,x,h,g=>by rw [zF] at g; obtain⟨a,xs,e,_⟩:=uz.mp h; rw [g] at e; cases e
 | .t ds,.t es,x,h,g=>by
  obtain⟨a,xs,rfl,h1,h2⟩:=uz.mp h
  obtain⟨b,ys,e,g1,g2⟩:=uz.mp g
  cases e
  have:=I.sI h1 g1
  subst this
  rw [aat I ds es xs h2 g2]
theorem aat (I:Inv X pins σ H s):∀ (ds es:List Dt) (xs:List V),DRs X.K H ds xs→DRs X.K H es xs→ds=es
 | [],[],_,_,_=>rfl
 | [],e::es,xs,h,g=>by
  rw [xU] at h
  obtain⟨x,r,z,_⟩:=lV.mp g
  rw [h] at z; cases z
 | d::ds,[],xs,h,g=>by
  rw [xU] at g
  obtain⟨x,r,z,_⟩:=lV.mp h
  rw [g] at z; cases z
 | d::ds,e::es,xs,h,g=>by
  obtain⟨x,r,rfl,h1,h2⟩:=lV.mp h
  obtain⟨y,q,z,g1,g2⟩:=lV.mp g
  cases z
  rw [adG I d e x h1 g1,aat I ds es r h2 g2]
end
def pF (ds es:List Dt) (j:Nat):Bool:=match ds[j]?,es[j]? with
 | some d,some e=>Dt.beq d e
 | _,_=>true
theorem T6:∀ ds es:List Dt,((List.range (min ds.length es.length)).all (pF ds es) && ds.length == es.length)=Dt.jq ds es:=by
 intro ds
 induction ds with
 | nil =>
  intro es
  cases es with
  | nil=>rfl
  | cons e es=>rw [Dt.jq]; simp
 | cons d ds ih =>
  intro es
  cases es with
  | nil=>rw [Dt.jq]; simp
  | cons e es =>
   have e1:min (d::ds).length (e::es).length=min ds.length es.length+1:=by simp only [List.length_cons]; lia
   rw [e1,List.range_succ_eq_map,List.all_cons,List.all_map]
   have e2:(pF (d::ds) (e::es)∘Nat.succ)=pF ds es:=by
    funext j
    simp [pF]
   have e3:pF (d::ds) (e::es) 0=Dt.beq d e:=rfl
   have e4:((d::ds).length == (e::es).length)=(ds.length == es.length):=by simp
   rw [e2,e3,e4,Bool.and_assoc,ih,Dt.jq]
theorem aj7 (I:Inv X pins σ H s):∀ (n:Nat) (d e:Dt) (A:Around) (x y:V) (u v:Value),d.deep<n→DR X.K H d x→DR X.K H e y→RelV x u→RelV y v→A.units+n<cLine→SeqAt.EqAt A s u v (Dt.beq d e):=by
 intro n
 induction n with
 | zero=>intro d e A x y u v hd; lia
 | succ n ih =>
  intro d e A x y u v hd q r ru rv hu
  have hu0:A.units<cLine:=by lia
  cases d with
  | i n1 =>
   rw [Fq] at q; subst q; obtain⟨t1,rfl⟩:=ru
   cases e with
   | i m1=>rw [Fq] at r; subst r; obtain⟨t2,rfl⟩:=rv; rw [Dt.beq]; exact SeqAt.EqAt.int_int _ _ _ _
   | s m1=>rw [zF] at r; subst r; obtain⟨t2,rfl⟩:=rv; rw [Dt.beq]; exact SeqAt.EqAt.int_str _ _ _ _
   | t es =>
    obtain⟨b,ys,rfl,r1,r2⟩:=uz.mp r
    cases rv
    obtain⟨jts,_,ht2,_⟩:=I.tuple r1
    rw [Dt.beq]; exact SeqAt.EqAt.int_tuple _ _ ht2 hu0
  | s x1 =>
   rw [zF] at q; subst q; obtain⟨t1,rfl⟩:=ru
   cases e with
   | i m1=>rw [Fq] at r; subst r; obtain⟨t2,rfl⟩:=rv; rw [Dt.beq]; exact SeqAt.EqAt.str_int _ _ _ _
   | s m1=>rw [zF] at r; subst r; obtain⟨t2,rfl⟩:=rv; rw [Dt.beq]; exact SeqAt.EqAt.str_str _ _ _ _
   | t es =>
    obtain⟨b,ys,rfl,r1,r2⟩:=uz.mp r
    cases rv
    obtain⟨jts,_,ht2,_⟩:=I.tuple r1
    rw [Dt.beq]; exact SeqAt.EqAt.str_tuple _ _ ht2 hu0
  | t ds =>
   obtain⟨a,xs,rfl,q1,q2⟩:=uz.mp q
   cases ru
   obtain⟨its,rvs,ht,_⟩:=I.tuple q1
   cases e with
   | i m1=>rw [Fq] at r; subst r; obtain⟨t2,rfl⟩:=rv; rw [Dt.beq]; exact SeqAt.EqAt.tuple_int _ _ ht hu0
   | s m1=>rw [zF] at r; subst r; obtain⟨t2,rfl⟩:=rv; rw [Dt.beq]; exact SeqAt.EqAt.tuple_str _ _ ht hu0
   | t es =>
    obtain⟨b,ys,rfl,r1,r2⟩:=uz.mp r
    cases rv
    obtain⟨jts,ahG,ht2,_⟩:=I.tuple r1
    by_cases hne:a=b
    ·subst hne
     have et:Dt.t ds=Dt.t es:=adG I _ _ _ q r
     rw [et,Dt.uY]
     exact SeqAt.EqAt.same _
    ·refine SeqAt.EqAt.of_refs hne ?_
     rw [Dt.deep] at hd
     have l1:=rvs.length
     have l2:=ahG.length
     have l3:=q2.length
     have l4:=r2.length
     have key:=SeqAt.RcAt.tuples (A:=A) (e:=pF ds es) ht ht2 (by lia) (fun j j1 j2=>?_)
     ·have ev:((List.range (min its.toArray.size jts.toArray.size)).all (pF ds es) && its.toArray.size == jts.toArray.size)=Dt.beq (.t ds) (.t es):=by
       rw [List.size_toArray,List.size_toArray,← l1,← l2,l3,l4,Dt.beq,← T6]
      rw [ev] at key
      exact key
     ·have j1':j<xs.length:=by rw [l1]; simpa using j1
      have j2':j<ys.length:=by rw [l2]; simpa using j2
      obtain⟨u1,hu1,ru1⟩:=rvs.get (List.getElem?_eq_getElem j1')
      obtain⟨u2,hu2,ru2⟩:=ahG.get (List.getElem?_eq_getElem j2')
      obtain⟨d1,hd1,dr1⟩:=q2.get (List.getElem?_eq_getElem j1')
      obtain⟨d2,hd2,dr2⟩:=r2.get (List.getElem?_eq_getElem j2')
      have ee:pF ds es j=Dt.beq d1 d2:=by unfold pF; rw [hd1,hd2]
      have g1:its.toArray[j]=u1:=by
       obtain⟨_,e⟩:=List.getElem?_eq_some_iff.mp hu1
       simpa using e
      have g2:jts.toArray[j]=u2:=by
       obtain⟨_,e⟩:=List.getElem?_eq_some_iff.mp hu2
       simpa using e
      rw [ee,g1,g2]
      have hm:=Dt.jM (List.mem_of_getElem? hd1)
      exact ih d1 d2 A.in1 _ _ u1 u2 (by lia) dr1 dr2 ru1 ru2 (by rw [Around.in1_units]; lia)
end
section
variable {X:Cx}{pins:List (Addr×Obj)}{σ:Sg}{H:Hp}{s:Shared}
theorem afh (I:Inv X pins σ H s) {n:Nat}{A:Around}{ds es:List Dt}{xs ys:List V}{its jts:List Value} (q2:DRs X.K H ds xs) (r2:DRs X.K H es ys) (rv:Vals xs its) (rv2:Vals ys jts) (hd:Dt.bM ds≤n) (hu:A.units+n<cLine)
  (j:Nat) (j1:j<its.toArray.size) (j2:j<jts.toArray.size):SeqAt.EqAt A s its.toArray[j] jts.toArray[j] (pF ds es j):=by
 have l1:=rv.length
 have l2:=rv2.length
 have j1':j<xs.length:=by rw [l1]; simpa using j1
 have j2':j<ys.length:=by rw [l2]; simpa using j2
 obtain⟨u1,hu1,ru1⟩:=rv.get (List.getElem?_eq_getElem j1')
 obtain⟨u2,hu2,ru2⟩:=rv2.get (List.getElem?_eq_getElem j2')
 obtain⟨d1,hd1,dr1⟩:=q2.get (List.getElem?_eq_getElem j1')
 obtain⟨d2,hd2,dr2⟩:=r2.get (List.getElem?_eq_getElem j2')
 have ee:pF ds es j=Dt.beq d1 d2:=by unfold pF; rw [hd1,hd2]
 have g1:its.toArray[j]=u1:=by
  obtain⟨_,e⟩:=List.getElem?_eq_some_iff.mp hu1
  simpa using e
 have g2:jts.toArray[j]=u2:=by
  obtain⟨_,e⟩:=List.getElem?_eq_some_iff.mp hu2
  simpa using e
 rw [ee,g1,g2]
 have hm:=Dt.jM (List.mem_of_getElem? hd1)
 exact aj7 I n d1 d2 A _ _ u1 u2 (by lia) dr1 dr2 ru1 ru2 hu
end
section
variable {X:Cx}
def alu (K:PySem.W.Frag) (n:Nat):R2:=fun x y H Q=>∃ ds es,DR K H (.t ds) x∧DR K H (.t es) y∧(Dt.t ds).deep<n∧Q (.bl (Dt.beq (.t ds) (.t es))) H
theorem aia {n:Nat} (hu:X.A.units+n<cLine):OpR X (compareOp .Eq) (alu X.K n):=by
 intro pins s σ H x y v u Q I rx ry h
 obtain⟨ds,es,h1,h2,hd,q⟩:=h
 obtain⟨a,xs,rfl,q1,q2⟩:=uz.mp h1
 obtain⟨b,ys,rfl,r1,r2⟩:=uz.mp h2
 cases rx
 cases ry
 obtain⟨its,rv,ht,_⟩:=I.tuple q1
 obtain⟨jts,rv2,ht2,_⟩:=I.tuple r1
 rw [Dt.deep] at hd
 have key:=SeqAt.RcAt.tuples (A:=X.A) (e:=pF ds es) ht ht2 (by lia) (afh I q2 r2 rv rv2 (n:=n - 1) (by lia) (by rw [Around.in1_units]; lia))
 have ev:((List.range (min its.toArray.size jts.toArray.size)).all (pF ds es) && its.toArray.size == jts.toArray.size)=Dt.beq (.t ds) (.t es):=by
  rw [List.size_toArray,List.size_toArray,← rv.length,← rv2.length,q2.length,r2.length,Dt.beq,← T6]
 rw [ev] at key
 exact key _ _ _ _ ⟨.bl _,H,I,rfl,q⟩
end
end Sw
namespace Sw
open PySem PySem.Spec PyProof.Rows L2
def gW:List Nat:=List.replicate 15 0
def eN (a b:List Nat):List Nat:=a.zipWith (· + ·) b
theorem u9 {a b:List Nat} (h:a.length=15) (g:b.length=15):(eN a b).length=15:=by unfold eN; rw [List.length_zipWith,h,g]; rfl
theorem ad2 {b:List Nat} (g:b.length=15):eN gW b=b:=by
 unfold eN gW
 refine List.ext_getElem? fun i=>?_
 rw [List.getElem?_zipWith,List.getElem?_replicate]
 by_cases h:i<15
 ·rw [if_pos h,List.getElem?_eq_getElem (by lia)]
  show some (0+_)=some _
  rw [Nat.zero_add]
 ·rw [if_neg h,List.getElem?_eq_none (by lia)]
theorem ab_ {b:List Nat} (g:b.length=15):eN b gW=b:=by
 unfold eN gW
 refine List.ext_getElem? fun i=>?_
 rw [List.getElem?_zipWith,List.getElem?_replicate]
 by_cases h:i<15
 ·rw [if_pos h,List.getElem?_eq_getElem (by lia)]
  show some (_+0)=some _
  rw [Nat.add_zero]
 ·rw [if_neg h,List.getElem?_eq_none (by lia)]
theorem acd (a b c:List Nat):eN (eN a b) c=eN a (eN b c):=by
 unfold eN
 refine List.ext_getElem? fun i=>?_
 simp only [List.getElem?_zipWith]
 cases a[i]? <;> cases b[i]? <;> cases c[i]? <;> simp [Nat.add_assoc]
def goT (b:Nat) (tx s:List T):List T×List T×List Nat :=
 if h:tx=[]∨b<bF tx s then (tx,s,gW)
 else ((goT (b - bF tx s) (onward tx s).1 (onward tx s).2.1).1,(goT (b - bF tx s) (onward tx s).1 (onward tx s).2.1).2.1,eN (mL tx s) (goT (b - bF tx s) (onward tx s).1 (onward tx s).2.1).2.2)
termination_by b
decreasing_by
 all_goals
  have:=qw tx s
  have:¬ b<bF tx s:=fun z=>h (.inr z)
  lia
def spT (b:Nat) (tx s:List T):Nat :=
 if h:tx=[]∨b<bF tx s then 0
 else bF tx s+spT (b - bF tx s) (onward tx s).1 (onward tx s).2.1
termination_by b
decreasing_by
 have:=qw tx s
 have:¬ b<bF tx s:=fun z=>h (.inr z)
 lia
section
variable {b:Nat}{tx s:List T}
theorem mH (h:tx=[]∨b<bF tx s):goT b tx s=(tx,s,gW):=by rw [goT,dif_pos h]
theorem Bu (h:tx=[]∨b<bF tx s):spT b tx s=0:=by rw [spT,dif_pos h]
theorem mJ (h1:tx≠[]) (h2:bF tx s≤b):goT b tx s=((goT (b - bF tx s) (onward tx s).1 (onward tx s).2.1).1,(goT (b - bF tx s) (onward tx s).1 (onward tx s).2.1).2.1,eN (mL tx s) (goT (b - bF tx s) (onward tx s).1 (onward tx s).2.1).2.2):=by
 rw [goT,dif_neg (fun z=>z.elim h1 (by lia))]
theorem Bv (h1:tx≠[]) (h2:bF tx s≤b):spT b tx s=bF tx s+spT (b - bF tx s) (onward tx s).1 (onward tx s).2.1:=by
 rw [spT,dif_neg (fun z=>z.elim h1 (by lia))]
end
theorem uH {P:Nat→List T→List T→Prop} (h0:∀ b tx s,(tx=[]∨b<bF tx s)→P b tx s) (h1:∀ b tx s,tx≠[]→bF tx s≤b→P (b - bF tx s) (onward tx s).1 (onward tx s).2.1→P b tx s):∀ b tx s,P b tx s:=by
 intro b
 induction b using Nat.strongRecOn with
 | ind b ih =>
  intro tx s
  by_cases h:tx=[]∨b<bF tx s
  ·exact h0 b tx s h
  ·have hc:=qw tx s
   have h2:bF tx s≤b:=by
    have:¬ b<bF tx s:=fun z=>h (.inr z)
    lia
   exact h1 b tx s (fun z=>h (.inl z)) h2 (ih _ (by lia) _ _)
theorem rC:∀ b tx s,(goT b tx s).2.2.length=15:=by
 refine uH (fun b tx s h=>?_) (fun b tx s h1 h2 ih=>?_)
 ·rw [mH h]; rfl
 ·rw [mJ h1 h2]; exact u9 (HJ _ _) ih
theorem abQ:nT gW=0:=by decide
theorem abR {ns ms:List Nat} (h1:ns.length=15) (h2:ms.length=15):nT (eN ns ms)=nT ns+nT ms:=by
 unfold eN
 match ns,h1,ms,h2 with
 | [a0,a1,a2,a3,a4,a5,a6,a7,a8,a9,a10,a11,a12,a13,a14],_,[c0,c1,c2,c3,c4,c5,c6,c7,c8,c9,c10,c11,c12,c13,c14],_ =>
  simp only [nT,List.zipWith_cons_cons,List.zipWith_nil_left,List.take_succ_cons,List.take_zero,List.map_cons,List.map_nil,List.sum_cons,List.sum_nil,List.getD_cons_succ,List.getD_cons_zero,Int.natCast_add]
  lia
theorem aap:∀ b tx s,nT (goT b tx s).2.2=(spT b tx s:Nat):=by
 refine uH (fun b tx s h=>?_) (fun b tx s h1 h2 ih=>?_)
 ·rw [mH h,Bu h]; exact abQ
 ·rw [mJ h1 h2,Bv h1 h2]
  show nT (eN _ _)=_
  rw [abR (HJ _ _) (rC _ _ _),ag0,ih]
  lia
theorem afT:∀ b tx s,spT b tx s≤b:=by
 refine uH (fun b tx s h=>?_) (fun b tx s h1 h2 ih=>?_)
 ·rw [Bu h]; lia
 ·rw [Bv h1 h2]; lia
inductive Sane:Nat→List T→List T→Prop
 | mk {b:Nat}{tx s:List T} (h1:BX tx) (h2:B 390 8000000 (.node s)) (h3:tx≠[]→bF tx s≤b→Sane (b - bF tx s) (onward tx s).1 (onward tx s).2.1):Sane b tx s
theorem Sane.bx {b:Nat}{tx s:List T} (h:Sane b tx s):BX tx:=by cases h; assumption
theorem Sane.bs {b:Nat}{tx s:List T} (h:Sane b tx s):B 390 8000000 (.node s):=by cases h; assumption
theorem Sane.next {b:Nat}{tx s:List T} (h:Sane b tx s) (h1:tx≠[]) (h2:bF tx s≤b):Sane (b - bF tx s) (onward tx s).1 (onward tx s).2.1:=by
 cases h with
 | mk _ _ h3=>exact h3 h1 h2
theorem Sane.last:∀ b tx s,Sane b tx s→BX (goT b tx s).1∧B 390 8000000 (.node (goT b tx s).2.1):=by
 refine uH (fun b tx s h g=>?_) (fun b tx s h1 h2 ih g=>?_)
 ·rw [mH h]; exact⟨g.bx,g.bs⟩
 ·rw [mJ h1 h2]; exact ih (g.next h1 h2)
def wU:Str:=PySem.Str.ofString "told"
def V6:Str:=PySem.Str.ofString "out"
def sZ (b:Nat) (tx s:List T):Str:=if (goT b tx s).1=[] then wU else V6
def zH (b:Nat) (tx s:List T):T:=if (goT b tx s).1=[] then ats (goT b tx s).2.1 0 else leaf
def aa2 (tx s:List T):T:=.node [.node tx,.node s]
def QH (K:PySem.W.Frag):Sp:=fun vs H Q _=>∃ x t y u,vs=[x,y]∧TR K H t x∧TR K H u y∧∀ z H',Same H H'→TR K H' (aa2 [t] [u]) z→Q z H'
def aaQ (K:PySem.W.Frag):Sp:=fun vs H Q _=>∃ (x y:V) (t u:T) (b:Nat),vs=[x,y,.int (b:Int)]∧TR K H t x∧TR K H u y∧Sane b [t] [u] ∧
 ∀ p v H',Same H H'→SqT K H' p [.str (sZ b [t] [u]),v,nv (spT b [t] [u])]→TR K H' (zH b [t] [u]) v→Q (.ref p) H'
def Tz (K:PySem.W.Frag):Sp:=fun vs H Q _=>∃ (x y:V) (t u:T) (b:Nat),vs=[x,y,.int (b:Int)]∧TR K H t x∧TR K H u y∧Sane b [t] [u] ∧
 ∀ c H',Same H H'→SqT K H' c ((goT b [t] [u]).2.2.map nv)→Q (.ref c) H'
end Sw
namespace Sw
open PySem PySem.Spec PyProof.Rows L2
section
variable (p:List T) (d x:T) (Y:List T)
end
end Sw
namespace PySem
open Builtin Builtin.Str
section
variable {prog:Program}{w:World}{A:Around}{E:Value→Shared→Prop}{s:Shared}{x:Str}{t:Tok}{Q:Value→Shared→Prop}
end
end PySem
namespace Sw
open PySem PySem.Spec PyProof.Rows L2
section
variable {X:Cx}
end
open SeqAt in
theorem Yu (l:Addr) (items:Array Value) (n:Nat) (dd:Option Addr) (sl:Array (Option Value)) (x:Value) (e:Value→Bool) (j:Nat) (hj:j<items.size) (hit:e items[j]=true) (hno:∀ m (hm:m<items.size),m<j→e items[m]=false) :
  Meets (Builtin.«tuple.index» ⟨[.ref l,x],[]⟩) (fun A R u=>u.heap.get? l=some { cls:=.type "tuple",dict:=dd,data:=.seq items n,slots:=sl }∧(∀ y,y∈items→EqAt A.in1 u y x (e y))∧R (.ok (.ret (.int j u.toks))) { u with toks:=u.toks+1 }) :=
 .of_wp fun prog w A R u h=>by
  obtain⟨hp,g,d,tk,os⟩:=u; obtain⟨hl,he,h⟩:=h
  unfold Builtin.«tuple.index»
  simp only [Std.Legacy.Range.forIn_eq_forIn_range']
  wp_walk using wpAny_loadPart' hl,wpAny_forIn_list _ (fun rest b s'=>b.1=none∧s'=⟨hp,g,d,tk,os⟩∧∃ i,i≤j∧rest=(List.range' 0 items.size).drop i) _
  case turn =>
   rintro i rest b s' ⟨hb,rfl,m,hm,hr⟩
   have hlt:m<items.size:=by
    have:=congrArg List.length hr
    simp at this
    lia
   have hr2:(List.range' 0 items.size).drop m=m::(List.range' 0 items.size).drop (m+1):=by
    rw [List.drop_eq_getElem_cons (by simpa using hlt)]
    simp
   rw [hr2] at hr
   obtain⟨rfl,rfl⟩:=List.cons.inj hr
   have e1:items[i]?=some items[i]:=Array.getElem?_eq_getElem hlt
   rw [e1]
   refine wpAny_bind (he _ (Array.getElem_mem hlt) prog w _ _ ?_)
   by_cases hmj:i=j
   ·subst hmj
    rw [hit]
    wp_walk
    exact⟨_,rfl,h⟩
   ·rw [hno i hlt (by lia)]
    wp_walk
    exact⟨rfl,rfl,i+1,by lia,rfl⟩
  case fin =>
   rintro ⟨b1,b2⟩ s' ⟨hb,rfl,m,hm,hr⟩
   have:=congrArg List.length hr
   simp at this
   lia
  case h =>
   refine⟨rfl,rfl,0,Nat.zero_le _,?_⟩
   simp
end Sw
namespace Sw
abbrev Std:=List T×List T
def nx (st:Std):Std:=((onward st.1 st.2).1,(onward st.1 st.2).2.1)
def uh (st:Std):Nat:=match (ats st.1 0).kids with
 | []=>1
 | w::_=>if aJ w=2 then (ats st.2 0).parts else 1
abbrev W (n:Nat):T:=aU n []
abbrev nJ (yes no:List T):T:=aU 7 (.node yes::no)
def Ho (st:Std):Prop:=aJ (ats (ats st.1 0).kids 0)≠8
inductive Wlk:Std→Nat→Nat→Std→Prop where
 | nil {st:Std}:Wlk st 0 0 st
 | cons {st e:Std}{n c:Nat}:st.1≠[]→Ho st→Wlk (nx st) n c e→Wlk st (n+1) (c+uh st) e
theorem Wlk.to {st e:Std}{n c n' c':Nat} (h:Wlk st n c e) (e1:n=n') (e2:c=c'):Wlk st n' c' e:=by subst e1; subst e2; exact h
theorem Wlk.one {st e u:Std}{n c k:Nat} (h1:st.1≠[]) (h2:Ho st) (h3:nx st=u) (h4:uh st=k) (g:Wlk u n c e):Wlk st (n+1) (c+k) e:=by
 subst h3; subst h4; exact .cons h1 h2 g
section
variable {t cs s:List T}{e:Std}{n c:Nat}
theorem qJ {w:T}{k:Nat} (h:aJ w=k) (hk:k≠8):Ho (.node (w::t)::cs,s):=by
 show aJ w≠8
 rw [h]; exact hk
theorem h_ {w:T} (h:aJ w≤6):nx (.node (w::t)::cs,s)=(.node t::cs,behind w s):=by
 unfold nx onward
 show (_,_)=_
 simp only [ats,T.kids,List.getElem?_cons_zero,Option.getD_some,List.drop_succ_cons,List.drop_zero]
 rw [if_neg (by lia),if_neg (by lia),if_neg (by lia)]
theorem lE {w:T} (h:aJ w≠2):uh (.node (w::t)::cs,s)=1:=by
 show (if aJ w=2 then _ else 1)=1
 rw [if_neg h]
theorem vq {us:List T} (g:Wlk (.node t::cs,.node us::s) n c e):Wlk (.node (aU 0 us::t)::cs,s) (n+1) (c+1) e :=
 .one (by simp) (qJ (k:=0) rfl (by decide)) (by rw [h_ (by show 0≤6; decide),Nz rfl]; rfl) (lE (by show 0≠2; decide)) g
theorem qU {a:T} (g:Wlk (.node t::cs,s) n c e):Wlk (.node (W 1::t)::cs,a::s) (n+1) (c+1) e :=
 .one (by simp) (qJ (k:=1) rfl (by decide)) (by rw [h_ (by decide),ab2 rfl,dD (by simp)]; rfl) (lE (by decide)) g
theorem Od {a:T} (g:Wlk (.node t::cs,a::a::s) n c e):Wlk (.node (W 2::t)::cs,a::s) (n+1) (c+a.parts) e :=
 .one (by simp) (qJ (k:=2) rfl (by decide)) (by rw [h_ (by decide),ab1 rfl,dD (by simp)]; rfl) rfl g
theorem cX {a b:T} (g:Wlk (.node t::cs,b::a::s) n c e):Wlk (.node (W 3::t)::cs,a::b::s) (n+1) (c+1) e :=
 .one (by simp) (qJ (k:=3) rfl (by decide)) (by rw [h_ (by decide),ab0 rfl,dD (by simp)]; rfl) (lE (by decide)) g
theorem bZ {a:T}{b:List T} (g:Wlk (.node t::cs,.node (a::b)::s) n c e):Wlk (.node (W 4::t)::cs,a::.node b::s) (n+1) (c+1) e :=
 .one (by simp) (qJ (k:=4) rfl (by decide)) (by rw [h_ (by decide),abZ rfl,dD (by simp)]; rfl) (lE (by decide)) g
theorem oA {a:List T} (g:Wlk (.node t::cs,ats a 0::.node (a.drop 1)::s) n c e):Wlk (.node (W 5::t)::cs,.node a::s) (n+1) (c+1) e :=
 .one (by simp) (qJ (k:=5) rfl (by decide)) (by rw [h_ (by decide),abY rfl,dD (by simp)]; rfl) (lE (by decide)) g
theorem oR {a:T}{b:List T} (g:Wlk (.node t::cs,a::.node b::s) n c e):Wlk (.node (W 5::t)::cs,.node (a::b)::s) (n+1) (c+1) e:=oA g
theorem eZ {a b d:T} (g:Wlk (.node t::cs,d::a::b::s) n c e):Wlk (.node (W 6::t)::cs,a::b::d::s) (n+1) (c+1) e :=
 .one (by simp) (qJ (k:=6) rfl (by decide)) (by rw [h_ (by decide),abX rfl,dD (by simp)]; rfl) (lE (by decide)) g
theorem dJ (g:Wlk (cs,s) n c e):Wlk (.node []::cs,s) (n+1) (c+1) e :=
 .one (by simp) (by show 0≠8; decide) rfl rfl g
theorem Jr {yes no:List T}{a:T} (ha:a.kids≠[]) (g:Wlk (.node yes::.node t::cs,a::s) n c e):Wlk (.node (nJ yes no::t)::cs,a::s) (n+1) (c+1) e :=
 .one (by simp) (qJ (k:=7) rfl (by decide)) (by
  unfold nx onward
  simp only [ats,T.kids,List.getElem?_cons_zero,Option.getD_some,List.drop_succ_cons,List.drop_zero]
  rw [if_pos (by rfl),if_pos (by exact ha),pB (by show 6<7; decide),dD (by show 1≤_; simp)]; rfl) (lE (by show 7≠2; decide)) g
theorem CQ {yes no:List T}{a:T} (ha:a.kids=[]) (g:Wlk (.node no::.node t::cs,a::s) n c e):Wlk (.node (nJ yes no::t)::cs,a::s) (n+1) (c+1) e :=
 .one (by simp) (qJ (k:=7) rfl (by decide)) (by
  unfold nx onward
  simp only [ats,T.kids,List.getElem?_cons_zero,Option.getD_some,List.drop_succ_cons,List.drop_zero]
  rw [if_pos (by rfl),if_neg (by exact fun z=>z ha),pB (by show 6<7; decide),dD (by show 1≤_; simp)]; rfl) (lE (by show 7≠2; decide)) g
end
def aaL (t:List T):List T:=W 6::W 6::W 4::W 6::W 6::W 4::W 3::t
def Qz (t:List T):List T:=W 1::W 4::W 3::W 5::t
def Qx:Nat→List T
 | 1=>[W 1]
 | 2=>[W 2,W 6,W 3,W 4,W 3,W 4]
 | 3=>[W 3,W 5,W 3,W 6,W 4,W 3,W 4]
 | 4=>[W 3,W 5,W 6,W 4,W 4]
 | 5=>[W 5,W 6,W 6,W 4,W 3,W 4]
 | 6=>[W 3,W 5,W 3,W 5,W 3,W 6,W 4,W 6,W 4,W 3,W 4]
 | _=>[]
def Qy (t:List T):List T:=W 6::W 6::W 4::W 6::W 5::t
def akD:List T:=[W 4,W 3,W 6,W 5,W 3,W 1,W 4]
def tNo:List T:=[W 4,W 3,W 6,W 5,W 1,W 4]
def aaM:List T:=[W 4,W 3,W 6,W 5,W 3,W 2,W 6,W 4,W 6,W 5,W 6,W 4,W 4,W 3,W 4]
def aaK:List T:=[W 4,W 6,W 1,W 3]
def Gu:Nat→List T→List T
 | 0,t=>t
 | n+1,t=>W 1::Gu n t
def pC (k:Nat):List T:=Gu (k+1) (if k=0 then aaL [] else if k=7 then Qy [nJ akD tNo] else Qz (Qx k++[W 3]))
def Ju:Nat→List T→List T
 | 0,t=>t
 | n+1,t=>W 3::W 4::Ju n t
def vM:List T:=Ju 8 (W 4::Qy [nJ aaM aaK])
def Gp:List T:=Gu 10 [W 4]
def cF:Nat→List T
 | 0=>[nJ Gp vM]
 | d+1=>[nJ (W 5::W 3::cF d) (pC (7 - d))]
def eY:List T:=[W 5,nJ (W 5::W 5::cF 8) [W 1]]
def bK:List T:=[aU 8 eY,W 1,W 5,W 3,W 1]
def cT:List T:=W 5::aU 0 []::W 6::W 4::aU 0 []::W 6::W 4::bK
section
variable {t cs s us:List T}{e:Std}{n c:Nat}
theorem Js {as:List T} (g:Wlk (.node t::cs,s) n c e):∀ {k:Nat},as.length=k→Wlk (.node (Gu k t)::cs,as++s) (n+k) (c+k) e:=by
 intro k hk
 induction as generalizing k with
 | nil=>cases hk; exact g
 | cons a as ih=>cases hk; exact qU (ih rfl)
theorem ahr {l:T}{w:T}{ts st:List T} (g:Wlk (.node t::cs,.node (w::ts)::.node (l::st)::us) n c e):Wlk (.node (aaL t)::cs,l::w::.node ts::.node st::us) (n+7) (c+7) e :=
 eZ (eZ (bZ (eZ (eZ (bZ (cX g))))))
theorem aep {l w:T}{ts st:List T} (g:Wlk (.node t::cs,ats st 0::.node (st.drop 1)::.node (w::ts)::us) n c e):Wlk (.node (Qz t)::cs,l::w::.node ts::.node st::us) (n+4) (c+4) e :=
 qU (bZ (cX (oA g)))
theorem w_top {l w:T}{ts st:List T} (g:Wlk (.node t::cs,ats st 0::.node (st.drop 1)::.node (w::ts)::l::us) n c e):Wlk (.node (Qy t)::cs,l::w::.node ts::.node st::us) (n+5) (c+5) e :=
 eZ (eZ (bZ (eZ (oA g))))
def mO:Nat→List T→List T
 | 1,s=>s.drop 1
 | 2,s=>ats s 0::ats s 0::s.drop 1
 | 3,s=>ats (s.drop 1) 0::ats s 0::s.drop 2
 | 4,s=>.node (ats s 0::(ats (s.drop 1) 0).kids)::s.drop 2
 | 5,s=>ats (ats s 0).kids 0::.node ((ats s 0).kids.drop 1)::s.drop 1
 | 6,s=>ats (s.drop 2) 0::ats s 0::ats (s.drop 1) 0::s.drop 3
 | _,s=>s
theorem aeo {x:T}{st:List T}:∀ {k:Nat},1≤k→k≤6→Wlk (.node t::cs,.node (mO k st)::x::us) n c e →
  ∃ m d,m≤11∧d≤11+(if k=2 then (ats st 0).parts else 0)∧Wlk (.node (Qx k++t)::cs,ats st 0::.node (st.drop 1)::x::us) (n+m) (c+d) e:=by
 intro k h1 h6 g
 rcases (by lia:k=1∨k=2∨k=3∨k=4∨k=5∨k=6) with rfl | rfl | rfl | rfl | rfl | rfl
 ·exact⟨1,1,by decide,by rw [if_neg (by decide)]; decide,qU g⟩
 ·exact⟨6,5+(ats st 0).parts,by decide,by rw [if_pos rfl]; lia,(Od (eZ (cX (bZ (cX (bZ g)))))).to rfl (by lia)⟩
 ·exact⟨7,7,by decide,by rw [if_neg (by decide)]; decide,cX (oA (cX (eZ (bZ (cX (bZ (by rw [List.drop_drop]; exact g)))))))⟩
 ·refine⟨5,5,by decide,by rw [if_neg (by decide)]; decide,cX (oA (eZ ?_))⟩
  rw [show ats (st.drop 1) 0=.node (ats (st.drop 1) 0).kids from (gM _).symm]
  exact bZ (bZ (by rw [List.drop_drop]; exact g))
 ·refine⟨6,6,by decide,by rw [if_neg (by decide)]; decide,?_⟩
  rw [show ats st 0=.node (ats st 0).kids from (gM _).symm]
  exact oA (eZ (eZ (bZ (cX (bZ g)))))
 ·exact⟨11,11,by decide,by rw [if_neg (by decide)]; decide,cX (oA (cX (oA (cX (eZ (bZ (eZ (bZ (cX (bZ (by rw [List.drop_drop,List.drop_drop]; exact g)))))))))))⟩
theorem xH (k:Nat) (g:Wlk (cs,s) n c e):Wlk (List.replicate k (.node [])++cs,s) (n+k) (c+k) e:=by
 induction k with
 | zero=>exact g
 | succ k ih=>exact dJ ih
theorem Z7 {α:Type} (x:α) (k:Nat) (l:List α):List.replicate k x++x::l=List.replicate (k+1) x++l:=by
 induction k with
 | zero=>rfl
 | succ k ih=>rw [List.replicate_succ,List.cons_append,ih]; rfl
theorem Bs {fs:List T}{d:Nat}:∀ {as cs s:List T},Wlk (.node (cF d)::(List.replicate as.length (.node [])++cs),.node fs::(as.reverse++s)) n c e →
  Wlk (.node (cF (as.length+d))::cs,.node (as++fs)::s) (n+3 * as.length) (c+3 * as.length) e:=by
 intro as
 induction as with
 | nil=>intro cs s g; rw [List.length_nil,Nat.zero_add]; exact g
 | cons a as ih =>
  intro cs s g
  have g':Wlk (.node (cF d)::(List.replicate as.length (.node [])++.node []::cs),.node fs::(as.reverse++a::s)) n c e:=by
   rw [Z7]
   rw [List.reverse_cons,List.append_assoc] at g
   exact g
  rw [List.length_cons,show as.length+1+d=as.length+d+1 by lia]
  exact (Jr (yes:=W 5::W 3::cF (as.length+d)) (a:=.node (a::(as++fs))) (by simp [T.kids]) (oR (cX (ih g')))).to (by lia) (by lia)
theorem acB:∀ {as fs s:List T},Wlk (.node t::cs,.node (as.reverse++fs)::s) n c e→Wlk (.node (Ju as.length t)::cs,.node fs::(as++s)) (n+2 * as.length) (c+2 * as.length) e:=by
 intro as
 induction as with
 | nil=>intro fs s g; exact g
 | cons a as ih =>
  intro fs s g
  rw [List.reverse_cons,List.append_assoc] at g
  exact (cX (bZ (ih g))).to (by rw [List.length_cons]; lia) (by rw [List.length_cons]; lia)
def resT (as l xs ts st:List T):List T×List T :=
 if as.length=0 then (.node xs::ts,.node l::st)
 else if as.length≤6 then (.node xs::ts,mO as.length st)
 else if as.length=7 then if (ats st 0).kids≠[] then (ats l 0::.node xs::ts,ats st 0::st.drop 1) else (.node (l.drop 1)::.node xs::ts,ats st 0::st.drop 1)
 else if as.length=8 then if (ats st 0).kids≠[] then (.node l::.node (.node (.node as::l)::xs)::ts,ats st 0::st.drop 1) else (.node xs::ts,ats st 0::st.drop 1)
 else (.node xs::ts,st)
theorem acz {as l xs ts st:List T} (g:Wlk (cs,.node (resT as l xs ts st).1::.node (resT as l xs ts st).2::us) n c e) :
  ∃ m d,m≤100∧(1≤as.length→as.length≤8→5 * as.length+9≤m)∧d≤100+(if as.length=2 then (ats st 0).parts else 0)+(if as.length=8∧(ats st 0).kids≠[] then (T.node l).parts else 0) ∧
   Wlk (.node (cF 8)::cs,.node as::.node l::.node xs::.node ts::.node st::us) (n+m) (c+d) e:=by
 by_cases h0:as.length=0
 ·have:as=[]:=List.length_eq_zero_iff.mp h0
  subst this
  refine⟨11,11,by decide,fun z=>absurd z (by decide),by rw [if_neg (by decide),if_neg (by simp)]; decide,?_⟩
  have g:Wlk (cs,.node (.node xs::ts)::.node (.node l::st)::us) n c e:=g
  exact CQ rfl (qU (ahr (dJ (dJ g))))
 rw [resT,if_neg h0] at g
 by_cases h6:as.length≤6
 ·rw [if_pos h6] at g
  have g1:=dJ (dJ (xH as.length g))
  obtain⟨m,d,hm,hd,g2⟩:=aeo (k:=as.length) (by lia) h6 (cX g1)
  have g3:=Js (as:=.node []::as.reverse) (aep (l:=.node l) g2) (k:=as.length+1) (by rw [List.length_cons,List.length_reverse])
  refine⟨3 * as.length+1+(as.length+1)+4+m+1+1+1+as.length,3 * as.length+1+(as.length+1)+4+d+1+1+1+as.length,by lia,fun _ _=>by lia,by lia,?_⟩
  have e8:cF 8=cF (as.length+(8 - as.length)):=by rw [show as.length+(8 - as.length)=8 by lia]
  rw [e8,show T.node as=T.node (as++[]) by rw [List.append_nil]]
  refine (Bs (n:=(n+as.length+1+1+1+m+4+(as.length+1))+1) (c:=(c+as.length+1+1+1+d+4+(as.length+1))+1) ?_).to (by lia) (by lia)
  have e9:cF (8 - as.length)=[nJ (W 5::W 3::cF (7 - as.length)) (pC as.length)]:=by
   rw [show 8 - as.length=(7 - as.length)+1 by lia,cF,show 7 - (7 - as.length)=as.length by lia]
  rw [e9]
  refine CQ rfl ?_
  rw [pC,if_neg h0,if_neg (by lia)]
  exact g3
 rw [if_neg h6] at g
 by_cases h7:as.length=7
 ·rw [if_pos h7] at g
  have e8:cF 8=cF (as.length+1):=by rw [h7]
  have e9:cF 1=[nJ (W 5::W 3::cF 0) (pC 7)]:=rfl
  by_cases ht:(ats st 0).kids≠[]
  ·rw [if_pos ht] at g
   have g1:=dJ (dJ (dJ (xH as.length g)))
   refine⟨3 * as.length+1+(as.length+1)+5+1+7+3+as.length,3 * as.length+1+(as.length+1)+5+1+7+3+as.length,by lia,fun _ _=>by lia,by rw [if_neg (by lia),if_neg (by lia)]; lia,?_⟩
   rw [e8,show T.node as=T.node (as++[]) by rw [List.append_nil]]
   refine (Bs (n:=(n+as.length+3+7+1+5+(as.length+1))+1) (c:=(c+as.length+3+7+1+5+(as.length+1))+1) ?_).to (by lia) (by lia)
   rw [e9]
   refine CQ rfl ?_
   rw [pC,if_neg (by decide),if_pos rfl]
   exact (Js (as:=.node []::as.reverse) (w_top (Jr ht (bZ (cX (eZ (oA (cX (qU (bZ g1))))))))) (k:=7+1) (by rw [List.length_cons,List.length_reverse,h7])).to (by lia) (by lia)
  ·rw [if_neg ht] at g
   have g1:=dJ (dJ (dJ (xH as.length g)))
   refine⟨3 * as.length+1+(as.length+1)+5+1+6+3+as.length,3 * as.length+1+(as.length+1)+5+1+6+3+as.length,by lia,fun _ _=>by lia,by rw [if_neg (by lia),if_neg (by lia)]; lia,?_⟩
   rw [e8,show T.node as=T.node (as++[]) by rw [List.append_nil]]
   refine (Bs (n:=(n+as.length+3+6+1+5+(as.length+1))+1) (c:=(c+as.length+3+6+1+5+(as.length+1))+1) ?_).to (by lia) (by lia)
   rw [e9]
   refine CQ rfl ?_
   rw [pC,if_neg (by decide),if_pos rfl]
   exact (Js (as:=.node []::as.reverse) (w_top (CQ (Classical.not_not.mp ht) (bZ (cX (eZ (oA (qU (bZ g1)))))))) (k:=7+1) (by rw [List.length_cons,List.length_reverse,h7])).to (by lia) (by lia)
 rw [if_neg h7] at g
 by_cases h8:as.length=8
 ·rw [if_pos h8] at g
  have e8:cF 8=cF (as.length+0):=by rw [h8]
  have eb:vM=Ju as.reverse.length (W 4::Qy [nJ aaM aaK]):=by rw [List.length_reverse,h8]; rfl
  by_cases ht:(ats st 0).kids≠[]
  ·rw [if_pos ht] at g
   have g1:=dJ (dJ (dJ (xH as.length g)))
   refine⟨3 * as.length+1+2 * as.length+1+5+1+15+3+as.length,3 * as.length+1+2 * as.length+1+5+1+14+3+as.length+(T.node l).parts,by lia,fun _ _=>by lia,by rw [if_neg (by lia),if_pos ⟨h8,ht⟩]; lia,?_⟩
   rw [e8,show T.node as=T.node (as++[]) by rw [List.append_nil]]
   refine (Bs (n:=(n+as.length+3+15+1+5+1+2 * as.length)+1) (c:=(c+as.length+3+14+(T.node l).parts+1+5+1+2 * as.length)+1) ?_).to (by lia) (by lia)
   refine CQ rfl ?_
   rw [eb]
   refine (acB (n:=n+as.length+3+15+1+5+1) (c:=c+as.length+3+14+(T.node l).parts+1+5+1) ?_).to (by rw [List.length_reverse]) (by rw [List.length_reverse])
   rw [List.reverse_reverse,List.append_nil]
   exact (bZ (w_top (Jr ht (bZ (cX (eZ (oR (cX (Od (eZ (bZ (eZ (oR (eZ (bZ (bZ (cX (bZ g1)))))))))))))))))).to (by lia) (by lia)
  ·rw [if_neg ht] at g
   have g1:=dJ (dJ (dJ (xH as.length g)))
   refine⟨3 * as.length+1+2 * as.length+1+5+1+4+3+as.length,3 * as.length+1+2 * as.length+1+5+1+4+3+as.length,by lia,fun _ _=>by lia,by rw [if_neg (by lia),if_neg (fun z=>ht z.2)]; lia,?_⟩
   rw [e8,show T.node as=T.node (as++[]) by rw [List.append_nil]]
   refine (Bs (n:=(n+as.length+3+4+1+5+1+2 * as.length)+1) (c:=(c+as.length+3+4+1+5+1+2 * as.length)+1) ?_).to (by lia) (by lia)
   refine CQ rfl ?_
   rw [eb]
   refine (acB (n:=n+as.length+3+4+1+5+1) (c:=c+as.length+3+4+1+5+1) ?_).to (by rw [List.length_reverse]) (by rw [List.length_reverse])
   rw [List.reverse_reverse,List.append_nil]
   exact bZ (w_top (CQ (Classical.not_not.mp ht) (bZ (eZ (qU (cX g1))))))
 ·rw [if_neg h8] at g
  have hl:(as.take 8).length=8:=by rw [List.length_take]; lia
  have g1:=dJ (dJ (xH 8 g))
  refine⟨3 * 8+1+10+1+2+8,3 * 8+1+10+1+2+8,by lia,fun _ _=>by lia,by lia,?_⟩
  have e8:cF 8=cF ((as.take 8).length+0):=by rw [hl]
  rw [e8,show T.node as=T.node (as.take 8++as.drop 8) by rw [List.take_append_drop]]
  refine (Bs (n:=(n+8+2+1+10)+1) (c:=(c+8+2+1+10)+1) ?_).to (by lia) (by lia)
  rw [hl]
  refine Jr ?_ ?_
  ·show as.drop 8≠[]
   intro z
   have:=congrArg List.length z
   rw [List.length_drop,List.length_nil] at this
   lia
  ·have:=Js (as:=.node (as.drop 8)::((as.take 8).reverse++[.node l])) (bZ g1) (k:=10) (by rw [List.length_cons,List.length_append,List.length_reverse,hl]; rfl)
   rw [List.cons_append,List.append_assoc] at this
   exact this
def gb (tx s:List T):Nat:=match (ats tx 0).kids with
 | []=>0
 | w::_=>if aJ w=2 then (ats s 0).parts else if aJ w=8∧(ats s 0).kids≠[] then (bD w).parts else 0
theorem V5 (s:List T):pad s 1=ats s 0::s.drop 1:=by
 cases s with
 | nil=>rfl
 | cons a s=>rw [dD (by simp)]; rfl
theorem adI {w:T}{k:Nat} (h1:1≤k) (h6:k≤6) (h:aJ w=k):behind w s=mO k s:=by
 rcases (by lia:k=1∨k=2∨k=3∨k=4∨k=5∨k=6) with rfl | rfl | rfl | rfl | rfl | rfl
 ·rw [ab2 h,V5]; rfl
 ·rw [ab1 h,V5]; rfl
 ·rw [ab0 h]
  match s with
  | []=>rfl
  | [a]=>rfl
  | a::b::s=>rw [dD (by simp)]; rfl
 ·rw [abZ h]
  match s with
  | []=>rfl
  | [a]=>rfl
  | a::b::s=>rw [dD (by simp)]; rfl
 ·rw [abY h,V5]; rfl
 ·rw [abX h]
  match s with
  | []=>rfl
  | [a]=>rfl
  | [a,b]=>rfl
  | a::b::d::s=>rw [dD (by simp)]; rfl
theorem fV {w:T}{ws ts:List T}:onward (.node (w::ws)::ts) s =
  if aJ w=7 then
   if (ats s 0).kids≠[] then (ats (w.kids.drop 1) 0::.node ws::ts,behind w s,7) else (.node (w.kids.drop 2)::.node ws::ts,behind w s,8)
  else if aJ w=8 then
   if (ats s 0).kids≠[] then (bD w::.node (w::ws)::ts,behind w s,9) else (.node ws::ts,behind w s,10)
  else if aJ w=9 then (.node ws::ts,behind w s,11)
  else (.node ws::ts,behind w s,aJ w):=rfl
theorem VN {as l xs ts:List T}:((onward (.node (.node (.node as::l)::xs)::ts) s).1,(onward (.node (.node (.node as::l)::xs)::ts) s).2.1)=resT as l xs ts s:=by
 have hs:aJ (.node (.node as::l))=min 9 as.length:=rfl
 rw [fV]
 unfold resT
 rw [hs]
 by_cases h0:as.length=0
 ·rw [if_neg (by lia),if_neg (by lia),if_neg (by lia),if_pos h0,Nz (by rw [hs]; lia)]; rfl
 rw [if_neg h0]
 by_cases h6:as.length≤6
 ·rw [if_neg (by lia),if_neg (by lia),if_neg (by lia),if_pos h6,adI (k:=as.length) (by lia) h6 (by rw [hs]; lia)]
 rw [if_neg h6]
 by_cases h7:as.length=7
 ·rw [if_pos (by lia),if_pos h7,pB (by rw [hs]; lia),hs,show min 9 as.length=7 by lia,show many 7=1 from rfl,V5]
  split <;> rfl
 rw [if_neg h7]
 by_cases h8:as.length=8
 ·rw [if_neg (by lia),if_pos (by lia),if_pos h8,pB (by rw [hs]; lia),hs,show min 9 as.length=8 by lia,show many 8=1 from rfl,V5]
  split <;> rfl
 ·rw [if_neg (by lia),if_neg (by lia),if_pos (by lia),if_neg h8,pB (by rw [hs]; lia),hs,show min 9 as.length=9 by lia,show many 9=0 from rfl,dD (Nat.zero_le _)]
theorem res_none {xs ts:List T}:((onward (.node (.node []::xs)::ts) s).1,(onward (.node (.node []::xs)::ts) s).2.1)=resT [] [] xs ts s:=by
 unfold onward
 simp only [ats,T.kids,List.getElem?_cons_zero,Option.getD_some,List.drop_succ_cons,List.drop_zero]
 rw [Nz rfl]
 rfl
theorem abz {tx:List T} (h:tx≠[]):nx (.node bK::cs,.node tx::s)=(.node eY::.node bK::cs,.node tx::s):=by
 unfold nx
 rw [show bK=aU 8 eY::[W 1,W 5,W 3,W 1] from rfl,fV,if_neg (by show 8≠7; decide),if_pos (by rfl),if_pos (by exact h),pB (by show 6<8; decide),dD (by show 1≤_; simp)]
 rfl
theorem agV:nx (.node bK::cs,.node []::s)=(.node [W 1,W 5,W 3,W 1]::cs,.node []::s):=by
 unfold nx
 rw [show bK=aU 8 eY::[W 1,W 5,W 3,W 1] from rfl,fV,if_neg (by show 8≠7; decide),if_pos (by rfl),if_neg (by exact fun z=>z rfl),pB (by show 6<8; decide),dD (by show 1≤_; simp)]
end
end Sw
namespace Sw
def wt (st:Std):Nat:=T.au st.1+T.au st.2
theorem BZ (k:Nat) (s:List T):T.au (s.drop k)≤T.au s:=by
 have e:=T.cB (s.take k) (s.drop k)
 rw [List.take_append_drop] at e
 lia
theorem Dn (s:List T) (k:Nat):(ats s k).parts≤T.au s+1:=by
 induction s generalizing k with
 | nil=>unfold ats leaf; rw [List.getElem?_nil,Option.getD_none,T.aL,T.aR]; lia
 | cons a s ih =>
  rw [T.aq]
  cases k with
  | zero=>show a.parts≤_; lia
  | succ k=>have:=ih k; have:=T.i_ a; show (ats s k).parts≤_; lia
theorem BW (w:T):(bD w).parts≤w.parts:=by
 have:=BZ 1 w.kids
 unfold bD
 rw [T.aL,T.dN w]
 lia
theorem akl {k:Nat} (h1:1≤k) (h6:k≤6) (s:List T):T.au (mO k s)≤T.au s+(if k=2 then (ats s 0).parts+1 else 3):=by
 have hl:leaf.parts=1:=by unfold leaf; rw [T.aL,T.aR]
 have hk:leaf.kids=[]:=rfl
 have hn:(T.node []).parts=1:=by rw [T.aL,T.aR]
 have e0:∀ s:List T,ats s 0=match s with | []=>leaf | a::_=>a:=fun s=>by cases s <;> rfl
 rcases (by lia:k=1∨k=2∨k=3∨k=4∨k=5∨k=6) with rfl | rfl | rfl | rfl | rfl | rfl
 ·have:=BZ 1 s; rw [if_neg (by decide)]; show T.au (s.drop 1)≤_; lia
 ·rw [if_pos rfl]
  match s with
  | []=>simp only [mO,e0,List.drop_nil,T.aq,T.aR,hl]; lia
  | a::s=>simp only [mO,e0,List.drop_succ_cons,List.drop_zero,T.aq]; lia
 ·rw [if_neg (by decide)]
  match s with
  | []=>simp only [mO,e0,List.drop_nil,T.aq,T.aR,hl]; lia
  | [a]=>simp only [mO,e0,List.drop_succ_cons,List.drop_zero,List.drop_nil,T.aq,T.aR,hl]; lia
  | a::b::s=>simp only [mO,e0,List.drop_succ_cons,List.drop_zero,T.aq]; lia
 ·rw [if_neg (by decide)]
  match s with
  | []=>simp only [mO,e0,List.drop_nil,T.aq,T.aR,hl,hk,T.aL]; lia
  | [a]=>simp only [mO,e0,List.drop_succ_cons,List.drop_zero,List.drop_nil,T.aq,T.aR,hk,T.aL]; lia
  | a::b::s=>simp only [mO,e0,List.drop_succ_cons,List.drop_zero,T.aq,T.aL]; have:=T.dN b; lia
 ·rw [if_neg (by decide)]
  match s with
  | []=>simp only [mO,e0,List.drop_nil,T.aq,T.aR,hl,hk,T.aL]; lia
  | .node []::s=>simp only [mO,e0,T.kids,List.drop_succ_cons,List.drop_zero,List.drop_nil,T.aq,T.aR,hl,T.aL]; lia
  | .node (a::b)::s=>simp only [mO,e0,T.kids,List.drop_succ_cons,List.drop_zero,T.aq,T.aL]; lia
 ·rw [if_neg (by decide)]
  match s with
  | []=>simp only [mO,e0,List.drop_nil,T.aq,T.aR,hl]; lia
  | [a]=>simp only [mO,e0,List.drop_succ_cons,List.drop_zero,List.drop_nil,T.aq,T.aR,hl]; lia
  | [a,b]=>simp only [mO,e0,List.drop_succ_cons,List.drop_zero,List.drop_nil,T.aq,T.aR,hl]; lia
  | a::b::d::s=>simp only [mO,e0,List.drop_succ_cons,List.drop_zero,T.aq]; lia
theorem akk (s:List T) (n:Nat):T.au (pad s n)≤T.au s+n:=by
 have:∀ k,T.au (List.replicate k leaf)=k:=fun k=>by
  induction k with
  | zero=>rw [List.replicate_zero,T.aR]
  | succ k ih=>rw [List.replicate_succ,T.aq,ih,leaf,T.aL,T.aR]; lia
 unfold pad
 rw [T.cB,this]
 lia
theorem Lq (w:T) (s:List T):T.au (behind w s)≤T.au s+(if aJ w=2 then (ats s 0).parts+1 else 3)+(if aJ w=0 then (bD w).parts else 0):=by
 by_cases h0:aJ w=0
 ·rw [Nz h0,T.aq,if_pos h0,if_neg (by lia)]; lia
 by_cases h6:aJ w≤6
 ·rw [adI (k:=aJ w) (by lia) h6 rfl]
  have:=akl (k:=aJ w) (by lia) h6 s
  lia
 ·have h9:=Bw w
  have h3:∀ k,k≤9→many k≤3:=by decide
  have:=h3 _ h9
  rw [pB (by lia),if_neg (by lia)]
  have:=akk s (many (aJ w))
  lia
theorem Hg (w:T) (ws ts s:List T) :
  T.au (onward (.node (w::ws)::ts) s).1≤T.au (.node (w::ws)::ts)+(if aJ w=8 then (bD w).parts else 0) ∧
  (aJ w=0→T.au (onward (.node (w::ws)::ts) s).1+w.parts≤T.au (.node (w::ws)::ts))∧(onward (.node (w::ws)::ts) s).2.1=behind w s:=by
 have hw:=T.i_ w
 have hl:=BW w
 rw [fV]
 by_cases h7:aJ w=7
 ·rw [if_pos h7,if_neg (show ¬ aJ w=8 by lia)]
  refine⟨?_,fun z=>absurd z (by lia),by split <;> rfl⟩
  split
  ·have:=Dn (w.kids.drop 1) 0
   have:=BZ 1 w.kids
   have:=T.dN w
   show T.au (_::_::_)≤_
   simp only [T.aq,T.aL]
   lia
  ·have:=BZ 2 w.kids
   have:=T.dN w
   show T.au (_::_::_)≤_
   simp only [T.aq,T.aL]
   lia
 rw [if_neg h7]
 by_cases h8:aJ w=8
 ·rw [if_pos h8,if_pos h8]
  refine⟨?_,fun z=>absurd z (by lia),by split <;> rfl⟩
  split
  ·show T.au (_::_::_)≤_
   simp only [T.aq,T.aL]
   lia
  ·show T.au (_::_)≤_
   simp only [T.aq,T.aL]
   lia
 rw [if_neg h8,if_neg h8]
 have e:T.au (.node ws::ts)+w.parts=T.au (.node (w::ws)::ts):=by simp only [T.aq,T.aL]; lia
 split
 ·exact⟨by show T.au (.node ws::ts)≤_; lia,fun _=>by show T.au (.node ws::ts)+_≤_; lia,rfl⟩
 ·exact⟨by show T.au (.node ws::ts)≤_; lia,fun _=>by show T.au (.node ws::ts)+_≤_; lia,rfl⟩
theorem afM {st:Std} (h:Ho st):wt (nx st)≤wt st+3 * uh st:=by
 obtain⟨tx,s⟩:=st
 match tx with
 | [] =>
  show T.au []+T.au s≤T.au []+T.au s+_
  lia
 | .node []::ts =>
  show T.au ts+T.au s≤T.au (.node []::ts)+T.au s+_
  rw [T.aq]
  lia
 | .node (w::ws)::ts =>
  have h8:aJ w≠8:=h
  obtain⟨b1,b2,b3⟩:=Hg w ws ts s
  have b4:=Lq w s
  have hl:=BW w
  rw [if_neg h8] at b1
  have hc:uh (.node (w::ws)::ts,s)=if aJ w=2 then (ats s 0).parts else 1:=rfl
  have hp:=T.i_ (ats s 0)
  show T.au (onward (.node (w::ws)::ts) s).1+T.au (onward (.node (w::ws)::ts) s).2.1≤T.au (.node (w::ws)::ts)+T.au s+3 * uh (.node (w::ws)::ts,s)
  rw [hc,b3]
  by_cases h2:aJ w=2
  ·rw [if_pos h2,if_neg (by lia)] at b4
   rw [if_pos h2]
   lia
  ·rw [if_neg h2] at b4
   rw [if_neg h2]
   by_cases h0:aJ w=0
   ·have:=b2 h0
    rw [if_pos h0] at b4
    lia
   ·rw [if_neg h0] at b4
    lia
def Wds (M:Nat) (tx:List T):Prop:=∀ t∈tx,∀ w∈t.kids,w.parts≤M
theorem Wds.next {M:Nat}{tx s:List T} (h:Wds M tx):Wds M (onward tx s).1∧T.au (onward tx s).1≤T.au tx+M∧T.au (onward tx s).2.1≤2 * T.au s+M+4:=by
 match tx with
 | []=>exact⟨h,by show T.au []≤_; lia,by show T.au s≤_; lia⟩
 | .node []::ts=>exact⟨fun t ht=>h t (List.mem_cons_of_mem _ ht),by show T.au ts≤_; rw [T.aq]; lia,by show T.au s≤_; lia⟩
 | .node (w::ws)::ts =>
  have hw:w.parts≤M:=h _ List.mem_cons_self w List.mem_cons_self
  obtain⟨b1,b2,b3⟩:=Hg w ws ts s
  have b4:=Lq w s
  have hl:=BW w
  have pa:=Dn s 0
  refine⟨?_,by split at b1 <;> lia,by rw [b3]; split at b4 <;> split at b4 <;> lia⟩
  have hin:∀ {us:List T}{k:Nat}{v:T},v∈w.kids.drop k→v.parts≤M:=fun {us k v} hv=>by
   have:=T.lq (List.mem_of_mem_drop hv)
   rw [T.dN w] at hw
   lia
  have hws:∀ v∈ws,v.parts≤M:=fun v hv=>h _ List.mem_cons_self v (List.mem_cons_of_mem _ hv)
  have hts:Wds M ts:=fun t ht=>h t (List.mem_cons_of_mem _ ht)
  have UL:∀ {a:T}{us:List T},(∀ v∈a.kids,v.parts≤M)→Wds M us→Wds M (a::us):=fun {a us} ha hus t ht=>by
   rcases List.mem_cons.mp ht with rfl | z
   ·exact ha
   ·exact hus t z
  have hr:Wds M (.node ws::ts):=UL hws hts
  rw [fV]
  split
  ·split
   ·refine UL (fun v hv=>?_) hr
    have h1:=Dn (w.kids.drop 1) 0
    have h2:=BZ 1 w.kids
    have h3:=T.lq hv
    rw [T.dN w] at hw
    rw [T.dN (ats (w.kids.drop 1) 0)] at h1
    lia
   ·exact UL (fun v hv=>hin (us:=[]) hv) hr
  split
  ·split
   ·exact UL (fun v hv=>hin (us:=[]) hv) h
   ·exact hr
  split
  ·exact hr
  ·exact hr
end Sw
namespace Sw
def stN:Nat→Std→Std
 | 0,s=>s
 | n+1,s=>nx (stN n s)
theorem jF (n:Nat) (s:Std):stN (n+1) s=stN n (nx s):=by
 induction n with
 | zero=>rfl
 | succ n ih=>show nx (stN (n+1) s)=nx (stN n (nx s)); rw [ih]
theorem Jv (m n:Nat) (s:Std):stN (m+n) s=stN n (stN m s):=by
 induction n with
 | zero=>rfl
 | succ n ih=>show nx (stN (m+n) s)=nx (stN n (stN m s)); rw [ih]
def nO (a:Nat) (st:Std):Prop:=(T.node st.1).deep≤a∧(T.node st.2).deep≤a
theorem nO.le {a b:Nat}{st:Std} (h:nO a st) (hab:a≤b):nO b st:=⟨Nat.le_trans h.1 hab,Nat.le_trans h.2 hab⟩
theorem abJ {a:Nat}{st:Std} (ha:1≤a) (h:nO a st):nO (a+2) (nx st):=by
 obtain⟨h1,h2⟩:=h
 have hb1:(T.node st.1).parts≤(T.node st.1).parts+(T.node st.2).parts:=by lia
 have hb2:(T.node st.2).parts≤(T.node st.1).parts+(T.node st.2).parts:=by lia
 have:=afK (tx:=st.1) (s:=st.2) ha ⟨h1,hb1⟩ ⟨h2,hb2⟩
 exact⟨this.1.1,this.2.1⟩
theorem abK {a:Nat}{st:Std} (ha:1≤a) (h:nO a st):∀ n,nO (a+2 * n) (stN n st)
 | 0=>h
 | n+1=>abJ (a:=a+2 * n) (by lia) (abK ha h n)
theorem aft (tx s:List T):gb tx s≤wt (tx,s)+1:=by
 have h1:=Dn s 0
 unfold gb
 show _≤T.au tx+T.au s+1
 split
 ·lia
 ·rename_i w ws e
  split
  ·lia
  split
  ·have h2:=BW w
   have h3:w.parts≤T.au tx+1:=by
    have h4:=Dn tx 0
    rw [T.dN,e,T.aq] at h4
    lia
   lia
  ·lia
theorem Xa:(T.node eY).parts+(T.node bK).parts≤4000:=by decide +kernel
theorem JW:(T.node eY).deep≤90∧(T.node bK).deep≤90:=by decide +kernel
end Sw
namespace Sw
def aif (st:Std):Prop:=(T.node st.1).deep≤390∧(T.node st.2).deep≤390∧wt st≤7900000
end Sw
namespace Sw
theorem rG (k:Nat) (ts:List T):T.bM (ts.drop k)≤T.bM ts:=by
 have e:=T.dX (ts.take k) (ts.drop k)
 rw [List.take_append_drop] at e
 lia
theorem pG (ts:List T) (k:Nat) {a:Nat} (h:T.bM ts≤a):(ats ts k).deep≤a - 1:=by
 by_cases hk:k<ts.length
 ·have:=T.jM (adZ hk)
  lia
 ·unfold ats leaf
  rw [List.getElem?_eq_none (by lia),Option.getD_none,T.aO,T.aY]
  lia
theorem U0 (s:List T) (n:Nat) {a:Nat} (ha:1≤a) (h:T.bM s≤a):T.bM (pad s n)≤a:=by
 unfold pad
 rw [T.dX]
 have:∀ k,T.bM (List.replicate k leaf)≤1:=fun k=>by
  induction k with
  | zero=>rw [List.replicate_zero,T.aY]; lia
  | succ k ih=>have hl:leaf.deep=0:=by { unfold leaf; rw [T.aO,T.aY] };rw [List.replicate_succ,T.aK]; lia
 have:=this (n - s.length)
 lia
theorem afx {a:Nat}{w:T}{s:List T} (ha:2≤a) (hw:w.deep+1≤a) (hs:T.bM s≤a):T.bM (behind w s)≤a+1:=by
 have hk:∀ t:T,T.bM t.kids=t.deep:=fun t=>(T.HX t).symm
 have hl:(bD w).deep≤w.deep:=by unfold bD; rw [T.aO,T.HX w]; exact rG 1 _
 unfold behind
 have p1:=U0 s 1 (by lia) hs
 have p2:=U0 s 2 (by lia) hs
 have p3:=U0 s 3 (by lia) hs
 split
 ·rw [T.aK]; lia
 split
 ·have:=U0 s (many (aJ w)) (by lia) hs; lia
 split
 ·have:=rG 1 (pad s 1); lia
 split
 ·have:=rG 1 (pad s 1); have:=pG _ 0 p1; rw [T.aK,T.aK]; lia
 split
 ·have:=rG 2 (pad s 2); have:=pG _ 0 p2; have:=pG _ 1 p2; rw [T.aK,T.aK]; lia
 split
 ·have:=rG 2 (pad s 2)
  have:=pG _ 0 p2
  have:=pG _ 1 p2
  have:=hk (ats (pad s 2) 1)
  rw [T.aK,T.aO,T.aK]
  lia
 split
 ·have:=rG 1 (pad s 1)
  have h0:=pG _ 0 p1
  have:=hk (ats (pad s 1) 0)
  have h1:=pG (ats (pad s 1) 0).kids 0 (a:=a - 1) (by lia)
  have:=rG 1 (ats (pad s 1) 0).kids
  rw [T.aK,T.aK,T.aO]
  lia
 ·have:=rG 3 (pad s 3)
  have:=pG _ 0 p3
  have:=pG _ 1 p3
  have:=pG _ 2 p3
  rw [T.aK,T.aK,T.aK]
  lia
theorem aiT {a:Nat}{st:Std} (ha:4≤a) (h:nO a st):nO (a+1) (nx st):=by
 obtain⟨tx,s⟩:=st
 obtain⟨h1,h2⟩:=h
 have h1:(T.node tx).deep≤a:=h1
 have h2:(T.node s).deep≤a:=h2
 rw [T.aO] at h1 h2
 have goal:T.bM (onward tx s).1≤a+1∧T.bM (onward tx s).2.1≤a+1:=by
  match tx with
  | []=>exact⟨by show T.bM []≤_; rw [T.aY]; lia,by show T.bM s≤_; lia⟩
  | .node []::ts=>exact⟨by show T.bM ts≤_; rw [T.aK] at h1; lia,by show T.bM s≤_; lia⟩
  | .node (w::ws)::ts =>
   rw [T.aK,T.aO,T.aK] at h1
   have hb:T.bM (behind w s)≤a+1:=afx (by lia) (by lia) h2
   have hk:=T.HX w
   have k1:=rG 1 w.kids
   have k2:=rG 2 w.kids
   have k3:=pG (w.kids.drop 1) 0 (a:=a) (by lia)
   have hr:T.bM (.node ws::ts)≤a:=by rw [T.aK,T.aO]; lia
   rw [fV]
   split
   ·split
    ·exact⟨by show T.bM (_::.node ws::ts)≤_; rw [T.aK]; lia,hb⟩
    ·exact⟨by show T.bM (_::.node ws::ts)≤_; rw [T.aK,T.aO]; lia,hb⟩
   split
   ·split
    ·refine⟨?_,hb⟩
     show T.bM (bD w::.node (w::ws)::ts)≤_
     unfold bD
     rw [T.aK,T.aO,T.aK,T.aO,T.aK]; lia
    ·exact⟨Nat.le_succ_of_le hr,hb⟩
   split
   ·exact⟨Nat.le_succ_of_le hr,hb⟩
   ·exact⟨Nat.le_succ_of_le hr,hb⟩
 exact⟨by show (T.node (onward tx s).1).deep≤_; rw [T.aO]; exact goal.1,by show (T.node (onward tx s).2.1).deep≤_; rw [T.aO]; exact goal.2⟩
def Way (D W:Nat) (st:Std) (n:Nat) (e:Std):Prop:=∃ c,Wlk st n c e∧n≤110∧nO (D+(110 - n)) st∧wt st+3 * c≤W
theorem Way.ok {D W n:Nat}{st e:Std} (h:Way D W st n e) (hD:D≤280) (hW:W≤7900000):aif st:=by
 obtain⟨c,_,_,hd,hw⟩:=h
 exact⟨by have:=hd.1; lia,by have:=hd.2; lia,by lia⟩
theorem Way.step {D W n:Nat}{st e:Std} (h:Way D W st (n+1) e) (hD:4≤D):st.1≠[]∧Ho st∧Way D W (nx st) n e:=by
 obtain⟨c,g,hn,hd,hw⟩:=h
 cases g with
 | @cons _ _ n2 c2 h1 h2 g =>
  have w2:=afM h2
  have d:=aiT (by lia) hd
  exact⟨h1,h2,c2,g,by lia,d.le (by lia),by lia⟩
theorem Way.at {D W:Nat}{st e:Std} (h:Way D W st 0 e):st=e:=by
 obtain⟨c,g,_⟩:=h
 cases g
 rfl
end Sw
namespace PySem
open Builtin Builtin.Str
section
variable {prog:Program}{w:World}{A:Around}{E:Value→Shared→Prop}{s:Shared}{x:Str}{t:Tok}{Q:Value→Shared→Prop}
theorem aeA (q:∀ (l:List (Str×Tok)) (k:Nat),l.map (·.1)=Txt.words x→Q (.ref s.heap.objs.size) { s with toks:=k,heap:=s.heap.push { cls:=.type "list",data:=.seq (strValues l).toArray } })
  (z1:x.length≤sizeLine) (z2:(spaceWords x (x.length+1)).length≤sizeLine):wpAny (model prog w) A (call (.builtin "str.split") [.str x t]) Q E s:=by
 refine call_meets F.slot_str_split (typeIs_str _ _ _) F.entry_str_split (F.args_str_split_1 _) (meets_str_split_space x t z1 z2) ?_
 cases hw:spaceWords x (x.length+1) == [(0,x.length)]
 ·simp only [Bool.false_eq_true,if_false]; rw [strsFrom_eq]
  exact q (numbered s.toks (wordsOf x)) _ ((numbered_texts _ _).trans (if_neg (ne_true_of_eq_false hw)).symm)
 ·simp only [if_true]; exact q [(x,t)] s.toks (if_pos hw).symm
end
section
variable {prog:Program}{w:World}{A:Around}{E:Value→Shared→Prop}{s:Shared}
theorem aaN:isSubtype (.type "range_iterator") (.type "reversed")=pure false:=by rw [isSubtype_type]; kernel_rfl
def uR:Obj:={ cls:=.type "range_iterator",data:=.fields #[rawInt 7,rawInt 8,rawInt (-1)] }
theorem abL (r:Addr) (t u v:Tok):Meets (Builtin.«range.__reversed__» ⟨[.ref r],[]⟩) (fun _ R s=>IsRange s.heap r 0 8 1 t u v∧R (.ok (.ret (.ref s.heap.objs.size))) { s with heap:=s.heap.push uR }) :=
 .of_wp fun prog w A R s h=>by obtain⟨hp,g,d,tk,os⟩:=s; obtain⟨hl,h⟩:=h; wp_walk; exact⟨_,rfl,h⟩
theorem Ss {r:Addr}{t u v:Tok}{Q₁:Value→Shared→Prop} (hr:IsRange s.heap r 0 8 1 t u v) (h:Q₁ (.ref s.heap.objs.size) { s with heap:=s.heap.push uR }) :
  codeAny (model prog w) A (.call (.builtin "reversed.__new__") ⟨[.type "reversed",.ref r],[]⟩) (wants Q₁ E) s:=by
 have hT:s.TypeIs (.ref r) "range":=⟨_,hr,rfl⟩
 refine codeAny_of_tree (show wpAny _ A.in1 (do checkBuiltinCall "reversed.__new__" ⟨[.type "reversed",.ref r],[]⟩; again (.builtin "reversed.__new__" ⟨[.type "reversed",.ref r],[]⟩)) _ _ s from ?_)
 refine wpAny_bind (wpAny_of_eq (F.newCall_reversed_1 _) (wpAny_pure ⟨plainId_quiet F.plain_reversed_new _,codeAny_builtin F.entry_reversed_new ?_⟩)); rw [Around.under_plainId F.plain_reversed_new _]; unfold Builtin.«reversed.__new__»
 refine wpAny_bind (wpAny_of_eq (newClass_reversed _) ?_); try dsimp only
 refine wpAny_bind (wpAny_of_eq (a:=()) (by first | rfl | kernel_rfl) ?_); refine wpAny_bind (wpAny_of_eq (a:=()) (by first | rfl | kernel_rfl) ?_); try dsimp only
 refine wpAny_bind (wpAny_specialOf hT F.slot_range_reversed.lookup ?_); try dsimp only
 refine wpAny_bind (wpAny_of_eq (F.slot_range_reversed.bind _) ?_); try dsimp only
 first
 | rw [if_neg (show ¬ ((Value.builtin "range.__reversed__" == Value.none)=true) from Bool.false_ne_true)]
 | (show wpAny _ _ (if (Value.builtin "range.__reversed__" == Value.none)=true then _ else _) _ _ _; rw [if_neg (show ¬ ((Value.builtin "range.__reversed__" == Value.none)=true) from Bool.false_ne_true)])
 refine wpAny_bind (wpAny_rule ?_); refine wpAny_bind (m:=runValue (.call (.builtin "range.__reversed__") ⟨[.ref r],[]⟩)) (show wpAny _ _ (call (.builtin "range.__reversed__") [.ref r]) _ _ _ from call_meets F.slot_range_reversed hT F.entry_range_reversed (F.args_range_reversed_1 _) (abL r t u v) ⟨hr,?_⟩)
 first
 | exact wpAny_pure h
 | exact wpAny_bind (wpAny_pure (wpAny_pure h))
theorem Sv {r:Addr}{t u v:Tok}{Q:Value→Shared→Prop} (hr:IsRange s.heap r 0 8 1 t u v) (h:Q (.ref s.heap.objs.size) { s with heap:=s.heap.push uR }) :
  wpAny (model prog w) A (call (.type "reversed") [.ref r]) Q E s:=by
 refine callType_other (U:="range_iterator") (Q₁:=fun obj s₁=>obj=.ref s.heap.objs.size∧s₁={ s with heap:=s.heap.push uR }) (by decide +kernel) F.create_reversed ⟨_,_,F.mro_reversed⟩ F.made_reversed aaN (F.typeCall_reversed_1 _) (Ss hr ⟨rfl,rfl⟩) ?_
 rintro obj s₁ ⟨rfl,rfl⟩
 exact⟨⟨_,Heap.get?_push_size _ rfl,rfl⟩,h⟩
end
end PySem
namespace Sw
open PySem PySem.Spec PyProof.Rows L2 SwR
section
variable {X:Cx}
theorem ZL:∀ {l:List (Str×Tok)}{zs:List Str},l.map (·.1)=zs→Vals (zs.map V.str) (strValues l)
 | [],_,h=>by cases h; exact .nil
 | (z,t)::l,_,h=>by cases h; exact .cons ⟨t,rfl⟩ (ZL rfl)
def agg:V→List V→Hp→VK→Prop:=fun x vs H Q=>∃ z:Str,x=.str z∧vs=[]∧z.length≤1000∧(Builtin.Str.spaceWords z (z.length+1)).length≤1000∧(Txt.words z).length≤1000 ∧
 ∀ D,H D=none→Q (.ref D) (upd H D (.lst ((Txt.words z).map V.str)))
theorem adn:MtM X "str.split" agg:=by
 intro pins s σ H x vs v us Q I rx rv h
 obtain⟨z,rfl,rfl,hl,hw,hw2,q⟩:=h
 obtain⟨t,rfl⟩:=rx
 cases rv
 refine aeA (fun ll k e=>?_) (Nat.le_trans hl (by decide)) (Nat.le_trans hw (by decide))
 have hn:H s.heap.objs.size=none:=I.hok.fresh (Nat.le_refl _)
 have I2:=I.lnew (ys:=(Txt.words z).map V.str) (its:=strValues ll) (t':=k) (ZL e) (by rw [List.length_map]; exact Nat.le_trans hw2 (by decide))
 exact⟨.ref s.heap.objs.size,_,I2,rfl,q _ hn⟩
def Itd:It:=⟨fun i _=>i<8,fun i H x H'=>H'=H∧x=.int (7 - i),fun i _=>8≤i⟩
theorem acE {P:Program}{w:World}{K:PySem.W.Frag}{tg:Expr} (it:Addr):Turn P w K tg Itd [it] it (fun i h=>IsRangeIter h it (7+(i:Nat) * (-1)) ((8:Nat) - (i:Nat)) (-1)) where
 mem:=by simp
 obj:=fun i h st b hb=>by
  have e:b=it:=by simpa using hb
  subst e
  exact⟨_,st,fun v z=>by have z':Data.fields _=Data.cell v:=z; cases z'⟩
 keep:=fun i h h' st k=>k it (by simp) _ st
 item:=by
  intro X hP hw hK hc i pins s σ H E I hf st hg
  subst hP hw hK
  obtain⟨f0,f1,f2,f3,f4,f5⟩:=hf it (by simp)
  have W:=Walks.range (prog:=X.prog) (w:=X.w) (I.ok.hd hc) it 7 (-1) 8
  refine W.item i s _ _ hg st fun v h' tk hv st' kk=>?_
  obtain⟨t,rfl⟩:=hv
  have I1:Inv X pins σ H { s with heap:=h',toks:=tk }:=I.turned (fun b o hb e=>kk b o (by simpa using hb) e) f0 f1 f3 f4 f5
  refine⟨_,rfl,go_of (s:={ s with heap:=h',toks:=tk }) (n:="range_iterator") st' rfl rfl (by decide) ⟨.int (7 - i),H,I1,⟨t,by rw [show (7:Int)+(i:Int) * -1=7 - i by lia]⟩,⟨rfl,rfl⟩,st',fun b hb=>(hf b hb).1⟩⟩
 done:=by
  intro X hP hw hK hc i pins s σ H E I hf st hg
  subst hP hw hK
  obtain⟨f0,f1,f2,f3,f4,f5⟩:=hf it (by simp)
  exact wpAny_pyNext_range_end (I.ok.hd hc) st (by have:8≤i:=hg; lia) fun h' eb=>⟨rfl,I.turned (t':=s.toks) (fun b o hb e=>eb b o hb e) f0 f1 f3 f4 f5⟩
 self:=fun _ _ _ _ _ st h=>wpAny_pyIter_rangeiter st h
def afY (ta:TA):TI:=fun σ H R=>ta σ H fun vs H1=>vs=[.int 8]∧R Itd H1
theorem agu {tg a:Expr}{ta:TA}{p p2 pos pos2:Pos} (hg:Gl X "range") (hm:X.mg "range"=none) (hg2:Gl X "reversed") (hm2:X.mg "reversed"=none) (ha:PA X [a] ta) (hs:starEach [a] X.env=[(false,eval a X.env)]:=by rfl)
  (hs2:starEach [.Call (.Name "range" p) [a] [] pos] X.env=[(false,eval (.Call (.Name "range" p) [a] [] pos) X.env)]:=by rfl) :
  PI X tg (.Call (.Name "reversed" p2) [.Call (.Name "range" p) [a] [] pos] [] pos2) (afY ta):=by
 intro pins s σ H R I h
 refine wpAny_Call_Name_kw (ld_blt I hg2 hm2 Ba ?_)
 refine PyProof.Rows.callWith_type1 ?_ (by rw [hs2]; rfl) (by rfl)
 rw [hs2]
 refine Calls.spliced_cons ?_
 refine Call_ (ld_blt I hg hm boot_range (PyProof.Rows.callWith_type1 (thn (ha pos pins s σ H _ I h) fun us s1 ⟨vs,H1,I1,r1,q1⟩=>?_) hs rfl))
 obtain⟨rfl,q⟩:=q1
 cases r1 with
 | cons r rr =>
  cases rr
  obtain⟨t,rfl⟩:=r
  refine call_range_1 (Calls.spliced_nil ?_)
  generalize MP:({ s1 with heap:=s1.heap.push { cls:=.type "range",data:=.fields #[.int 0 s1.toks,.int 8 t,.int 1 (s1.toks+1)] },toks:=s1.toks+1+1 }:Shared)=s2
  have I2:Inv X pins σ H1 s2:=by rw [← MP]; exact I1.kept fun b o e=>Heap.get?_push_of_some _ e
  have hr:IsRange s2.heap s1.heap.objs.size 0 8 1 s1.toks t (s1.toks+1):=by rw [← MP]; exact Heap.get?_push_size _ rfl
  refine Sv hr ?_
  have hit:IsRangeIter (s2.heap.push uR) s2.heap.objs.size 7 8 (-1):=Heap.get?_push_size _ rfl
  have I3:Inv X pins σ H1 { s2 with heap:=s2.heap.push uR }:=I2.kept (t':=s2.toks) fun b o e=>Heap.get?_push_of_some _ e
  refine wpAny_pyIter_rangeiter (s:={ s2 with heap:=s2.heap.push uR }) hit ?_
  refine⟨s2.heap.objs.size,[s2.heap.objs.size],_,Itd,H1,rfl,I3,acE _,hit,fun b hb=>?_,q⟩
  have e:b=s2.heap.objs.size:=by simpa using hb
  subst e
  exact I2.fpOk (Nat.le_refl _) (I2.hok.fresh (Nat.le_refl _))
theorem agk {tg a:Expr}{ta:TA}{p p2 pos pos2:Pos} (hg:Gl X "range") (hm:X.mg "range"=none) (hg2:Gl X "reversed") (hm2:X.mg "reversed"=none) (ha:QA X [a] ta) (hs:starEach [a] X.env=[(false,eval a X.env)]:=by rfl)
  (hs2:starEach [.Call (.Name "range" p) [a] [] pos] X.env=[(false,eval (.Call (.Name "range" p) [a] [] pos) X.env)]:=by rfl) :
  QI X tg (.Call (.Name "reversed" p2) [.Call (.Name "range" p) [a] [] pos] [] pos2) (afY ta):=⟨agu hg hm hg2 hm2 ha.run hs hs2⟩
theorem afq {g:TG}{tb:TS}{D:Ends}{σ:Sg}{H:Hp} (Pv:Nat→Sg→Hp→Prop) (h0:Pv 0 σ H)
  (hs:∀ i σ H,i<8→Pv i σ H→g (.int (7 - i)) σ H fun σ2 H2=>tb { D with nx:=Pv (i+1),ct:=Pv (i+1),bk:=D.nx } σ2 H2) (hd:∀ σ H,Pv 8 σ H→D.nx σ H) :
  ∃ W:Nat→Nat→Sg→Hp→Prop,(∃ m,W 0 m σ H)∧∀ i m σ H,W i m σ H →
   (Itd.stop i H∧D.nx σ H)∨(Itd.go i H∧∃ N:Sg→Hp→Prop,(∀ σ' H',N σ' H'→∃ m',m'<m∧W (i+1) m' σ' H')∧∀ x H',Itd.yld i H x H'→g x σ H' fun σ2 H2=>tb { D with nx:=N,ct:=N,bk:=D.nx } σ2 H2):=by
 refine⟨fun i m σ H=>m=8 - i∧i≤8∧Pv i σ H,⟨8,rfl,Nat.zero_le _,h0⟩,?_⟩
 rintro i m σ H ⟨rfl,hi,p⟩
 by_cases hlt:i<8
 ·refine .inr ⟨hlt,Pv (i+1),fun σ' H' p'=>⟨8 - (i+1),by lia,rfl,hlt,p'⟩,fun x H' y=>?_⟩
  obtain⟨rfl,rfl⟩:=y
  exact hs i σ _ hlt p
 ·have e:i=8:=by lia
  subst e
  exact .inl ⟨Nat.le_refl _,hd σ H p⟩
def Z9 (K:PySem.W.Frag):V→List V→Hp→VK→Prop:=fun x vs H Q=>∃ (a:Addr) (cs:List Str) (p:Str) (j:Nat),x=.ref a∧vs=[.str p]∧SqT K H a (cs.map V.str)∧cs[j]?=some p∧(∀ m,m<j→cs[m]?≠some p)∧Q (.int (j:Nat)) H
theorem ado:MtM X "tuple.index" (Z9 X.K):=by
 intro pins s σ H x vs v us Q I rx rv h
 obtain⟨a,cs,p,j,rfl,rfl,hq,hj,hn,q⟩:=h
 cases rx
 obtain⟨u,rfl,ru⟩:=rv.one
 obtain⟨its,r,ht,hz⟩:=I.tuple hq
 obtain⟨⟨cls,dd,data,sl⟩,ho,hc,n,hd⟩:=id ht
 simp only at hc hd
 subst hc hd
 have flat:∀ l:List Str,(l.map V.str).all JX=true:=fun l=>by
  rw [List.all_eq_true]; intro y hy
  obtain⟨c,_,rfl⟩:=List.mem_map.mp hy
  rfl
 have hlen:=r.length
 rw [List.length_map] at hlen
 have hjl:j<cs.length:=(List.getElem?_eq_some_iff.mp hj).1
 have at_:∀ m (hm:m<its.toArray.size),eqU (.str p) its.toArray[m]=decide (cs[m]?=some p):=fun m hm=>by
  have hm':m<cs.length:=by rw [List.size_toArray] at hm; lia
  obtain⟨u',e1,ru'⟩:=r.get (i:=m) (x:=.str cs[m]) (by rw [List.getElem?_map,List.getElem?_eq_getElem hm']; rfl)
  have e2:its.toArray[m]=u':=by
   have:=List.getElem?_eq_some_iff.mp e1
   simpa using this.2
  rw [e2,adF ru' rfl,List.getElem?_eq_getElem hm']
  show (cs[m] == p)=_
  by_cases z:cs[m]=p
  ·rw [decide_eq_true (congrArg some z),z]; exact beq_self_eq_true _
  ·rw [decide_eq_false (fun y=>z (Option.some.inj y))]; exact beq_eq_false_iff_ne.mpr z
 have hjs:j<its.toArray.size:=by rw [List.size_toArray]; lia
 refine call_meets F.slot_tuple_index ⟨_,ho,rfl⟩ F.entry_tuple_index (F.args_tuple_index_2 _ _)
  (Yu a its.toArray n dd sl u (eqU (.str p)) j hjs (by rw [at_ j hjs,hj]; exact decide_eq_true rfl) (fun m hm hlt=>by rw [at_ m hm]; exact decide_eq_false (hn m hlt))) ⟨ho,fun y hy=>?_,?_⟩
 ·exact Wv ru rfl r (flat cs) y (by simpa using hy)
 ·exact⟨.int (j:Nat),H,I.tok _,⟨_,rfl⟩,q⟩
theorem ahR {K:PySem.W.Frag}{e:Expr}{T:String}{r:V→List V→Hp→VK→Prop}{to:TE}{t:TA} (hK:X.K=K) (h:QE X e (tBM X.K T r to t)):QE X e (tBM K T r to t):=by subst hK; exact h
theorem abg {K:PySem.W.Frag} (hK:X.K=K):MtM X "tuple.index" (Z9 K):=by subst hK; exact ado
end
theorem aeW {X:Cx}:OpR X (binaryOp .FloorDiv) (rI (fun _ j=>0<j∧j.natAbs.log2<9000) fun i j=>.int (i / j)):=opI fun i j _ _ _ _ _ hc q=>by
 have h1:(0:Int)<j:=hc.1
 exact floordiv_int (by lia) (by rw [Int.fdiv_eq_ediv_of_nonneg i (by lia)]; exact q) (.inl (PyProof.noPylong_of_log2 hc.2))
end Sw
namespace Sw
theorem JZ {tx s:List T}:uh (tx,s)=bF tx s:=by
 unfold bF stepT
 match tx with
 | []=>rfl
 | .node []::ts=>rfl
 | .node (w::ws)::ts =>
  have hc:uh (.node (w::ws)::ts,s)=if aJ w=2 then (ats s 0).parts else 1:=rfl
  have hst:(onward (.node (w::ws)::ts) s).2.2=2↔aJ w=2:=by
   rw [fV]
   by_cases h7:aJ w=7
   ·rw [if_pos h7]; split <;> (constructor <;> intro z <;> (first | cases z | lia))
   rw [if_neg h7]
   by_cases h8:aJ w=8
   ·rw [if_pos h8]; split <;> (constructor <;> intro z <;> (first | cases z | lia))
   rw [if_neg h8]
   by_cases h9:aJ w=9
   ·rw [if_pos h9]; constructor <;> intro z <;> (first | cases z | lia)
   rw [if_neg h9]
  rw [hc]
  by_cases h2:aJ w=2
  ·rw [if_pos h2,if_pos (hst.mpr h2)]
  ·rw [if_neg h2,if_neg (fun z=>h2 (hst.mp z))]
theorem acv {st e:Std}{n c:Nat} (g:Wlk st n c e) (he:e.1=[]):∀ b,c≤b→(goT b st.1 st.2).1=[]∧(goT b st.1 st.2).2.1=e.2∧spT b st.1 st.2=c:=by
 induction g with
 | nil =>
  intro b _
  rw [mH (.inl he),Bu (.inl he)]
  exact⟨he,rfl,rfl⟩
 | @cons st e n c h1 h2 g ih =>
  intro b hb
  have hc:bF st.1 st.2=uh st:=(JZ (tx:=st.1) (s:=st.2)).symm
  rw [mJ h1 (by lia),Bv h1 (by lia)]
  obtain⟨i1,i2,i3⟩:=ih he (b - bF st.1 st.2) (by lia)
  exact⟨i1,i2,by rw [show (onward st.1 st.2).1=(nx st).1 from rfl,show (onward st.1 st.2).2.1=(nx st).2 from rfl,i3]; lia⟩
end Sw
namespace Sw
theorem JG {st:Std}{a:Nat} (hd:nO a st) (ha:a≤390) (hw:wt st≤7900000):BX st.1∧B 390 8000000 (.node st.2):=by
 obtain⟨h1,h2⟩:=hd
 have h3:T.au st.1+T.au st.2≤7900000:=hw
 exact⟨BX.of (a:=390) (b:=8000000) ⟨by lia,by rw [T.aL]; lia⟩ (by lia) (by lia),⟨by lia,by rw [T.aL]; lia⟩⟩
theorem aah {tx s:List T} (h:aif (tx,s)):BX tx∧B 390 8000000 (.node s):=by
 obtain⟨h1,h2,h3⟩:=h
 have h3:T.au tx+T.au s≤7900000:=h3
 exact⟨BX.of (a:=390) (b:=8000000) ⟨h1,by rw [T.aL]; lia⟩ (by lia) (by lia),⟨h2,by rw [T.aL]; lia⟩⟩
theorem af6 {st e:Std}{n c:Nat} (g:Wlk st n c e) (he:e.1=[]):∀ a,1≤a→nO a st→a+2 * n≤390→wt st+3 * c≤7900000→∀ b,Sane b st.1 st.2:=by
 induction g with
 | nil =>
  intro a ha hd hn hw b
  obtain⟨b1,b2⟩:=JG hd (by lia) (by lia)
  exact .mk b1 b2 fun z=>absurd he z
 | @cons st e n c h1 h2 g ih =>
  intro a ha hd hn hw b
  obtain⟨b1,b2⟩:=JG hd (by lia) (by lia)
  have w2:=afM h2
  exact .mk b1 b2 fun _ _=>ih he (a+2) (by lia) (abJ ha hd) (by lia) (by lia) _
def Dc (t:List T):List T:=aU 0 []::W 4::t
def xY (t:List T):List T:=W 2::Dc (W 4::t)
def Jt:List T:=W 3::xY (W 3::W 4::(cT++(W 4::cT)))
def gQ (f:List T):List T:=aU 0 f::Jt
def aQ (f:List T):List T:=aU 0 (gQ f)::gQ f
theorem acA {t cs us x:List T}{n c:Nat}{e:Std} (g:Wlk (.node t::cs,aU 0 x::us) n c e):Wlk (.node (Dc t)::cs,.node x::us) (n+2) (c+2) e:=vq (bZ g)
theorem ZK {t cs us x:List T}{n c:Nat}{e:Std} (g:Wlk (.node t::cs,.node (aU 0 x::x)::us) n c e):Wlk (.node (xY t)::cs,.node x::us) (n+4) (c+3+(T.node x).parts) e :=
 Od (acA (bZ g))
theorem abW:T.au Jt≤6000∧T.bM Jt≤90:=by decide +kernel
theorem body_parts (f:List T):(T.node (gQ f)).parts=3+T.au f+T.au Jt:=by
 unfold gQ aU dh
 rw [T.aL,T.aq,T.aL,T.aq,List.replicate_zero,T.aL,T.aR]
 lia
end Sw
namespace Sw
def evW (ω:Nat→Nat) (st:Std):Nat:=ω (stepT st.1 st.2)+(if stepT st.1 st.2=2 then (ats st.2 0).parts * ω 13 else 0)+(if stepT st.1 st.2=9 then (bD (ats (ats st.1 0).kids 0)).parts * ω 14 else 0)
inductive Wo (ω:Nat→Nat):Std→Nat→Std→Prop where
 | nil {st:Std}:Wo ω st 0 st
 | cons {st e:Std}{τ:Nat}:st.1≠[]→Wo ω (nx st) τ e→Wo ω st (τ+evW ω st) e
theorem Wo.to {ω:Nat→Nat}{st e:Std}{τ τ':Nat} (h:Wo ω st τ e) (e1:τ=τ'):Wo ω st τ' e:=by subst e1; exact h
theorem Wo.trans {ω:Nat→Nat}{a b d:Std}{τ υ:Nat} (h:Wo ω a τ b) (g:Wo ω b υ d):Wo ω a (τ+υ) d:=by
 induction h with
 | nil=>exact g.to (by lia)
 | cons h1 _ ih=>exact (Wo.cons h1 (ih g)).to (by lia)
theorem Wo.one {ω:Nat→Nat}{st e u:Std}{τ k:Nat} (h1:st.1≠[]) (h3:nx st=u) (h4:evW ω st=k) (g:Wo ω u τ e):Wo ω st (τ+k) e:=by
 subst h3; subst h4; exact .cons h1 g
theorem cC {w:T}{ws ts s:List T}:stepT (.node (w::ws)::ts) s=if aJ w=7 then (if (ats s 0).kids≠[] then 7 else 8) else if aJ w=8 then (if (ats s 0).kids≠[] then 9 else 10) else if aJ w=9 then 11 else aJ w:=by
 unfold stepT
 rw [fV]
 by_cases h7:aJ w=7
 ·rw [if_pos h7,if_pos h7]; split <;> rfl
 rw [if_neg h7,if_neg h7]
 by_cases h8:aJ w=8
 ·rw [if_pos h8,if_pos h8]; split <;> rfl
 rw [if_neg h8,if_neg h8]
 split <;> rfl
theorem cP {ω:Nat→Nat}{w:T}{ws ts s:List T}{k:Nat} (h:stepT (.node (w::ws)::ts) s=k):evW ω (.node (w::ws)::ts,s)=ω k+(if k=2 then (ats s 0).parts * ω 13 else 0)+(if k=9 then (bD w).parts * ω 14 else 0):=by
 subst h; rfl
section
variable {ω:Nat→Nat}{t cs s:List T}{e:Std}{τ:Nat}
theorem Ds {us:List T} (g:Wo ω (.node t::cs,.node us::s) τ e):Wo ω (.node (aU 0 us::t)::cs,s) (τ+ω 0) e :=
 .one (by simp) (by rw [h_ (by show 0≤6; decide),Nz rfl]; rfl) ((cP (k:=0) (by rw [cC]; rfl)).trans rfl) g
theorem mq {a:T} (g:Wo ω (.node t::cs,s) τ e):Wo ω (.node (W 1::t)::cs,a::s) (τ+ω 1) e :=
 .one (by simp) (by rw [h_ (by decide),ab2 rfl,dD (by simp)]; rfl) ((cP (k:=1) (by rw [cC]; rfl)).trans rfl) g
theorem Wq {a:T} (g:Wo ω (.node t::cs,a::a::s) τ e):Wo ω (.node (W 2::t)::cs,a::s) (τ+(ω 2+a.parts * ω 13)) e :=
 .one (by simp) (by rw [h_ (by decide),ab1 rfl,dD (by simp)]; rfl) ((cP (k:=2) (by rw [cC]; rfl)).trans rfl) g
theorem dG {a b:T} (g:Wo ω (.node t::cs,b::a::s) τ e):Wo ω (.node (W 3::t)::cs,a::b::s) (τ+ω 3) e :=
 .one (by simp) (by rw [h_ (by decide),ab0 rfl,dD (by simp)]; rfl) ((cP (k:=3) (by rw [cC]; rfl)).trans rfl) g
theorem cu {a:T}{b:List T} (g:Wo ω (.node t::cs,.node (a::b)::s) τ e):Wo ω (.node (W 4::t)::cs,a::.node b::s) (τ+ω 4) e :=
 .one (by simp) (by rw [h_ (by decide),abZ rfl,dD (by simp)]; rfl) ((cP (k:=4) (by rw [cC]; rfl)).trans rfl) g
theorem lg {a:List T} (g:Wo ω (.node t::cs,ats a 0::.node (a.drop 1)::s) τ e):Wo ω (.node (W 5::t)::cs,.node a::s) (τ+ω 5) e :=
 .one (by simp) (by rw [h_ (by decide),abY rfl,dD (by simp)]; rfl) ((cP (k:=5) (by rw [cC]; rfl)).trans rfl) g
theorem gJ {a:T}{b:List T} (g:Wo ω (.node t::cs,a::.node b::s) τ e):Wo ω (.node (W 5::t)::cs,.node (a::b)::s) (τ+ω 5) e:=lg g
theorem dU {a b d:T} (g:Wo ω (.node t::cs,d::a::b::s) τ e):Wo ω (.node (W 6::t)::cs,a::b::d::s) (τ+ω 6) e :=
 .one (by simp) (by rw [h_ (by decide),abX rfl,dD (by simp)]; rfl) ((cP (k:=6) (by rw [cC]; rfl)).trans rfl) g
theorem dF (g:Wo ω (cs,s) τ e):Wo ω (.node []::cs,s) (τ+ω 12) e :=
 .one (by simp) rfl rfl g
theorem zM {yes no:List T}{a:T} (ha:a.kids≠[]) (g:Wo ω (.node yes::.node t::cs,a::s) τ e):Wo ω (.node (nJ yes no::t)::cs,a::s) (τ+ω 7) e :=
 .one (by simp) (by
  unfold nx onward
  simp only [ats,T.kids,List.getElem?_cons_zero,Option.getD_some,List.drop_succ_cons,List.drop_zero]
  rw [if_pos (by rfl),if_pos (by exact ha),pB (by show 6<7; decide),dD (by show 1≤_; simp)]; rfl) ((cP (k:=7) (by rw [cC,if_pos (by rfl),if_pos (by exact ha)])).trans rfl) g
theorem zZ {yes no:List T}{a:T} (ha:a.kids=[]) (g:Wo ω (.node no::.node t::cs,a::s) τ e):Wo ω (.node (nJ yes no::t)::cs,a::s) (τ+ω 8) e :=
 .one (by simp) (by
  unfold nx onward
  simp only [ats,T.kids,List.getElem?_cons_zero,Option.getD_some,List.drop_succ_cons,List.drop_zero]
  rw [if_pos (by rfl),if_neg (by exact fun z=>z ha),pB (by show 6<7; decide),dD (by show 1≤_; simp)]; rfl) ((cP (k:=8) (by rw [cC,if_pos (by rfl),if_neg (by exact fun z=>z ha)])).trans rfl) g
theorem JH {as:List T} (g:Wo ω (.node t::cs,s) τ e):∀ {k:Nat},as.length=k→Wo ω (.node (Gu k t)::cs,as++s) (τ+k * ω 1) e:=by
 intro k hk
 induction as generalizing k with
 | nil=>cases hk; exact g.to (by simp)
 | cons a as ih=>cases hk; exact (mq (ih rfl)).to (by rw [List.length_cons,Nat.succ_mul]; lia)
theorem aij {us:List T}{l:T}{w:T}{ts st:List T} (g:Wo ω (.node t::cs,.node (w::ts)::.node (l::st)::us) τ e):Wo ω (.node (aaL t)::cs,l::w::.node ts::.node st::us) (τ+(4 * ω 6+2 * ω 4+ω 3)) e :=
 (dU (dU (cu (dU (dU (cu (dG g))))))).to (by lia)
theorem ae5 {us:List T}{l w:T}{ts st:List T} (g:Wo ω (.node t::cs,ats st 0::.node (st.drop 1)::.node (w::ts)::us) τ e):Wo ω (.node (Qz t)::cs,l::w::.node ts::.node st::us) (τ+(ω 1+ω 4+ω 3+ω 5)) e :=
 (mq (cu (dG (lg g)))).to (by lia)
theorem Uy {us:List T}{l w:T}{ts st:List T} (g:Wo ω (.node t::cs,ats st 0::.node (st.drop 1)::.node (w::ts)::l::us) τ e):Wo ω (.node (Qy t)::cs,l::w::.node ts::.node st::us) (τ+(3 * ω 6+ω 4+ω 5)) e :=
 (dU (dU (cu (dU (lg g))))).to (by lia)
def wkW (ω:Nat→Nat) (p:Nat):Nat→Nat
 | 1=>ω 1
 | 2=>ω 2+p * ω 13+ω 6+2 * ω 3+2 * ω 4
 | 3=>3 * ω 3+ω 5+ω 6+2 * ω 4
 | 4=>ω 3+ω 5+ω 6+2 * ω 4
 | 5=>ω 5+2 * ω 6+2 * ω 4+ω 3
 | 6=>4 * ω 3+2 * ω 5+2 * ω 6+3 * ω 4
 | _=>0
theorem ae4 {us:List T}{x:T}{st:List T}:∀ {k:Nat},1≤k→k≤6→Wo ω (.node t::cs,.node (mO k st)::x::us) τ e →
  Wo ω (.node (Qx k++t)::cs,ats st 0::.node (st.drop 1)::x::us) (τ+wkW ω (ats st 0).parts k) e:=by
 intro k h1 h6 g
 rcases (by lia:k=1∨k=2∨k=3∨k=4∨k=5∨k=6) with rfl | rfl | rfl | rfl | rfl | rfl
 ·exact mq g
 ·exact (Wq (dU (dG (cu (dG (cu g)))))).to (by show _=τ+(ω 2+(ats st 0).parts * ω 13+ω 6+2 * ω 3+2 * ω 4); lia)
 ·exact (dG (lg (dG (dU (cu (dG (cu (by rw [List.drop_drop]; exact g)))))))).to (by show _=τ+(3 * ω 3+ω 5+ω 6+2 * ω 4); lia)
 ·refine (dG (lg (dU (τ:=τ+ω 4+ω 4) ?_))).to (by show _=τ+(ω 3+ω 5+ω 6+2 * ω 4); lia)
  rw [show ats (st.drop 1) 0=.node (ats (st.drop 1) 0).kids from (gM _).symm]
  exact cu (cu (by rw [List.drop_drop]; exact g))
 ·rw [show ats st 0=.node (ats st 0).kids from (gM _).symm]
  exact (lg (dU (dU (cu (dG (cu g)))))).to (by show _=τ+(ω 5+2 * ω 6+2 * ω 4+ω 3); lia)
 ·exact (dG (lg (dG (lg (dG (dU (cu (dU (cu (dG (cu (by rw [List.drop_drop,List.drop_drop]; exact g)))))))))))).to (by show _=τ+(4 * ω 3+2 * ω 5+2 * ω 6+3 * ω 4); lia)
theorem xP (k:Nat) (g:Wo ω (cs,s) τ e):Wo ω (List.replicate k (.node [])++cs,s) (τ+k * ω 12) e:=by
 induction k with
 | zero=>exact g.to (by simp)
 | succ k ih=>exact (dF ih).to (by rw [Nat.succ_mul]; lia)
theorem B_ {fs:List T}{d:Nat}:∀ {as cs s:List T},Wo ω (.node (cF d)::(List.replicate as.length (.node [])++cs),.node fs::(as.reverse++s)) τ e →
  Wo ω (.node (cF (as.length+d))::cs,.node (as++fs)::s) (τ+as.length * (ω 7+ω 5+ω 3)) e:=by
 intro as
 induction as with
 | nil=>intro cs s g; rw [List.length_nil,Nat.zero_add,Nat.zero_mul]; exact g
 | cons a as ih =>
  intro cs s g
  have g':Wo ω (.node (cF d)::(List.replicate as.length (.node [])++.node []::cs),.node fs::(as.reverse++a::s)) τ e:=by
   rw [Z7]
   rw [List.reverse_cons,List.append_assoc] at g
   exact g
  rw [List.length_cons,show as.length+1+d=as.length+d+1 by lia]
  exact (zM (yes:=W 5::W 3::cF (as.length+d)) (a:=.node (a::(as++fs))) (by simp [T.kids]) (gJ (dG (ih g')))).to (by rw [Nat.succ_mul]; lia)
theorem adi:∀ {as fs s:List T},Wo ω (.node t::cs,.node (as.reverse++fs)::s) τ e→Wo ω (.node (Ju as.length t)::cs,.node fs::(as++s)) (τ+as.length * (ω 3+ω 4)) e:=by
 intro as
 induction as with
 | nil=>intro fs s g; exact g.to (by simp)
 | cons a as ih =>
  intro fs s g
  rw [List.reverse_cons,List.append_assoc] at g
  exact (dG (cu (ih g))).to (by rw [List.length_cons,Nat.succ_mul]; lia)
def Jy (ω:Nat→Nat) (k p b:Nat) (full:Bool):Nat :=
 if k=0 then ω 8+ω 1+(4 * ω 6+2 * ω 4+ω 3)+2 * ω 12
 else if k≤6 then k * (ω 7+ω 5+ω 3)+ω 8+(k+1) * ω 1+(ω 1+ω 4+ω 3+ω 5)+wkW ω p k+ω 3+k * ω 12+2 * ω 12
 else if k=7 then 7 * (ω 7+ω 5+ω 3)+ω 8+8 * ω 1+(3 * ω 6+ω 4+ω 5)+(if full then ω 7+(2 * ω 4+2 * ω 3+ω 6+ω 5+ω 1) else ω 8+(2 * ω 4+ω 3+ω 6+ω 5+ω 1))+10 * ω 12
 else if k=8 then 8 * (ω 7+ω 5+ω 3)+ω 8+8 * (ω 3+ω 4)+ω 4+(3 * ω 6+ω 4+ω 5)+(if full then ω 7+(5 * ω 4+3 * ω 3+4 * ω 6+2 * ω 5+ω 2+b * ω 13) else ω 8+(ω 4+ω 6+ω 1+ω 3))+11 * ω 12
 else 8 * (ω 7+ω 5+ω 3)+ω 7+10 * ω 1+ω 4+10 * ω 12
theorem Pa {us as l xs ts st:List T} (g:Wo ω (cs,.node (resT as l xs ts st).1::.node (resT as l xs ts st).2::us) τ e) :
  Wo ω (.node (cF 8)::cs,.node as::.node l::.node xs::.node ts::.node st::us) (τ+Jy ω as.length (ats st 0).parts (T.node l).parts (decide ((ats st 0).kids≠[]))) e:=by
 unfold Jy
 by_cases h0:as.length=0
 ·have:as=[]:=List.length_eq_zero_iff.mp h0
  subst this
  rw [if_pos h0]
  have g:Wo ω (cs,.node (.node xs::ts)::.node (.node l::st)::us) τ e:=g
  exact (zZ rfl (mq (aij (dF (dF g))))).to (by lia)
 rw [resT,if_neg h0] at g
 rw [if_neg h0]
 by_cases h6:as.length≤6
 ·rw [if_pos h6] at g ⊢
  have g1:=dF (dF (xP as.length g))
  have g2:=ae4 (k:=as.length) (by lia) h6 (dG g1)
  have g3:=JH (as:=.node []::as.reverse) (ae5 (l:=.node l) g2) (k:=as.length+1) (by rw [List.length_cons,List.length_reverse])
  have e8:cF 8=cF (as.length+(8 - as.length)):=by rw [show as.length+(8 - as.length)=8 by lia]
  rw [e8,show T.node as=T.node (as++[]) by rw [List.append_nil]]
  refine (B_ (τ:=(τ+as.length * ω 12+ω 12+ω 12+ω 3+wkW ω (ats st 0).parts as.length+(ω 1+ω 4+ω 3+ω 5)+(as.length+1) * ω 1)+ω 8) ?_).to (by lia)
  have e9:cF (8 - as.length)=[nJ (W 5::W 3::cF (7 - as.length)) (pC as.length)]:=by
   rw [show 8 - as.length=(7 - as.length)+1 by lia,cF,show 7 - (7 - as.length)=as.length by lia]
  rw [e9]
  refine zZ rfl ?_
  rw [pC,if_neg h0,if_neg (by lia)]
  exact g3
 rw [if_neg h6] at g ⊢
 by_cases h7:as.length=7
 ·rw [if_pos h7] at g ⊢
  have e8:cF 8=cF (as.length+1):=by rw [h7]
  have e9:cF 1=[nJ (W 5::W 3::cF 0) (pC 7)]:=rfl
  by_cases ht:(ats st 0).kids≠[]
  ·rw [if_pos ht] at g
   rw [if_pos (decide_eq_true ht)]
   have g1:=dF (dF (dF (xP as.length g)))
   rw [e8,show T.node as=T.node (as++[]) by rw [List.append_nil]]
   refine (B_ (τ:=(τ+as.length * ω 12+ω 12+ω 12+ω 12+(2 * ω 4+2 * ω 3+ω 6+ω 5+ω 1)+ω 7+(3 * ω 6+ω 4+ω 5)+(7+1) * ω 1)+ω 8) ?_).to (by rw [h7]; lia)
   rw [e9]
   refine zZ rfl ?_
   rw [pC,if_neg (by decide),if_pos rfl]
   exact (JH (as:=.node []::as.reverse) (Uy (zM ht (cu (dG (dU (lg (dG (mq (cu g1))))))))) (k:=7+1) (by rw [List.length_cons,List.length_reverse,h7])).to (by lia)
  ·rw [if_neg ht] at g
   rw [if_neg (by rw [decide_eq_true_eq]; exact ht)]
   have g1:=dF (dF (dF (xP as.length g)))
   rw [e8,show T.node as=T.node (as++[]) by rw [List.append_nil]]
   refine (B_ (τ:=(τ+as.length * ω 12+ω 12+ω 12+ω 12+(2 * ω 4+ω 3+ω 6+ω 5+ω 1)+ω 8+(3 * ω 6+ω 4+ω 5)+(7+1) * ω 1)+ω 8) ?_).to (by rw [h7]; lia)
   rw [e9]
   refine zZ rfl ?_
   rw [pC,if_neg (by decide),if_pos rfl]
   exact (JH (as:=.node []::as.reverse) (Uy (zZ (Classical.not_not.mp ht) (cu (dG (dU (lg (mq (cu g1)))))))) (k:=7+1) (by rw [List.length_cons,List.length_reverse,h7])).to (by lia)
 rw [if_neg h7] at g ⊢
 by_cases h8:as.length=8
 ·rw [if_pos h8] at g ⊢
  have e8:cF 8=cF (as.length+0):=by rw [h8]
  have eb:vM=Ju as.reverse.length (W 4::Qy [nJ aaM aaK]):=by rw [List.length_reverse,h8]; rfl
  by_cases ht:(ats st 0).kids≠[]
  ·rw [if_pos ht] at g
   rw [if_pos (decide_eq_true ht)]
   have g1:=dF (dF (dF (xP as.length g)))
   rw [e8,show T.node as=T.node (as++[]) by rw [List.append_nil]]
   refine (B_ (τ:=(τ+as.length * ω 12+ω 12+ω 12+ω 12+(5 * ω 4+3 * ω 3+4 * ω 6+2 * ω 5+ω 2+(T.node l).parts * ω 13)+ω 7+(3 * ω 6+ω 4+ω 5)+ω 4+as.length * (ω 3+ω 4))+ω 8) ?_).to (by rw [h8]; lia)
   refine zZ rfl ?_
   rw [eb]
   refine (adi (τ:=τ+as.length * ω 12+ω 12+ω 12+ω 12+(5 * ω 4+3 * ω 3+4 * ω 6+2 * ω 5+ω 2+(T.node l).parts * ω 13)+ω 7+(3 * ω 6+ω 4+ω 5)+ω 4) ?_).to (by rw [List.length_reverse])
   rw [List.reverse_reverse,List.append_nil]
   exact (cu (Uy (zM ht (cu (dG (dU (gJ (dG (Wq (dU (cu (dU (gJ (dU (cu (cu (dG (cu g1)))))))))))))))))).to (by lia)
  ·rw [if_neg ht] at g
   rw [if_neg (by rw [decide_eq_true_eq]; exact ht)]
   have g1:=dF (dF (dF (xP as.length g)))
   rw [e8,show T.node as=T.node (as++[]) by rw [List.append_nil]]
   refine (B_ (τ:=(τ+as.length * ω 12+ω 12+ω 12+ω 12+(ω 4+ω 6+ω 1+ω 3)+ω 8+(3 * ω 6+ω 4+ω 5)+ω 4+as.length * (ω 3+ω 4))+ω 8) ?_).to (by rw [h8]; lia)
   refine zZ rfl ?_
   rw [eb]
   refine (adi (τ:=τ+as.length * ω 12+ω 12+ω 12+ω 12+(ω 4+ω 6+ω 1+ω 3)+ω 8+(3 * ω 6+ω 4+ω 5)+ω 4) ?_).to (by rw [List.length_reverse])
   rw [List.reverse_reverse,List.append_nil]
   exact (cu (Uy (zZ (Classical.not_not.mp ht) (cu (dU (mq (dG g1))))))).to (by lia)
 ·rw [if_neg h8] at g ⊢
  have hl:(as.take 8).length=8:=by rw [List.length_take]; lia
  have g1:=dF (dF (xP 8 g))
  have e8:cF 8=cF ((as.take 8).length+0):=by rw [hl]
  rw [e8,show T.node as=T.node (as.take 8++as.drop 8) by rw [List.take_append_drop]]
  refine (B_ (τ:=(τ+8 * ω 12+ω 12+ω 12+ω 4+10 * ω 1)+ω 7) ?_).to (by rw [hl]; lia)
  rw [hl]
  refine zM ?_ ?_
  ·show as.drop 8≠[]
   intro z
   have:=congrArg List.length z
   rw [List.length_drop,List.length_nil] at this
   lia
  ·have:=JH (as:=.node (as.drop 8)::((as.take 8).reverse++[.node l])) (cu g1) (k:=10) (by rw [List.length_cons,List.length_append,List.length_reverse,hl]; rfl)
   rw [List.cons_append,List.append_assoc] at this
   exact this
def aX (ω:Nat→Nat):Nat→Nat
 | 0=>ω 1+ω 3+2 * ω 4+3 * ω 5+4 * ω 6+ω 7+ω 8+ω 9+3 * ω 12+1169 * ω 14
 | 1=>4 * ω 1+3 * ω 3+ω 4+5 * ω 5+2 * ω 7+ω 8+ω 9+4 * ω 12+1169 * ω 14
 | 2=>4 * ω 1+ω 2+6 * ω 3+3 * ω 4+6 * ω 5+ω 6+3 * ω 7+ω 8+ω 9+5 * ω 12+1169 * ω 14
 | 3=>5 * ω 1+8 * ω 3+3 * ω 4+8 * ω 5+ω 6+4 * ω 7+ω 8+ω 9+6 * ω 12+1169 * ω 14
 | 4=>6 * ω 1+7 * ω 3+3 * ω 4+9 * ω 5+ω 6+5 * ω 7+ω 8+ω 9+7 * ω 12+1169 * ω 14
 | 5=>7 * ω 1+8 * ω 3+3 * ω 4+10 * ω 5+2 * ω 6+6 * ω 7+ω 8+ω 9+8 * ω 12+1169 * ω 14
 | 6=>8 * ω 1+12 * ω 3+4 * ω 4+12 * ω 5+2 * ω 6+7 * ω 7+ω 8+ω 9+9 * ω 12+1169 * ω 14
 | 7=>9 * ω 1+9 * ω 3+3 * ω 4+12 * ω 5+4 * ω 6+9 * ω 7+ω 8+ω 9+11 * ω 12+1169 * ω 14
 | 8=>9 * ω 1+8 * ω 3+3 * ω 4+12 * ω 5+4 * ω 6+8 * ω 7+2 * ω 8+ω 9+11 * ω 12+1169 * ω 14
 | 9=>ω 2+19 * ω 3+15 * ω 4+14 * ω 5+7 * ω 6+10 * ω 7+ω 8+ω 9+12 * ω 12+1169 * ω 14
 | 10=>ω 1+17 * ω 3+11 * ω 4+12 * ω 5+4 * ω 6+9 * ω 7+2 * ω 8+ω 9+12 * ω 12+1169 * ω 14
 | 11=>10 * ω 1+8 * ω 3+ω 4+11 * ω 5+10 * ω 7+ω 9+11 * ω 12+1169 * ω 14
 | 12=>ω 1+ω 5+ω 8+ω 9+2 * ω 12+1169 * ω 14
 | 13=>ω 13
 | 14=>ω 13
 | _=>0
theorem wV:(T.node eY).parts=1169:=by decide +kernel
theorem abE {tx s:List T} (h:tx≠[]):evW ω (.node bK::cs,.node tx::s)=ω 9+1169 * ω 14:=by
 rw [show bK=aU 8 eY::[W 1,W 5,W 3,W 1] from rfl,cP (k:=9) (by rw [cC,if_neg (by show 8≠7; decide),if_pos (by rfl),if_pos (by exact h)]),if_neg (by decide),if_pos rfl,show bD (aU 8 eY)=.node eY from rfl,wV]
 lia
theorem agZ {s:List T}:evW ω (.node bK::cs,.node []::s)=ω 10:=by
 rw [show bK=aU 8 eY::[W 1,W 5,W 3,W 1] from rfl,cP (k:=10) (by rw [cC,if_neg (by show 8≠7; decide),if_pos (by rfl),if_neg (by exact fun z=>z rfl)])]
 rfl
theorem aaq {as l xs ts st:List T}:evW (aX ω) (.node (.node (.node as::l)::xs)::ts,st)=3 * ω 5+ω 7+Jy ω as.length (ats st 0).parts (T.node l).parts (decide ((ats st 0).kids≠[]))+ω 12+ω 9+1169 * ω 14:=by
 have hs:aJ (.node (.node as::l))=min 9 as.length:=rfl
 have hld:bD (.node (.node as::l))=.node l:=rfl
 unfold Jy
 by_cases h0:as.length=0
 ·rw [if_pos h0,cP (k:=0) (by rw [cC,hs,if_neg (by lia),if_neg (by lia),if_neg (by lia)]; lia)]
  show aX ω 0+0+0=_
  simp only [aX]; lia
 rw [if_neg h0]
 by_cases h6:as.length≤6
 ·rw [if_pos h6]
  rcases (by lia:as.length=1∨as.length=2∨as.length=3∨as.length=4∨as.length=5∨as.length=6) with hk | hk | hk | hk | hk | hk
  ·rw [hk,cP (k:=1) (by rw [cC,hs,if_neg (by lia),if_neg (by lia),if_neg (by lia)]; lia)]
   show aX ω 1+0+0=_
   simp only [aX,wkW]; lia
  ·rw [hk,cP (k:=2) (by rw [cC,hs,if_neg (by lia),if_neg (by lia),if_neg (by lia)]; lia)]
   show aX ω 2+(ats st 0).parts * aX ω 13+0=_
   rw [show aX ω 13=ω 13 from rfl]
   simp only [aX,wkW]; lia
  ·rw [hk,cP (k:=3) (by rw [cC,hs,if_neg (by lia),if_neg (by lia),if_neg (by lia)]; lia)]
   show aX ω 3+0+0=_
   simp only [aX,wkW]; lia
  ·rw [hk,cP (k:=4) (by rw [cC,hs,if_neg (by lia),if_neg (by lia),if_neg (by lia)]; lia)]
   show aX ω 4+0+0=_
   simp only [aX,wkW]; lia
  ·rw [hk,cP (k:=5) (by rw [cC,hs,if_neg (by lia),if_neg (by lia),if_neg (by lia)]; lia)]
   show aX ω 5+0+0=_
   simp only [aX,wkW]; lia
  ·rw [hk,cP (k:=6) (by rw [cC,hs,if_neg (by lia),if_neg (by lia),if_neg (by lia)]; lia)]
   show aX ω 6+0+0=_
   simp only [aX,wkW]; lia
 rw [if_neg h6]
 by_cases h7:as.length=7
 ·rw [if_pos h7]
  by_cases ht:(ats st 0).kids≠[]
  ·rw [if_pos (decide_eq_true ht),cP (k:=7) (by rw [cC,hs,if_pos (by lia),if_pos ht])]
   show aX ω 7+0+0=_
   simp only [aX]; lia
  ·rw [if_neg (by rw [decide_eq_true_eq]; exact ht),cP (k:=8) (by rw [cC,hs,if_pos (by lia),if_neg ht])]
   show aX ω 8+0+0=_
   simp only [aX]; lia
 rw [if_neg h7]
 by_cases h8:as.length=8
 ·rw [if_pos h8]
  by_cases ht:(ats st 0).kids≠[]
  ·rw [if_pos (decide_eq_true ht),cP (k:=9) (by rw [cC,hs,if_neg (by lia),if_pos (by lia),if_pos ht]),hld]
   show aX ω 9+0+(T.node l).parts * aX ω 14=_
   rw [show aX ω 14=ω 13 from rfl]
   simp only [aX]; lia
  ·rw [if_neg (by rw [decide_eq_true_eq]; exact ht),cP (k:=10) (by rw [cC,hs,if_neg (by lia),if_pos (by lia),if_neg ht])]
   show aX ω 10+0+0=_
   simp only [aX]; lia
 ·rw [if_neg h8,cP (k:=11) (by rw [cC,hs,if_neg (by lia),if_neg (by lia),if_pos (by lia)])]
  show aX ω 11+0+0=_
  simp only [aX]; lia
theorem o_head {us tx st:List T} (h:tx≠[]) (g:Wo ω (.node bK::cs,.node (onward tx st).1::.node (onward tx st).2.1::us) τ e) :
  Wo ω (.node bK::cs,.node tx::.node st::us) (τ+evW (aX ω) (tx,st)) e:=by
 match tx,h with
 | .node []::ts,h =>
  refine (Wo.one (by simp) (abz h) (abE h) (gJ (zZ rfl (mq (dF (dF g)))))).to ?_
  rw [show evW (aX ω) (.node []::ts,st)=aX ω 12 from rfl]
  simp only [aX]; lia
 | .node (.node []::xs)::ts,h =>
  have hr:=res_none (s:=st) (xs:=xs) (ts:=ts)
  have g2:Wo ω (.node bK::cs,.node (resT [] [] xs ts st).1::.node (resT [] [] xs ts st).2::us) τ e:=by rw [← hr]; exact g
  have g3:=Pa (as:=[]) (l:=[]) (xs:=xs) (ts:=ts) (st:=st) (us:=us) (dF g2)
  refine (Wo.one (by simp) (abz h) (abE h) (gJ (zM (by simp [T.kids]) (gJ (lg g3))))).to ?_
  rw [cP (k:=0) (by rw [cC]; rfl)]
  show _=τ+(aX ω 0+0+0)
  unfold Jy
  rw [if_pos (by rfl)]
  simp only [aX]
  lia
 | .node (.node (.node as::l)::xs)::ts,h =>
  have hr:=VN (s:=st) (as:=as) (l:=l) (xs:=xs) (ts:=ts)
  have g2:Wo ω (.node bK::cs,.node (resT as l xs ts st).1::.node (resT as l xs ts st).2::us) τ e:=by rw [← hr]; exact g
  have g3:=Pa (as:=as) (l:=l) (xs:=xs) (ts:=ts) (st:=st) (us:=us) (dF g2)
  refine (Wo.one (by simp) (abz h) (abE h) (gJ (zM (by simp [T.kids]) (gJ (gJ g3))))).to ?_
  rw [aaq]
  lia
theorem agJ {st e:Std} (h:Wo (aX ω) st τ e):∀ {us cs:List T},e.1=[]→Wo ω (.node bK::cs,.node st.1::.node st.2::us) (τ+(ω 10+2 * ω 1+ω 5+ω 3+ω 12)) (cs,ats e.2 0::us):=by
 induction h with
 | @nil st =>
  intro us cs he
  rw [he]
  exact (Wo.one (by simp) agV agZ (mq (lg (dG (mq (dF .nil)))))).to (by lia)
 | @cons st e τ h1 _ ih =>
  intro us cs he
  exact (o_head h1 (ih he)).to (by show _=τ+evW (aX ω) (st.1,st.2)+_; lia)
def jD (ω:Nat→Nat):Nat:=2 * ω 0+2 * ω 1+ω 3+2 * ω 4+2 * ω 5+2 * ω 6+ω 10+ω 12
theorem aii {x:T}{its us cs s:List T} (h:Wo (aX ω) ([x],[.node its]) τ ([],s)):Wo ω (.node cT::cs,.node (x::its)::us) (τ+jD ω) (cs,ats s 0::us):=by
 have g:=agJ (us:=us) (cs:=cs) h rfl
 exact (gJ (Ds (dU (cu (Ds (dU (cu g))))))).to (by unfold jD; lia)
end
def bB (ω:Nat→Nat):Nat→List Nat→Nat
 | _,[]=>0
 | i,n::ns=>n * ω i+bB ω (i+1) ns
theorem sX (ω:Nat→Nat):∀ (ns ms:List Nat) (i:Nat),ns.length=ms.length→bB ω i (eN ns ms)=bB ω i ns+bB ω i ms
 | [],[],_,_=>rfl
 | n::ns,m::ms,i,h=>by
  have ih:=sX ω ns ms (i+1) (by simpa using h)
  show (n+m) * ω i+bB ω (i+1) (eN ns ms)=n * ω i+bB ω (i+1) ns+(m * ω i+bB ω (i+1) ms)
  rw [ih,Nat.add_mul]
  lia
 | [],_::_,_,h=>by simp at h
 | _::_,[],_,h=>by simp at h
theorem Xr (ω:Nat→Nat):bB ω 0 gW=0:=by
 unfold gW
 simp [bB,List.replicate]
theorem adH {ω:Nat→Nat}{tx s:List T}:bB ω 0 (mL tx s)=evW ω (tx,s):=by
 have h12:=xJ (tx:=tx) (s:=s)
 unfold mL evW
 show _=ω (stepT tx s)+(if stepT tx s=2 then (ats s 0).parts * ω 13 else 0)+(if stepT tx s=9 then (bD (ats (ats tx 0).kids 0)).parts * ω 14 else 0)
 generalize stepT tx s=k at *
 generalize (ats s 0).parts=p
 generalize (bD (ats (ats tx 0).kids 0)).parts=b
 by_cases h2:k=2
 ·subst h2
  rw [if_pos rfl,if_pos rfl,if_neg (by decide)]
  simp [ev0,bB,List.replicate,List.set]
 rw [if_neg h2,if_neg h2]
 by_cases h9:k=9
 ·subst h9
  rw [if_pos rfl,if_pos rfl]
  simp [ev0,bB,List.replicate,List.set]
 rw [if_neg h9,if_neg h9]
 rcases (by lia:k=0∨k=1∨k=3∨k=4∨k=5∨k=6∨k=7∨k=8∨k=10∨k=11∨k=12) with rfl | rfl | rfl | rfl | rfl | rfl | rfl | rfl | rfl | rfl | rfl <;> simp [ev0,bB,List.replicate,List.set]
theorem Xv (ω:Nat→Nat):∀ (ns:List Nat) (i:Nat),(∀ j,i≤j→ω j=0)→bB ω i ns=0
 | [],_,_=>rfl
 | n::ns,i,h=>by
  show n * ω i+bB ω (i+1) ns=0
  rw [h i (Nat.le_refl _),Xv ω ns (i+1) (fun j hj=>h j (by lia)),Nat.mul_zero]
theorem Ed:∀ (ns:List Nat) (i k:Nat),bB (fun j=>if j=i+k then 1 else 0) i ns=ns.getD k 0
 | [],_,_=>rfl
 | n::ns,i,0=>by
  show n * (if i=i+0 then 1 else 0)+bB _ (i+1) ns=n
  rw [if_pos (by lia),Xv _ ns (i+1) (fun j hj=>if_neg (by lia))]
  lia
 | n::ns,i,k+1=>by
  show n * (if i=i+(k+1) then 1 else 0)+bB _ (i+1) ns=(n::ns).getD (k+1) 0
  rw [if_neg (by lia),show i+(k+1)=i+1+k by lia,Ed ns (i+1) k,List.getD_cons_succ]
  lia
theorem ag4 {ns ms:List Nat} (hl:ns.length=ms.length) (h:∀ ω,bB ω 0 ns=bB ω 0 ms):ns=ms:=by
 refine List.ext_getElem hl fun i h1 h2=>?_
 have e:=h (fun j=>if j=0+i then 1 else 0)
 rw [Ed,Ed,List.getD_eq_getElem?_getD,List.getD_eq_getElem?_getD,List.getElem?_eq_getElem h1,List.getElem?_eq_getElem h2] at e
 exact e
theorem U5 {ω:Nat→Nat}{st e:Std}{τ:Nat} (g:Wo ω st τ e) (he:e.1=[]):∀ b,(goT b st.1 st.2).1=[]→bB ω 0 (goT b st.1 st.2).2.2=τ∧(goT b st.1 st.2).2.1=e.2:=by
 induction g with
 | nil =>
  intro b _
  rw [mH (.inl he)]
  exact⟨Xr ω,rfl⟩
 | @cons st e τ h1 g ih =>
  intro b hb
  by_cases hc:bF st.1 st.2≤b
  ·rw [mJ h1 hc] at hb ⊢
   obtain⟨i1,i2⟩:=ih he (b - bF st.1 st.2) hb
   refine⟨?_,i2⟩
   show bB ω 0 (eN _ _)=_
   rw [sX _ _ _ _ (by rw [HJ,rC]),adH]
   have i1:bB ω 0 (goT (b - bF st.1 st.2) (onward st.1 st.2).1 (onward st.1 st.2).2.1).2.2=τ:=i1
   rw [i1]
   show evW ω st+τ=τ+evW ω st
   lia
  ·rw [mH (.inr (by lia))] at hb
   exact absurd hb h1
def dj:Nat→Nat:=fun i=>if i=2∨i=14 then 0 else 1
theorem M9 {st:Std}:evW dj st=bF st.1 st.2:=by
 have h12:=xJ (tx:=st.1) (s:=st.2)
 unfold evW bF
 generalize stepT st.1 st.2=k at *
 by_cases h2:k=2
 ·subst h2
  rw [if_pos rfl,if_neg (by decide),if_pos rfl]
  show 0+_ * 1+0=_
  lia
 ·rw [if_neg h2,if_neg h2,show dj k=1 from if_neg (by lia)]
  split
  ·show 1+0+_ * 0=1; lia
  ·rfl
theorem af5 {st e:Std}{c:Nat} (g:Wo dj st c e) (he:e.1=[]):∀ b,c≤b→(goT b st.1 st.2).1=[]∧spT b st.1 st.2=c:=by
 induction g with
 | nil =>
  intro b _
  rw [mH (.inl he),Bu (.inl he)]
  exact⟨he,rfl⟩
 | @cons st e τ h1 g ih =>
  intro b hb
  rw [M9] at hb ⊢
  rw [mJ h1 (by lia),Bv h1 (by lia)]
  obtain⟨i1,i2⟩:=ih he (b - bF st.1 st.2) (by lia)
  exact⟨i1,by rw [show (onward st.1 st.2).1=(nx st).1 from rfl,show (onward st.1 st.2).2.1=(nx st).2 from rfl,i2]; lia⟩
theorem ahp {st e:Std}{c:Nat} (g:Wo dj st c e):∀ b,b<c→(goT b st.1 st.2).1≠[]:=by
 induction g with
 | nil=>intro b hb; lia
 | @cons st e τ h1 g ih =>
  intro b hb
  rw [M9] at hb
  by_cases hc:bF st.1 st.2≤b
  ·rw [mJ h1 hc]
   exact ih (b - bF st.1 st.2) (by lia)
  ·rw [mH (.inr (by lia))]
   exact h1
theorem ajR {ω:Nat→Nat}:∀ b tx s,(goT b tx s).1=[]→Wo ω (tx,s) (bB ω 0 (goT b tx s).2.2) ([],(goT b tx s).2.1):=by
 refine uH (fun b tx s h=>?_) (fun b tx s h1 h2 ih=>?_)
 ·rw [mH h]
  intro he
  have he:tx=[]:=he
  subst he
  exact Wo.nil.to (Xr ω).symm
 ·rw [mJ h1 h2]
  intro he
  have g:=Wo.cons (ω:=ω) (st:=(tx,s)) h1 (ih he)
  refine g.to ?_
  show _=bB ω 0 (eN _ _)
  rw [sX _ _ _ _ (by rw [HJ,rC]),adH]
  lia
end Sw
namespace Sw
theorem aem {D W n:Nat}{e:Std} (h4:4≤D) (hD:D≤280) (hW:W≤7900000) (k:∀ b,Sane b e.1 e.2):∀ {st:Std},Way D W st n e→∀ b,Sane b st.1 st.2:=by
 induction n with
 | zero=>intro st h b; rw [h.at]; exact k b
 | succ n ih =>
  intro st h b
  obtain⟨_,_,h'⟩:=h.step h4
  obtain⟨b1,b2⟩:=aah (tx:=st.1) (s:=st.2) (h.ok hD hW)
  exact .mk b1 b2 fun _ _=>ih h' _
end Sw
namespace Sw
def xR:List Nat:=[2,2,0,1,2,2,2,0,0,0,1,0,1,0,0]
def xq:List (List Nat):=[[0,1,0,1,2,3,4,1,1,1,0,0,3,0,1169],
 [0,4,0,3,1,5,0,2,1,1,0,0,4,0,1169],
 [0,4,1,6,3,6,1,3,1,1,0,0,5,0,1169],
 [0,5,0,8,3,8,1,4,1,1,0,0,6,0,1169],
 [0,6,0,7,3,9,1,5,1,1,0,0,7,0,1169],
 [0,7,0,8,3,10,2,6,1,1,0,0,8,0,1169],
 [0,8,0,12,4,12,2,7,1,1,0,0,9,0,1169],
 [0,9,0,9,3,12,4,9,1,1,0,0,11,0,1169],
 [0,9,0,8,3,12,4,8,2,1,0,0,11,0,1169],
 [0,0,1,19,15,14,7,10,1,1,0,0,12,0,1169],
 [0,1,0,17,11,12,4,9,2,1,0,0,12,0,1169],
 [0,10,0,8,1,11,0,10,0,1,0,0,11,0,1169],
 [0,1,0,0,0,1,0,0,1,1,0,0,2,0,1169],
 [0,0,0,0,0,0,0,0,0,0,0,0,0,1,0],
 [0,0,0,0,0,0,0,0,0,0,0,0,0,1,0]]
def zY:List Nat→List (List Nat)→List Nat→List Nat
 | n::ns,r::rs,acc=>zY ns rs (acc.zipWith (· + ·) (r.map (n * ·)))
 | _,_,acc=>acc
def turnT (ns:List Nat):List Nat:=zY ns xq xR
theorem KR:∀ {ns:List Nat}{rs:List (List Nat)}{acc:List Nat},(∀ r∈rs,r.length=15)→acc.length=15→(zY ns rs acc).length=15
 | [],_,_,_,h=>by cases ‹List (List Nat)› <;> exact h
 | _::_,[],_,_,h=>h
 | n::ns,r::rs,acc,h,ha=>by
  have hr:=h r List.mem_cons_self
  exact KR (ns:=ns) (rs:=rs) (acc:=acc.zipWith (· + ·) (r.map (n * ·))) (fun r' hr'=>h r' (List.mem_cons_of_mem _ hr')) (by rw [List.length_zipWith,ha,List.length_map,hr]; rfl)
theorem Tw:∀ {i:Nat}{ns:List Nat}{rs:List (List Nat)}{acc:List Nat}{n:Nat}{r:List Nat},ns[i]?=some n→rs[i]?=some r→zY (ns.take (i+1)) rs acc=(zY (ns.take i) rs acc).zipWith (· + ·) (r.map (n * ·))
 | 0,n::ns,r::rs,acc,_,_,h1,h2=>by cases h1; cases h2; cases rs <;> rfl
 | i+1,n::ns,r::rs,acc,m,q,h1,h2=>by
  show zY (ns.take (i+1)) rs _=(zY (ns.take i) rs _).zipWith (· + ·) _
  exact Tw (by simpa using h1) (by simpa using h2)
theorem DY:∀ r∈xq,r.length=15:=by decide
theorem ag3:∀ r∈xq,∀ n∈r,n≤100000:=by decide
theorem iC (ns:List Nat):(turnT ns).length=15:=KR DY rfl
theorem T5 (ω:Nat→Nat) (n:Nat):∀ (r:List Nat) (i:Nat),bB ω i (r.map (n * ·))=n * bB ω i r
 | [],_=>rfl
 | m::r,i=>by
  show n * m * ω i+bB ω (i+1) (r.map (n * ·))=n * (m * ω i+bB ω (i+1) r)
  rw [T5 ω n r (i+1),Nat.mul_add,Nat.mul_assoc]
def abM (ω:Nat→Nat):List Nat→List (List Nat)→Nat
 | n::ns,r::rs=>n * bB ω 0 r+abM ω ns rs
 | _,_=>0
theorem Xu (ω:Nat→Nat):∀ (ns:List Nat) (rs:List (List Nat)) (acc:List Nat),(∀ r∈rs,r.length=15)→acc.length=15→bB ω 0 (zY ns rs acc)=bB ω 0 acc+abM ω ns rs
 | [],[],_,_,_=>rfl
 | [],_::_,_,_,_=>rfl
 | _::_,[],_,_,_=>rfl
 | n::ns,r::rs,acc,h,ha=>by
  have hr:=h r List.mem_cons_self
  show bB ω 0 (zY ns rs (eN acc (r.map (n * ·))))=bB ω 0 acc+(n * bB ω 0 r+abM ω ns rs)
  rw [Xu ω ns rs _ (fun r' hr'=>h r' (List.mem_cons_of_mem _ hr')) (by unfold eN; rw [List.length_zipWith,ha,List.length_map,hr]; rfl),sX _ _ _ _ (by rw [ha,List.length_map,hr]),T5]
  lia
theorem aj5 (ω:Nat→Nat):bB ω 0 [0,1,0,1,2,3,4,1,1,1,0,0,3,0,1169]=aX ω 0:=by simp only [bB,aX,Nat.reduceAdd]; lia
theorem aj4 (ω:Nat→Nat):bB ω 0 [0,4,0,3,1,5,0,2,1,1,0,0,4,0,1169]=aX ω 1:=by simp only [bB,aX,Nat.reduceAdd]; lia
theorem aj3 (ω:Nat→Nat):bB ω 0 [0,4,1,6,3,6,1,3,1,1,0,0,5,0,1169]=aX ω 2:=by simp only [bB,aX,Nat.reduceAdd]; lia
theorem aj2 (ω:Nat→Nat):bB ω 0 [0,5,0,8,3,8,1,4,1,1,0,0,6,0,1169]=aX ω 3:=by simp only [bB,aX,Nat.reduceAdd]; lia
theorem aj1 (ω:Nat→Nat):bB ω 0 [0,6,0,7,3,9,1,5,1,1,0,0,7,0,1169]=aX ω 4:=by simp only [bB,aX,Nat.reduceAdd]; lia
theorem aj0 (ω:Nat→Nat):bB ω 0 [0,7,0,8,3,10,2,6,1,1,0,0,8,0,1169]=aX ω 5:=by simp only [bB,aX,Nat.reduceAdd]; lia
theorem ajZ (ω:Nat→Nat):bB ω 0 [0,8,0,12,4,12,2,7,1,1,0,0,9,0,1169]=aX ω 6:=by simp only [bB,aX,Nat.reduceAdd]; lia
theorem ajY (ω:Nat→Nat):bB ω 0 [0,9,0,9,3,12,4,9,1,1,0,0,11,0,1169]=aX ω 7:=by simp only [bB,aX,Nat.reduceAdd]; lia
theorem ajX (ω:Nat→Nat):bB ω 0 [0,9,0,8,3,12,4,8,2,1,0,0,11,0,1169]=aX ω 8:=by simp only [bB,aX,Nat.reduceAdd]; lia
theorem ajW (ω:Nat→Nat):bB ω 0 [0,0,1,19,15,14,7,10,1,1,0,0,12,0,1169]=aX ω 9:=by simp only [bB,aX,Nat.reduceAdd]; lia
theorem ahK (ω:Nat→Nat):bB ω 0 [0,1,0,17,11,12,4,9,2,1,0,0,12,0,1169]=aX ω 10:=by simp only [bB,aX,Nat.reduceAdd]; lia
theorem ahJ (ω:Nat→Nat):bB ω 0 [0,10,0,8,1,11,0,10,0,1,0,0,11,0,1169]=aX ω 11:=by simp only [bB,aX,Nat.reduceAdd]; lia
theorem ahI (ω:Nat→Nat):bB ω 0 [0,1,0,0,0,1,0,0,1,1,0,0,2,0,1169]=aX ω 12:=by simp only [bB,aX,Nat.reduceAdd]; lia
theorem ahH (ω:Nat→Nat):bB ω 0 [0,0,0,0,0,0,0,0,0,0,0,0,0,1,0]=aX ω 13:=by simp only [bB,aX,Nat.reduceAdd]; lia
theorem ajV (ω:Nat→Nat):bB ω 0 xR=jD ω:=by simp only [bB,xR,jD,Nat.reduceAdd]; lia
theorem Ec (ω:Nat→Nat) {ns:List Nat} (h:ns.length=15):bB ω 0 (turnT ns)=bB (aX ω) 0 ns+jD ω:=by
 unfold turnT
 rw [Xu ω ns xq xR DY rfl,ajV]
 match ns,h with
 | [a0,a1,a2,a3,a4,a5,a6,a7,a8,a9,a10,a11,a12,a13,a14],_ =>
  unfold xq
  simp only [abM,aj5,aj4,aj3,aj2,aj1,aj0,ajZ,ajY,ajX,ajW,ahK,ahJ,ahI,ahH]
  simp only [bB,Nat.reduceAdd]
  rw [show aX ω 14=aX ω 13 from rfl]
  lia
theorem R5 (ω:Nat→Nat) (c:Nat):∀ (ns:List Nat) (i k:Nat),k<ns.length→bB ω i (ns.set k (ns.getD k 0+c))=bB ω i ns+c * ω (i+k)
 | [],_,_,h=>absurd h (Nat.not_lt_zero _)
 | n::ns,i,0,_=>by
  show (n+c) * ω i+bB ω (i+1) ns=n * ω i+bB ω (i+1) ns+c * ω i
  rw [Nat.add_mul]
  lia
 | n::ns,i,k+1,h=>by
  show n * ω i+bB ω (i+1) (ns.set k ((n::ns).getD (k+1) 0+c))=n * ω i+bB ω (i+1) ns+c * ω (i+(k+1))
  rw [List.getD_cons_succ,R5 ω c ns (i+1) k (by simpa using h),show i+1+k=i+(k+1) by lia]
  lia
theorem T9 {ns:List Nat} (h:ns.length=15):nT ns=((bB dj 0 ns:Nat):Int):=by
 match ns,h with
 | [a0,a1,a2,a3,a4,a5,a6,a7,a8,a9,a10,a11,a12,a13,a14],_ =>
  simp only [nT,bB,dj,List.take_succ_cons,List.take_zero,List.map_cons,List.map_nil,List.sum_cons,List.sum_nil,List.getD_cons_succ,List.getD_cons_zero]
  simp
  lia
theorem ZJ {st e:Std}{ns:List Nat} (hn:ns.length=15) (h:∀ ω,Wo ω st (bB ω 0 ns) e) (he:e.1=[]) {b:Nat} (hb:bB dj 0 ns≤b):goT b st.1 st.2=([],e.2,ns)∧spT b st.1 st.2=bB dj 0 ns:=by
 obtain⟨h1,h2⟩:=af5 (h dj) he b hb
 have h3:=fun ω=>(U5 (h ω) he b h1).1
 have h4:=(U5 (h dj) he b h1).2
 have h5:(goT b st.1 st.2).2.2=ns:=ag4 (by rw [rC,hn]) h3
 refine⟨?_,h2⟩
 rw [← h1,← h4,← h5]
end Sw
namespace Sw
section
variable {ω:Nat→Nat}{r cs us:List T}{e:Std}{τ:Nat}
theorem JV (r:List T):bK++r=aU 8 eY::([W 1,W 5,W 3,W 1]++r):=rfl
theorem HB {tx s:List T} (h:tx≠[]):nx (.node (bK++r)::cs,.node tx::s)=(.node eY::.node (bK++r)::cs,.node tx::s):=by
 unfold nx
 rw [JV,fV,if_neg (by show 8≠7; decide),if_pos (by rfl),if_pos (by exact h),pB (by show 6<8; decide),dD (by show 1≤_; simp)]
 rfl
theorem W_ {s:List T}:nx (.node (bK++r)::cs,.node []::s)=(.node ([W 1,W 5,W 3,W 1]++r)::cs,.node []::s):=by
 unfold nx
 rw [JV,fV,if_neg (by show 8≠7; decide),if_pos (by rfl),if_neg (by exact fun z=>z rfl),pB (by show 6<8; decide),dD (by show 1≤_; simp)]
theorem Xh {tx s:List T} (h:tx≠[]):evW ω (.node (bK++r)::cs,.node tx::s)=ω 9+1169 * ω 14:=by
 rw [JV,cP (k:=9) (by rw [cC,if_neg (by show 8≠7; decide),if_pos (by rfl),if_pos (by exact h)]),if_neg (by decide),if_pos rfl,show bD (aU 8 eY)=.node eY from rfl,wV]
 lia
theorem afu {s:List T}:evW ω (.node (bK++r)::cs,.node []::s)=ω 10:=by
 rw [JV,cP (k:=10) (by rw [cC,if_neg (by show 8≠7; decide),if_pos (by rfl),if_neg (by exact fun z=>z rfl)])]
 rfl
theorem aai {tx st:List T} (h:tx≠[]) (g:Wo ω (.node (bK++r)::cs,.node (onward tx st).1::.node (onward tx st).2.1::us) τ e) :
  Wo ω (.node (bK++r)::cs,.node tx::.node st::us) (τ+evW (aX ω) (tx,st)) e:=by
 match tx,h with
 | .node []::ts,h =>
  refine (Wo.one (by simp) (HB h) (Xh h) (gJ (zZ rfl (mq (dF (dF g)))))).to ?_
  rw [show evW (aX ω) (.node []::ts,st)=aX ω 12 from rfl]
  simp only [aX]; lia
 | .node (.node []::xs)::ts,h =>
  have hr:=res_none (s:=st) (xs:=xs) (ts:=ts)
  have g2:Wo ω (.node (bK++r)::cs,.node (resT [] [] xs ts st).1::.node (resT [] [] xs ts st).2::us) τ e:=by rw [← hr]; exact g
  have g3:=Pa (as:=[]) (l:=[]) (xs:=xs) (ts:=ts) (st:=st) (us:=us) (dF g2)
  refine (Wo.one (by simp) (HB h) (Xh h) (gJ (zM (by simp [T.kids]) (gJ (lg g3))))).to ?_
  rw [cP (k:=0) (by rw [cC]; rfl)]
  show _=τ+(aX ω 0+0+0)
  unfold Jy
  rw [if_pos (by rfl)]
  simp only [aX]
  lia
 | .node (.node (.node as::l)::xs)::ts,h =>
  have hr:=VN (s:=st) (as:=as) (l:=l) (xs:=xs) (ts:=ts)
  have g2:Wo ω (.node (bK++r)::cs,.node (resT as l xs ts st).1::.node (resT as l xs ts st).2::us) τ e:=by rw [← hr]; exact g
  have g3:=Pa (as:=as) (l:=l) (xs:=xs) (ts:=ts) (st:=st) (us:=us) (dF g2)
  refine (Wo.one (by simp) (HB h) (Xh h) (gJ (zM (by simp [T.kids]) (gJ (gJ g3))))).to ?_
  rw [aaq]
  lia
theorem Wr {st e':Std}{υ:Nat} (h:Wo (aX ω) st τ e'):∀ {us cs:List T},e'.1=[]→Wo ω (.node r::cs,ats e'.2 0::us) υ e→Wo ω (.node (bK++r)::cs,.node st.1::.node st.2::us) (υ+(τ+(ω 10+2 * ω 1+ω 5+ω 3))) e:=by
 induction h with
 | @nil st =>
  intro us cs he g
  rw [he]
  exact (Wo.one (by simp) W_ afu (mq (lg (dG (mq g))))).to (by lia)
 | @cons st e' τ h1 _ ih =>
  intro us cs he g
  exact (aai h1 (ih he g)).to (by show _=υ+(τ+evW (aX ω) (st.1,st.2)+_); lia)
theorem agH {x:T}{its s:List T}{υ:Nat} (h:Wo (aX ω) ([x],[.node its]) τ ([],s)) (g:Wo ω (.node r::cs,ats s 0::us) υ e) :
  Wo ω (.node (cT++r)::cs,.node (x::its)::us) (υ+(τ+(2 * ω 0+2 * ω 1+ω 3+2 * ω 4+2 * ω 5+2 * ω 6+ω 10))) e:=by
 have g':=Wr (us:=us) (cs:=cs) h rfl g
 exact (gJ (Ds (dU (cu (Ds (dU (cu g'))))))).to (by lia)
end
def In (a w:Nat) (st:Std):Prop:=nO a st∧wt st≤w
def gk (r cs us:List T) (d:Std):Std:=(.node (bK++r)::cs,.node d.1::.node d.2::us)
theorem Va {top:T}{cs us tx st:List T} (h:tx≠[]):∃ n c,n≤110∧c≤110+gb tx st ∧
  Wlk (.node eY::top::cs,.node tx::.node st::us) n c (top::cs,.node (onward tx st).1::.node (onward tx st).2.1::us):=by
 match tx,h with
 | .node []::ts,_=>exact⟨5,5,by decide,by show 5≤110+0; decide,oR (CQ rfl (qU (dJ (dJ .nil))))⟩
 | .node (.node []::xs)::ts,_ =>
  have hr:=res_none (s:=st) (xs:=xs) (ts:=ts)
  obtain⟨m,d,hm,_,hd,g⟩:=acz (as:=[]) (l:=[]) (xs:=xs) (ts:=ts) (st:=st) (us:=us) (dJ (Wlk.nil (st:=(top::cs,.node (resT [] [] xs ts st).1::.node (resT [] [] xs ts st).2::us))))
  rw [← hr] at g
  refine⟨0+1+m+4,0+1+d+4,by lia,by rw [if_neg (by decide),if_neg (by simp)] at hd; lia,?_⟩
  exact oR (Jr (by simp [T.kids]) (oR (oA g)))
 | .node (.node (.node as::l)::xs)::ts,_ =>
  have hr:=VN (s:=st) (as:=as) (l:=l) (xs:=xs) (ts:=ts)
  obtain⟨m,d,hm,hlow,hd,g⟩:=acz (as:=as) (l:=l) (xs:=xs) (ts:=ts) (st:=st) (us:=us) (dJ (Wlk.nil (st:=(top::cs,.node (resT as l xs ts st).1::.node (resT as l xs ts st).2::us))))
  rw [← hr] at g
  refine⟨0+1+m+4,0+1+d+4,by lia,?_,oR (Jr (by simp [T.kids]) (oR (oR g)))⟩
  have hx:gb (.node (.node (.node as::l)::xs)::ts) st=if as.length=2 then (ats st 0).parts else if as.length=8∧(ats st 0).kids≠[] then (T.node l).parts else 0:=by
   have hs:aJ (.node (.node as::l))=min 9 as.length:=rfl
   rw [show gb (.node (.node (.node as::l)::xs)::ts) st=if aJ (.node (.node as::l))=2 then (ats st 0).parts else if aJ (.node (.node as::l))=8∧(ats st 0).kids≠[] then (bD (.node (.node as::l))).parts else 0 from rfl,hs]
   by_cases h2:as.length=2
   ·rw [if_pos h2,if_pos (by lia)]
   ·rw [if_neg h2,if_neg (by lia)]
    by_cases h8:as.length=8
    ·by_cases ht:(ats st 0).kids≠[]
     ·rw [if_pos ⟨by lia,ht⟩,if_pos ⟨by lia,ht⟩]; rfl
     ·rw [if_neg (fun z=>ht z.2),if_neg (fun z=>ht z.2)]
    ·rw [if_neg (fun z=>h8 (by have:=z.1; lia)),if_neg (fun z=>h8 (by have:=z.1; lia))]
  rw [hx]
  by_cases h2:as.length=2
  ·rw [if_pos h2,if_neg (by lia)] at hd
   rw [if_pos h2]
   lia
  ·rw [if_neg h2] at hd
   rw [if_neg h2]
   lia
theorem rM {st e:Std}{n c a w:Nat} (g:Wlk st n c e) (h:In a w st) (h4:4≤a) (hn:n≤110) (ha:a≤280) (hw:w+3 * c≤7900000) (k:∀ b,Sane b e.1 e.2):∀ b,Sane b st.1 st.2 :=
 aem (D:=a) (W:=w+3 * c) h4 ha hw k ⟨c,g,hn,h.1.le (by lia),by have:=h.2; lia⟩
theorem okIn {st:Std}{a w:Nat} (h:In a w st) (ha:a≤390) (hw:w≤7900000):BX st.1∧B 390 8000000 (.node st.2):=JG h.1 ha (Nat.le_trans h.2 hw)
theorem JT {a w w1:Nat}{r cs us:List T}{d:Std} (hd:In a w d) (hc:In a w1 (.node (bK++r)::cs,us)):In (a+1) (w+w1+2) (gk r cs us d):=by
 obtain⟨⟨h1,h2⟩,h3⟩:=hd
 obtain⟨⟨h4,h5⟩,h6⟩:=hc
 have h3:T.au d.1+T.au d.2≤w:=h3
 have h4:(T.node (.node (bK++r)::cs)).deep≤a:=h4
 have h5:(T.node us).deep≤a:=h5
 have h6:T.au (.node (bK++r)::cs)+T.au us≤w1:=h6
 rw [T.aO] at h5
 refine⟨⟨by show (T.node (.node (bK++r)::cs)).deep≤a+1; lia,?_⟩,?_⟩
 ·show (T.node (.node d.1::.node d.2::us)).deep≤a+1
  rw [T.aO,T.aK,T.aK]; lia
 ·show T.au (.node (bK++r)::cs)+T.au (.node d.1::.node d.2::us)≤_
  rw [T.aq (.node d.1),T.aq (.node d.2),T.aL,T.aL]; lia
theorem Am {r cs us:List T}{a w w1 X:Nat} (ha:a≤270) (h92:92≤a) (hX:w+w1+3 * X+3000≤7900000) (hc:In a w1 (.node (bK++r)::cs,us)):∀ {N:Nat}{d:Std},(∀ i,i≤N→In a w (stN i d)∧gb (stN i d).1 (stN i d).2≤X)→(stN N d).1=[] →
  (∀ i,i≤N→(stN i d).1=[]→∀ b,Sane b (.node r::cs) (ats (stN i d).2 0::us))→∀ b,Sane b (gk r cs us d).1 (gk r cs us d).2:=by
 have hsp:(T.node eY).deep≤90:=JW.1
 have hr:(T.node r).deep≤a:=by
  have:=hc.1.1
  have:(T.node (.node (bK++r)::cs)).deep≤a:=this
  rw [T.aO,T.aK,T.aO,T.dX] at this
  rw [T.aO]; lia
 have aiR:∀ {d:Std},In a w d→d.1=[]→(∀ b,Sane b (.node r::cs) (ats d.2 0::us))→∀ b,Sane b (gk r cs us d).1 (gk r cs us d).2:=by
  intro d hd he k b
  have hi:=JT hd hc
  obtain⟨b1,b2⟩:=okIn hi (by lia) (by lia)
  refine .mk b1 b2 fun _ _=>?_
  have en:nx (gk r cs us d)=(.node ([W 1,W 5,W 3,W 1]++r)::cs,.node []::.node d.2::us):=by
   show nx (.node (bK++r)::cs,.node d.1::.node d.2::us)=_
   rw [he]; exact W_
  have g:Wlk (nx (gk r cs us d)) 4 4 (.node r::cs,ats d.2 0::us):=by
   rw [en]; exact qU (oA (cX (qU .nil)))
  refine rM (a:=a+2) (w:=w+w1+200) g ?_ (by lia) (by lia) (by lia) (by lia) k _
  obtain⟨⟨q1,q2⟩,q3⟩:=hi
  have q1:(T.node (.node (bK++r)::cs)).deep≤a+1:=q1
  have q2:(T.node (.node d.1::.node d.2::us)).deep≤a+1:=q2
  have q3:T.au (.node (bK++r)::cs)+T.au (.node d.1::.node d.2::us)≤w+w1+2:=q3
  rw [he] at q2 q3
  have p4:T.au [W 1,W 5,W 3,W 1]≤20:=by decide +kernel
  have d4:T.bM [W 1,W 5,W 3,W 1]≤10:=by decide +kernel
  rw [en]
  refine⟨⟨?_,by show (T.node (.node []::.node d.2::us)).deep≤a+2; lia⟩,?_⟩
  ·show (T.node (.node ([W 1,W 5,W 3,W 1]++r)::cs)).deep≤a+2
   rw [T.aO,T.aK,T.aO,T.dX]
   rw [T.aO,T.aK,T.aO,T.dX] at q1
   lia
  ·show T.au (.node ([W 1,W 5,W 3,W 1]++r)::cs)+T.au (.node []::.node d.2::us)≤_
   rw [T.aq (.node (bK++r)),T.aL,T.cB] at q3
   rw [T.aq (.node ([W 1,W 5,W 3,W 1]++r)),T.aL,T.cB]
   lia
 intro N
 induction N with
 | zero =>
  intro d h he k
  exact aiR (h 0 (Nat.le_refl _)).1 he (k 0 (Nat.le_refl _) he)
 | succ N ih =>
  intro d h he k b
  by_cases h1:d.1=[]
  ·exact aiR (h 0 (Nat.zero_le _)).1 h1 (k 0 (Nat.zero_le _) h1) b
  ·obtain⟨hd,hx⟩:=h 0 (Nat.zero_le _)
   have hd:In a w d:=hd
   have hx:gb d.1 d.2≤X:=hx
   have hi:=JT hd hc
   obtain⟨b1,b2⟩:=okIn hi (by lia) (by lia)
   refine .mk b1 b2 fun _ _=>?_
   have en:nx (gk r cs us d)=(.node eY::.node (bK++r)::cs,.node d.1::.node d.2::us):=HB h1
   obtain⟨n,c,hn,hcc,g⟩:=Va (top:=.node (bK++r)) (cs:=cs) (us:=us) (st:=d.2) h1
   rw [← en] at g
   refine rM (a:=a+2) (w:=w+w1+1200) g ?_ (by lia) hn (by lia) (by lia) (ih (d:=nx d) (fun i hi=>?_) ?_ (fun i hi=>?_)) _
   ·obtain⟨⟨q1,q2⟩,q3⟩:=hi
    have q1:(T.node (.node (bK++r)::cs)).deep≤a+1:=q1
    have q2:(T.node (.node d.1::.node d.2::us)).deep≤a+1:=q2
    have q3:T.au (.node (bK++r)::cs)+T.au (.node d.1::.node d.2::us)≤w+w1+2:=q3
    rw [en]
    refine⟨⟨?_,by show (T.node (.node d.1::.node d.2::us)).deep≤a+2; lia⟩,?_⟩
    ·show (T.node (.node eY::.node (bK++r)::cs)).deep≤a+2
     rw [T.aO,T.aK]
     rw [T.aO] at q1
     lia
    ·show T.au (.node eY::.node (bK++r)::cs)+T.au (.node d.1::.node d.2::us)≤_
     rw [T.aq (.node eY),wV]
     lia
   ·have:=h (i+1) (by lia)
    rw [jF] at this
    exact this
   ·rw [jF] at he
    exact he
   ·have:=k (i+1) (by lia)
    rw [jF] at this
    exact this
end Sw
namespace Sw
section
variable {ω:Nat→Nat}{t cs us:List T}{e:Std}{τ:Nat}
theorem agI {x:List T} (g:Wo ω (.node t::cs,.node (aU 0 x::x)::us) τ e):Wo ω (.node (xY t)::cs,.node x::us) (τ+(ω 0+(ω 2+(T.node x).parts * ω 13)+2 * ω 4)) e :=
 (Wq (Ds (cu (cu g)))).to (by lia)
def JR (ω:Nat→Nat):Nat:=3 * ω 0+ω 2+2 * ω 3+4 * ω 4
theorem aik {f s1 s2:List T}{x:T}{τ1 τ2:Nat} (h1:Wo (aX ω) ([.node f],[.node (aQ f)]) τ1 ([],s1)) (h2:Wo (aX ω) ([ats s1 0],[x]) τ2 ([],s2)) :
  ∃ υ,υ+ω 12=τ1+jD ω+(τ2+jD ω)+JR ω+(T.node (gQ f)).parts * ω 13∧Wo ω ([.node (aQ f)],[x]) υ ([],[ats s2 0]):=by
 rw [← gM x] at h2 ⊢
 have g2:=aii (cs:=[]) (us:=[]) h2
 have g4:=agH (r:=W 4::cT) (cs:=[]) (us:=[.node x.kids]) h1 (cu g2)
 have g5:=Ds (us:=gQ f) (Ds (us:=f) (dG (agI (dG (cu g4)))))
 refine⟨_,?_,g5⟩
 unfold jD JR
 lia
end
theorem aau (ω:Nat→Nat):∀ (ns:List Nat) (i k:Nat),k<ns.length→1≤ns.getD k 0→bB ω i (ns.set k (ns.getD k 0 - 1))+ω (i+k)=bB ω i ns
 | [],_,_,h,_=>absurd h (Nat.not_lt_zero _)
 | n::ns,i,0,_,h1=>by
  have h1:1≤n:=h1
  show (n - 1) * ω i+bB ω (i+1) ns+ω i=n * ω i+bB ω (i+1) ns
  obtain⟨m,rfl⟩:∃ m,n=m+1:=⟨n - 1,by lia⟩
  rw [Nat.add_sub_cancel,Nat.succ_mul]
  lia
 | n::ns,i,k+1,h,h1=>by
  rw [List.getD_cons_succ] at h1
  show n * ω i+bB ω (i+1) (ns.set k ((n::ns).getD (k+1) 0 - 1))+ω (i+(k+1))=n * ω i+bB ω (i+1) ns
  rw [List.getD_cons_succ]
  have:=aau ω ns (i+1) k (by simpa using h) h1
  rw [show i+1+k=i+(k+1) by lia] at this
  lia
def Hw:List Nat:=[3,0,1,2,4,0,0,0,0,0,0,0,0,0,0]
def Cj (n1 n2:List Nat):List Nat:=eN Hw (eN (turnT n1) (turnT n2))
def sW (f:List T) (n1 n2:List Nat):List Nat:=(Cj n1 n2).set 13 ((Cj n1 n2).getD 13 0+(T.node (gQ f)).parts)
def uO (f:List T) (n1 n2:List Nat):List Nat:=(sW f n1 n2).set 12 ((sW f n1 n2).getD 12 0 - 1)
theorem Mw (n1 n2:List Nat):(Cj n1 n2).length=15:=u9 rfl (u9 (iC n1) (iC n2))
theorem W3 (f:List T) (n1 n2:List Nat):(sW f n1 n2).length=15:=by unfold sW; rw [List.length_set]; exact Mw n1 n2
theorem afe (f:List T) (n1 n2:List Nat):(uO f n1 n2).length=15:=by unfold uO; rw [List.length_set]; exact W3 f n1 n2
theorem agW (ns:List Nat) (k:Nat):ns.getD k 0=bB (fun j=>if j=k then 1 else 0) 0 ns:=by
 have:=Ed ns 0 k
 rw [Nat.zero_add] at this
 exact this.symm
theorem agT (f:List T) {n1 n2:List Nat} (h1:n1.length=15) (h2:n2.length=15):1≤(sW f n1 n2).getD 12 0:=by
 unfold sW
 rw [agW,R5 _ _ _ _ _ (by rw [Mw]; decide)]
 unfold Cj
 rw [sX _ _ _ _ (by rw [u9 (iC n1) (iC n2)]; rfl),sX _ _ _ _ (by rw [iC,iC]),Ec _ h1]
 have:1≤jD (fun j=>if j=12 then 1 else 0):=by decide
 lia
theorem Xw (ω:Nat→Nat) (f:List T) {n1 n2:List Nat} (h1:n1.length=15) (h2:n2.length=15):bB ω 0 (uO f n1 n2)+ω 12=bB (aX ω) 0 n1+jD ω+(bB (aX ω) 0 n2+jD ω)+JR ω+(T.node (gQ f)).parts * ω 13:=by
 have e1:=aau ω (sW f n1 n2) 0 12 (by rw [W3]; decide) (agT f h1 h2)
 rw [show 0+12=12 from rfl] at e1
 unfold uO
 rw [e1]
 unfold sW
 rw [R5 _ _ _ _ _ (by rw [Mw]; decide)]
 unfold Cj
 rw [sX _ _ _ _ (by rw [u9 (iC n1) (iC n2)]; rfl),sX _ _ _ _ (by rw [iC,iC]),Ec _ h1,Ec _ h2]
 have e2:bB ω 0 Hw=JR ω:=by simp only [bB,Hw,JR,Nat.reduceAdd]; lia
 rw [e2,show 0+13=13 from rfl]
 lia
theorem afg {f s1 s2:List T}{x:T}{n1 n2:List Nat} (l1:n1.length=15) (l2:n2.length=15) (h1:∀ ω,Wo ω ([.node f],[.node (aQ f)]) (bB ω 0 n1) ([],s1)) (h2:∀ ω,Wo ω ([ats s1 0],[x]) (bB ω 0 n2) ([],s2)) :
  ∀ ω,Wo ω ([.node (aQ f)],[x]) (bB ω 0 (uO f n1 n2)) ([],[ats s2 0]):=fun ω=>by
 obtain⟨υ,e,g⟩:=aik (h1 (aX ω)) (h2 (aX ω))
 have:=Xw ω f l1 l2
 exact g.to (by lia)
theorem QC:∀ (k:Nat) {st:Std},st.1=[]→stN k st=st
 | 0,_,_=>rfl
 | k+1,st,h=>by
  rw [jF,show nx st=st from ?_]
  ·exact QC k h
  ·obtain⟨tx,s⟩:=st
   have h:tx=[]:=h
   subst h
   rfl
theorem abC {M:Nat}{tx s:List T} (h:Wds M tx) (hne:tx≠[]):gb tx s≤bF tx s+M:=by
 rw [← JZ]
 match tx,hne with
 | .node []::ts,_=>show 0≤_; lia
 | .node (w::ws)::ts,_ =>
  have hw:w.parts≤M:=h _ List.mem_cons_self w List.mem_cons_self
  have hl:=BW w
  have hc:uh (.node (w::ws)::ts,s)=if aJ w=2 then (ats s 0).parts else 1:=rfl
  have hx:gb (.node (w::ws)::ts) s=if aJ w=2 then (ats s 0).parts else if aJ w=8∧(ats s 0).kids≠[] then (bD w).parts else 0:=rfl
  rw [hc,hx]
  split
  ·lia
  ·split <;> lia
theorem Oe {M:Nat}{tx s:List T} (h:Wds M tx):T.au (onward tx s).2.1≤T.au s+bF tx s+(M+3):=by
 match tx with
 | []=>show T.au s≤_; lia
 | .node []::ts=>show T.au s≤_; lia
 | .node (w::ws)::ts =>
  have hw:w.parts≤M:=h _ List.mem_cons_self w List.mem_cons_self
  have hl:=BW w
  rw [(Hg w ws ts s).2.2,← JZ]
  have hc:uh (.node (w::ws)::ts,s)=if aJ w=2 then (ats s 0).parts else 1:=rfl
  rw [hc]
  have hb:=Lq w s
  split at hb <;> split at hb <;> split <;> lia
theorem VL {M:Nat}:∀ b tx s,(goT b tx s).1=[]→Wds M tx→∃ N,N≤b∧stN N (tx,s)=([],(goT b tx s).2.1) ∧
  ∀ i,i≤N→Wds M (stN i (tx,s)).1∧T.au (stN i (tx,s)).1≤T.au tx+i * M∧T.au (stN i (tx,s)).2≤T.au s+b+i * (M+3)∧gb (stN i (tx,s)).1 (stN i (tx,s)).2≤b+M:=by
 refine uH (fun b tx s h=>?_) (fun b tx s h1 h2 ih=>?_)
 ·intro he hM
  rw [mH h] at he ⊢
  have he:tx=[]:=he
  subst he
  refine⟨0,Nat.zero_le _,rfl,fun i hi=>?_⟩
  have:i=0:=by lia
  subst this
  exact⟨hM,by show T.au []≤_; lia,by show T.au s≤_; lia,by show 0≤_; lia⟩
 ·intro he hM
  rw [mJ h1 h2] at he ⊢
  obtain⟨g1,g2,_⟩:=hM.next (s:=s)
  have g3:=Oe hM (s:=s)
  have hc:=qw tx s
  obtain⟨N,hN,hst,hb⟩:=ih he g1
  refine⟨N+1,by lia,by rw [jF]; exact hst,fun i hi=>?_⟩
  cases i with
  | zero=>exact⟨hM,by show T.au tx≤_; lia,by show T.au s≤_; lia,by have:=abC hM h1 (s:=s); show gb tx s≤_; lia⟩
  | succ i =>
   obtain⟨q1,q2,q3,q4⟩:=hb i (by lia)
   rw [jF]
   have e1:(i+1) * M=i * M+M:=Nat.succ_mul _ _
   have e2:(i+1) * (M+3)=i * (M+3)+(M+3):=Nat.succ_mul _ _
   exact⟨q1,Nat.le_trans q2 (by lia),Nat.le_trans q3 (by lia),Nat.le_trans q4 (by lia)⟩
theorem Br {r cs us:List T}{x:T}{its:List T}:Wlk (.node (cT++r)::cs,.node (x::its)::us) 7 7 (gk r cs us ([x],[.node its])) :=
 oR (vq (eZ (bZ (vq (eZ (bZ .nil))))))
theorem wW:(T.node (cT++(W 4::cT))).deep≤90∧(T.node (cT++(W 4::cT))).parts≤6000∧(T.node (bK++(W 4::cT))).deep≤90∧(T.node (bK++(W 4::cT))).parts≤6000∧(T.node (W 4::cT)).deep≤90∧(T.node (W 4::cT)).parts≤6000:=by decide +kernel
theorem In.mk1 {a w:Nat}{c s:List T} (h1:T.bM c≤a) (h2:T.bM s≤a) (h3:T.au c+T.au s≤w):In a w (c,s):=⟨⟨by show (T.node c).deep≤a; rw [T.aO]; exact h1,by show (T.node s).deep≤a; rw [T.aO]; exact h2⟩,h3⟩
end Sw
namespace Sw
section
variable {ω:Nat→Nat}{t cs us:List T}{e:Std}{τ:Nat}
theorem abq {f s1 s2:List T}{x:T}{N1 N2:Nat} (hk:B 200 200000 (.node (aQ f))) (hx:B 200 200000 x) (ht:B 259 1000000 (ats s1 0))
  (e1:stN N1 ([.node f],[.node (aQ f)])=([],s1)) (h1:∀ i,i≤N1→In 260 3900000 (stN i ([.node f],[.node (aQ f)]))∧gb (stN i ([.node f],[.node (aQ f)])).1 (stN i ([.node f],[.node (aQ f)])).2≤1000000)
  (e2:stN N2 ([ats s1 0],[x])=([],s2)) (h2:∀ i,i≤N2→In 260 7000000 (stN i ([ats s1 0],[x]))∧gb (stN i ([ats s1 0],[x])).1 (stN i ([ats s1 0],[x])).2≤250000) (hs2:B 259 3900000 (ats s2 0)):∀ b,Sane b [.node (aQ f)] [x]:=by
 obtain⟨u1,u2,u3,u4,u5,u6⟩:=wW
 have hxd:=hx.1
 have hxp:=hx.2
 have htd:=ht.1
 have htp:=ht.2
 have aq2:=hs2.1
 have aq1:=hs2.2
 have k4:∀ b,Sane b [.node []] [ats s2 0]:=by
  intro b
  refine rM (a:=260) (w:=3900010) (dJ .nil:Wlk ([.node []],[ats s2 0]) 1 1 ([],[ats s2 0])) ?_ (by decide) (by decide) (by decide) (by decide) ?_ b
  ·exact In.mk1 (by rw [T.aK,T.aY,T.aO,T.aY]; lia) (by rw [T.aK,T.aY]; lia) (by rw [T.aq,T.aR,T.aL,T.aR,T.aq,T.aR]; lia)
  ·intro b
   obtain⟨b1,b2⟩:=okIn (st:=([],[ats s2 0])) (a:=260) (w:=3900010) (In.mk1 (by rw [T.aY]; lia) (by rw [T.aK,T.aY]; lia) (by rw [T.aR,T.aq,T.aR]; lia)) (by decide) (by decide)
   exact .mk b1 b2 fun z=>absurd rfl z
 have stop:∀ {i N:Nat}{d:Std}{s:List T},i≤N→stN N d=([],s)→(stN i d).1=[]→(stN i d).2=s:=fun {i N d s} hi hN h0=>by
  have e:=Jv i (N - i) d
  rw [show i+(N - i)=N by lia,hN,QC _ h0] at e
  rw [← e]
 have k3:∀ b,Sane b [.node (bK++[])] [.node [ats s1 0],.node [x]]:=by
  refine Am (r:=[]) (cs:=[]) (us:=[]) (a:=260) (w:=7000000) (w1:=10000) (X:=250000) (by decide) (by decide) (by decide) ?_ (N:=N2) (d:=([ats s1 0],[x])) h2 (by rw [e2]) (fun i hi h0 b=>?_)
  ·have v1:(T.node bK).deep≤90:=JW.2
   have v2:=Xa
   rw [List.append_nil]
   exact In.mk1 (by rw [T.aK,T.aY]; lia) (by rw [T.aY]; lia) (by rw [T.aq,T.aR]; lia)
  ·rw [stop hi e2 h0]; exact k4 b
 have k2:∀ b,Sane b [.node (W 4::cT)] [ats s1 0,x]:=by
  intro b
  have g:Wlk ([.node (W 4::cT)],[ats s1 0,.node x.kids]) 8 8 (gk [] [] [] ([ats s1 0],[.node x.kids])):=by
   have:=Br (r:=[]) (cs:=[]) (us:=[]) (x:=ats s1 0) (its:=x.kids)
   rw [List.append_nil] at this
   exact bZ this
  rw [gM] at g
  refine rM (a:=261) (w:=1300000) g ?_ (by decide) (by decide) (by decide) (by decide) k3 b
  exact In.mk1 (by rw [T.aK,T.aY]; lia) (by rw [T.aK,T.aK,T.aY]; lia) (by rw [T.aq,T.aR,T.aq,T.aq,T.aR]; lia)
 have k1:∀ b,Sane b [.node (bK++(W 4::cT))] [.node [.node f],.node [.node (aQ f)],x]:=by
  refine Am (r:=W 4::cT) (cs:=[]) (us:=[x]) (a:=260) (w:=3900000) (w1:=300000) (X:=1000000) (by decide) (by decide) (by decide) ?_ (N:=N1) (d:=([.node f],[.node (aQ f)])) h1 (by rw [e1]) (fun i hi h0 b=>?_)
  ·exact In.mk1 (by rw [T.aK,T.aY]; lia) (by rw [T.aK,T.aY]; lia) (by rw [T.aq,T.aR,T.aq,T.aR]; lia)
  ·rw [stop hi e1 h0]; exact k2 b
 intro b
 have hkd:=hk.1
 have hkp:=hk.2
 have hb:(T.node (gQ f)).parts≤200000:=by
  have e:(T.node (aQ f)).parts=1+(aU 0 (gQ f)).parts+T.au (gQ f):=by unfold aQ; rw [T.aL,T.aq]; lia
  rw [T.aL (gQ f)]
  have:=T.i_ (aU 0 (gQ f))
  lia
 have g:Wlk ([.node (aQ f)],[x]) 16 (15+(T.node (gQ f)).parts) (gk (W 4::cT) [] [x] ([.node f],[.node (aQ f)])) :=
  (vq (us:=gQ f) (vq (us:=f) (cX (ZK (cX (bZ (Br (r:=W 4::cT) (cs:=[]) (us:=[x]) (x:=.node f) (its:=aQ f)))))))).to rfl (by lia)
 refine rM (a:=260) (w:=500000) g ?_ (by decide) (by decide) (by decide) (by lia) k1 b
 exact In.mk1 (by rw [T.aK,T.aY]; lia) (by rw [T.aK,T.aY]; lia) (by rw [T.aq,T.aR,T.aq,T.aR]; lia)
end
end Sw
namespace Sw
theorem Ks {M:Nat}:∀ b tx s,∀ a u v,1≤a→nO a (tx,s)→a+2 * b≤390→Wds M tx→T.au tx≤u→T.au s≤v→u+b * M+(v+b+b * (M+3))≤7900000→Sane b tx s:=by
 have bnd:∀ (b:Nat) (tx s:List T) (a u v:Nat),nO a (tx,s)→a+2 * b≤390→T.au tx≤u→T.au s≤v→u+b * M+(v+b+b * (M+3))≤7900000→BX tx∧B 390 8000000 (.node s):=fun b tx s a u v hd ha hu hv hb =>
  JG (st:=(tx,s)) hd (by lia) (by show T.au tx+T.au s≤_; lia)
 refine uH (fun b tx s h a u v h1 hd ha hM hu hv hb=>?_) (fun b tx s h1 h2 ih a u v ha1 hd ha hM hu hv hb=>?_)
 ·obtain⟨b1,b2⟩:=bnd b tx s a u v hd ha hu hv hb
  exact .mk b1 b2 fun z1 z2=>by
   rcases h with h | h
   ·exact absurd h z1
   ·lia
 ·obtain⟨b1,b2⟩:=bnd b tx s a u v hd ha hu hv hb
  obtain⟨g1,g2,_⟩:=hM.next (s:=s)
  have g3:=Oe hM (s:=s)
  have hc:=qw tx s
  refine .mk b1 b2 fun _ _=>?_
  obtain⟨c,hcb⟩:∃ c,b=c+bF tx s:=⟨b - bF tx s,by lia⟩
  have ec:b - bF tx s=c:=by lia
  rw [ec] at ih ⊢
  have e1:(c+1) * M≤b * M:=Nat.mul_le_mul_right M (by lia)
  have e2:(c+1) * (M+3)≤b * (M+3):=Nat.mul_le_mul_right _ (by lia)
  rw [Nat.succ_mul] at e1 e2
  exact ih (a+2) (u+M) (v+bF tx s+(M+3)) (by lia) (abJ (st:=(tx,s)) ha1 hd) (by lia) g1 (by lia) (by lia) (by lia)
theorem VJ {M b a:Nat}{tx s:List T} (ha:1≤a) (he:(goT b tx s).1=[]) (hM:Wds M tx) (hd:nO a (tx,s)):∃ N,stN N (tx,s)=([],(goT b tx s).2.1) ∧
  ∀ i,i≤N→In (a+2 * b) (T.au tx+b * M+(T.au s+b+b * (M+3))) (stN i (tx,s))∧gb (stN i (tx,s)).1 (stN i (tx,s)).2≤b+M:=by
 obtain⟨N,hN,hst,h⟩:=VL b tx s he hM
 refine⟨N,hst,fun i hi=>?_⟩
 obtain⟨_,h2,h3,h4⟩:=h i hi
 have e1:i * M≤b * M:=Nat.mul_le_mul_right M (by lia)
 have e2:i * (M+3)≤b * (M+3):=Nat.mul_le_mul_right _ (by lia)
 exact⟨⟨(abK ha hd i).le (by lia),by show T.au _+T.au _≤_; lia⟩,h4⟩
theorem Pr {b:Nat}{tx s:List T} (he:(goT b tx s).1=[]):∀ ω,Wo ω (tx,s) (bB ω 0 (goT b tx s).2.2) ([],(goT b tx s).2.1):=fun ω=>ajR b tx s he
theorem afm {b:Nat}{tx s:List T}:bB dj 0 (goT b tx s).2.2=spT b tx s:=by
 have h1:=aap b tx s
 rw [T9 (rC b tx s)] at h1
 lia
theorem Xb {b:Nat}{tx s:List T} (he:(goT b tx s).1=[]):goT (spT b tx s) tx s=goT b tx s:=by
 obtain⟨h,_⟩:=ZJ (st:=(tx,s)) (rC b tx s) (Pr he) rfl (Nat.le_of_eq afm)
 have h:goT (spT b tx s) tx s=([],(goT b tx s).2.1,(goT b tx s).2.2):=h
 rw [h,← he]
end Sw
namespace Sw
theorem Zg:T.au Jt≤2600∧T.bM Jt≤90:=by decide +kernel
theorem pA {f:List T} (h:B 60 4400 (.node f)):B 99 15000 (.node (aQ f))∧(T.node (gQ f)).parts≤7200:=by
 obtain⟨h1,h2⟩:=h
 obtain⟨p1,p2⟩:=Zg
 have e:=body_parts f
 rw [T.aO] at h1
 rw [T.aL] at h2 e
 have hd:T.bM (gQ f)≤91:=by
  unfold gQ aU dh
  rw [T.aK,T.aO,T.aK,List.replicate_zero,T.aO,T.aY]
  lia
 refine⟨⟨?_,?_⟩,by rw [T.aL]; lia⟩
 ·unfold aQ aU dh
  rw [T.aO,T.aK,T.aO,T.aK,List.replicate_zero,T.aO,T.aY]
  lia
 ·unfold aQ aU dh
  rw [T.aL,T.aq,T.aL,T.aq,List.replicate_zero,T.aL,T.aR]
  lia
theorem Di {M b:Nat}{tx s:List T} (he:(goT b tx s).1=[]) (hM:Wds M tx):T.au (goT b tx s).2.1≤T.au s+b+b * (M+3):=by
 obtain⟨N,hN,hst,h⟩:=VL b tx s he hM
 obtain⟨_,_,h3,_⟩:=h N (Nat.le_refl _)
 rw [hst] at h3
 have e2:N * (M+3)≤b * (M+3):=Nat.mul_le_mul_right _ hN
 have h3:T.au (goT b tx s).2.1≤T.au s+b+N * (M+3):=h3
 lia
def Jg (ts:List T):Prop:=(∀ w∈ts,w.parts≤2200)∨∃ t1 t2,ts=[.node [dh 7,.node [aU 0 t1],aU 0 t2]]∧B 48 2169 (.node t1)∧B 48 2169 (.node t2)
theorem agX {t1 t2 g:List T} (hg:g≠[]):∃ s',onward [.node [.node [dh 7,.node [aU 0 t1],aU 0 t2]]] [.node g]=([.node [aU 0 t1],.node []],s',7)∧T.au s'≤T.au [.node g]:=by
 cases g with
 | nil=>exact absurd rfl hg
 | cons a g=>exact⟨_,rfl,Nat.le_refl _⟩
theorem Zd {f:List T} (h:B 60 4400 (.node f)) (hw:Jg f) (he:(goT 30 [.node f] [.node (aQ f)]).1=[]):T.au (goT 30 [.node f] [.node (aQ f)]).2.1≤81200:=by
 have hk:=(pA h).1.2
 have pk:T.au [.node (aQ f)]≤15000:=by rw [T.aq,T.aR]; lia
 rcases hw with hw | ⟨t1,t2,rfl,b1,b2⟩
 ·have:=Di (M:=2200) he (fun t ht w hx=>by rw [List.mem_singleton.mp ht] at hx; exact hw w hx)
  lia
 ·obtain⟨s',e,hs⟩:=agX (t1:=t1) (t2:=t2) (g:=aQ [.node [dh 7,.node [aU 0 t1],aU 0 t2]]) (by unfold aQ; exact List.cons_ne_nil _ _)
  generalize aQ [.node [dh 7,.node [aU 0 t1],aU 0 t2]]=g at *
  by_cases hc:bF [.node [.node [dh 7,.node [aU 0 t1],aU 0 t2]]] [.node g]≤30
  ·rw [mJ (List.cons_ne_nil _ _) hc,e] at he ⊢
   have hp:(aU 0 t1).parts≤2200:=by
    have:=b1.2
    unfold aU dh
    rw [T.aL] at this
    rw [T.aL,T.aq,List.replicate_zero,T.aL,T.aR]
    lia
   have:=Di (M:=2200) he (fun t ht w hx=>by
    rcases List.mem_cons.mp ht with rfl | ht
    ·rw [List.mem_singleton.mp hx]; exact hp
    ·rw [List.mem_singleton.mp ht] at hx; cases hx)
   have hc3:30 - bF [.node [.node [dh 7,.node [aU 0 t1],aU 0 t2]]] [.node g]≤30:=Nat.sub_le _ _
   generalize 30 - bF [.node [.node [dh 7,.node [aU 0 t1],aU 0 t2]]] [.node g]=c at *
   refine Nat.le_trans this ?_
   show T.au s'+c+c * (2200+3)≤81200
   lia
  ·unfold goT at he
   rw [dif_pos (.inr (Nat.lt_of_not_le hc))] at he
   cases he
theorem xG {M:Nat}{t:T} (h:t.parts≤M):Wds M [t]:=fun u hu w hw=>by
 rw [List.mem_singleton.mp hu] at hw
 have:=T.lq hw
 rw [T.dN] at h
 lia
theorem abB {f:List T} (h:B 60 4400 (.node f)):∀ b,b≤30→Sane b [.node f] [.node (aQ f)]:=fun b hb=>by
 obtain⟨⟨k1,k2⟩,_⟩:=pA h
 obtain⟨h1,h2⟩:=h
 exact Ks (M:=4400) b _ _ 101 4400 15000 (by lia) ⟨by show (T.node [.node f]).deep≤101; rw [T.aO,T.aK,T.aY]; lia,by show (T.node [.node (aQ f)]).deep≤101; rw [T.aO,T.aK,T.aY]; lia⟩ (by lia) (xG h2) (by rw [T.aq,T.aR]; lia) (by rw [T.aq,T.aR]; lia) (by lia)
theorem Xd {f:List T} (h:B 60 4400 (.node f)) (hw:Jg f) (he:(goT 30 [.node f] [.node (aQ f)]).1=[]) :
  (∃ N,stN N ([.node f],[.node (aQ f)])=([],(goT 30 [.node f] [.node (aQ f)]).2.1)∧∀ i,i≤N→In 260 3900000 (stN i ([.node f],[.node (aQ f)]))∧gb (stN i ([.node f],[.node (aQ f)])).1 (stN i ([.node f],[.node (aQ f)])).2≤1000000)∧B 161 81300 (ats (goT 30 [.node f] [.node (aQ f)]).2.1 0):=by
 have hs:=Zd h hw he
 obtain⟨⟨k1,k2⟩,_⟩:=pA h
 obtain⟨h1,h2⟩:=h
 obtain⟨N,e,i1⟩:=VJ (M:=4400) (a:=101) (by lia) he (xG h2) ⟨by show (T.node [.node f]).deep≤101; rw [T.aO,T.aK,T.aY]; lia,by show (T.node [.node (aQ f)]).deep≤101; rw [T.aO,T.aK,T.aY]; lia⟩
 have p1:T.au [.node f]≤4400:=by rw [T.aq,T.aR]; lia
 have p2:T.au [.node (aQ f)]≤15000:=by rw [T.aq,T.aR]; lia
 refine⟨⟨N,e,fun i hi=>⟨⟨(i1 i hi).1.1.le (by lia),Nat.le_trans (i1 i hi).1.2 (by lia)⟩,Nat.le_trans (i1 i hi).2 (by lia)⟩⟩,?_⟩
 obtain⟨⟨⟨_,d2⟩,_⟩,_⟩:=i1 N (Nat.le_refl _)
 rw [e] at d2
 have d2:(T.node (goT 30 [.node f] [.node (aQ f)]).2.1).deep≤101+2 * 30:=d2
 rw [T.aO] at d2
 have a1:=pG _ 0 d2
 have a2:=Dn (goT 30 [.node f] [.node (aQ f)]).2.1 0
 exact⟨by lia,by lia⟩
theorem GC {t x:T} (ht:B 161 81300 t) (hx:B 41 41 x):nO 163 ([t],[x]):=⟨by show (T.node [t]).deep≤163; rw [T.aO,T.aK,T.aY]; have:=ht.1; lia,by show (T.node [x]).deep≤163; rw [T.aO,T.aK,T.aY]; have:=hx.1; lia⟩
theorem Yw {t x:T} (ht:B 161 81300 t) (hx:B 41 41 x):∀ b,b≤30→Sane b [t] [x]:=fun b hb =>
 Ks (M:=81300) b _ _ 163 81300 41 (by lia) (GC ht hx) (by lia) (xG ht.2) (by rw [T.aq,T.aR]; have:=ht.2; lia) (by rw [T.aq,T.aR]; have:=hx.2; lia) (by lia)
end Sw
namespace Sw
theorem acw {D W n B:Nat}{e:Std} (h4:4≤D) (hD:D≤280) (hW:W≤7900000) (k:∀ b,b≤B→Sane b e.1 e.2):∀ {st:Std},Way D W st n e→∀ b,b≤B→Sane b st.1 st.2:=by
 induction n with
 | zero=>intro st h b hb; rw [h.at]; exact k b hb
 | succ n ih =>
  intro st h b hb
  obtain⟨_,_,h'⟩:=h.step h4
  obtain⟨b1,b2⟩:=aah (tx:=st.1) (s:=st.2) (h.ok hD hW)
  exact .mk b1 b2 fun _ _=>ih h' _ (by lia)
theorem acu {st e:Std}{n c a w B:Nat} (g:Wlk st n c e) (h:In a w st) (h4:4≤a) (hn:n≤110) (ha:a≤280) (hw:w+3 * c≤7900000) (k:∀ b,b≤B→Sane b e.1 e.2):∀ b,b≤B→Sane b st.1 st.2 :=
 acw (D:=a) (W:=w+3 * c) h4 ha hw k ⟨c,g,hn,h.1.le (by lia),by have:=h.2; lia⟩
def wM (a w X:Nat) (d:Std):Prop:=∀ i,(stN i d).1≠[]∧In a w (stN i d)∧gb (stN i d).1 (stN i d).2≤X
theorem wM.next {a w X:Nat}{d:Std} (h:wM a w X d):wM a w X (nx d):=fun i=>by
 have:=h (i+1)
 rw [jF] at this
 exact this
theorem adE {r cs us:List T}{a w w1 X:Nat} (ha:a≤270) (h92:92≤a) (hX:w+w1+3 * X+3000≤7900000) (hc:In a w1 (.node (bK++r)::cs,us)):∀ (B:Nat) {d:Std},wM a w X d→∀ b,b≤B→Sane b (gk r cs us d).1 (gk r cs us d).2:=by
 have hsp:(T.node eY).deep≤90:=JW.1
 intro B
 induction B with
 | zero =>
  intro d h b hb
  obtain⟨h1,hd,hx⟩:=h 0
  have hd:In a w d:=hd
  obtain⟨b1,b2⟩:=okIn (JT hd hc) (by lia) (by lia)
  refine .mk b1 b2 fun _ z=>?_
  have:=qw (gk r cs us d).1 (gk r cs us d).2
  lia
 | succ B ih =>
  intro d h b hb
  obtain⟨h1,hd,hx⟩:=h 0
  have h1:d.1≠[]:=h1
  have hd:In a w d:=hd
  have hx:gb d.1 d.2≤X:=hx
  have hi:=JT hd hc
  obtain⟨b1,b2⟩:=okIn hi (by lia) (by lia)
  refine .mk b1 b2 fun _ z=>?_
  have hcp:=qw (gk r cs us d).1 (gk r cs us d).2
  have en:nx (gk r cs us d)=(.node eY::.node (bK++r)::cs,.node d.1::.node d.2::us):=HB h1
  obtain⟨n,c,hn,hcc,g⟩:=Va (top:=.node (bK++r)) (cs:=cs) (us:=us) (st:=d.2) h1
  rw [← en] at g
  refine acu (a:=a+2) (w:=w+w1+1200) (B:=B) g ?_ (by lia) hn (by lia) (by lia) (fun b' hb'=>ih h.next b' hb') _ (by lia)
  obtain⟨⟨q1,q2⟩,q3⟩:=hi
  have q1:(T.node (.node (bK++r)::cs)).deep≤a+1:=q1
  have q2:(T.node (.node d.1::.node d.2::us)).deep≤a+1:=q2
  have q3:T.au (.node (bK++r)::cs)+T.au (.node d.1::.node d.2::us)≤w+w1+2:=q3
  rw [en]
  refine⟨⟨?_,by show (T.node (.node d.1::.node d.2::us)).deep≤a+2; lia⟩,?_⟩
  ·show (T.node (.node eY::.node (bK++r)::cs)).deep≤a+2
   rw [T.aO,T.aK]
   rw [T.aO] at q1
   lia
  ·show T.au (.node eY::.node (bK++r)::cs)+T.au (.node d.1::.node d.2::us)≤_
   rw [T.aq (.node eY),wV]
   lia
theorem acF {st:Std}:1≤evW (aX dj) st:=by
 have h12:=xJ (tx:=st.1) (s:=st.2)
 unfold evW
 have h:∀ k,k≤12→1≤aX dj k:=by decide
 have:=h _ h12
 lia
theorem abD {r cs us:List T}{a w X:Nat}:∀ (N:Nat) {d:Std},wM a w X d→∃ c,N≤c∧Wo dj (gk r cs us d) c (gk r cs us (stN N d)):=by
 intro N
 induction N with
 | zero=>intro d _; exact⟨0,Nat.le_refl _,.nil⟩
 | succ N ih =>
  intro d h
  obtain⟨c,hc,g⟩:=ih h.next
  have hp:=acF (st:=d)
  refine⟨c+evW (aX dj) (d.1,d.2),by show _≤c+evW (aX dj) d; lia,?_⟩
  rw [jF]
  exact aai (h 0).1 g
theorem Xf {st d:Std}{r cs us:List T}{a w X c0:Nat} (g:Wo dj st c0 (gk r cs us d)) (h:wM a w X d):∀ b,(goT b st.1 st.2).1≠[]:=fun b=>by
 obtain⟨c,hc,g2⟩:=abD (r:=r) (cs:=cs) (us:=us) (b+1) h
 exact ahp (g.trans g2) b (by lia)
def cj (ws:List T):List T:=ws++[aU 0 [leaf],aU 8 []]
theorem akq {s:List T}:nx ([.node [aU 8 []]],.node [leaf]::s)=([.node [],.node [aU 8 []]],.node [leaf]::s):=by
 unfold nx
 rw [fV,if_neg (by show 8≠7; decide),if_pos (by rfl),if_pos (by show [leaf]≠[]; simp),pB (by show 6<8; decide),dD (by show 1≤_; simp)]
 rfl
theorem akp {s:List T}:nx ([.node [],.node [aU 8 []]],.node [leaf]::s)=([.node [aU 8 []]],.node [leaf]::s):=rfl
theorem RD {s:List T}:∀ i,stN i ([.node [aU 8 []]],.node [leaf]::s)=([.node [aU 8 []]],.node [leaf]::s)∨stN i ([.node [aU 8 []]],.node [leaf]::s)=([.node [],.node [aU 8 []]],.node [leaf]::s)
 | 0=>.inl rfl
 | i+1=>by
  have e:stN (i+1) ([.node [aU 8 []]],.node [leaf]::s)=nx (stN i ([.node [aU 8 []]],.node [leaf]::s)):=rfl
  rw [e]
  rcases RD (s:=s) i with h | h
  ·rw [h]; exact .inr akq
  ·rw [h]; exact .inl akp
theorem aak {w:T}{ws s:List T} (h7:aJ w≠7) (h8:aJ w≠8):nx ([.node (w::ws)],s)=([.node ws],behind w s):=by
 unfold nx
 rw [fV,if_neg h7,if_neg h8]
 split <;> rfl
theorem RX:∀ {ws s:List T},(∀ w∈ws,aJ w≠7∧aJ w≠8)→∃ s',stN (ws.length+1) ([.node (cj ws)],s)=([.node [aU 8 []]],.node [leaf]::s')∧∀ i,i≤ws.length→∃ v t,stN i ([.node (cj ws)],s)=([.node (cj v)],t)∧∃ u,ws=u++v
 | [],s,_=>⟨s,by
   show nx ([.node [aU 0 [leaf],aU 8 []]],s)=_
   rw [aak (by decide) (by decide),Nz rfl]; rfl,fun i hi=>by
   have:i=0:=by have:([]:List T).length=0:=rfl; lia
   subst this
   exact⟨[],s,rfl,[],rfl⟩⟩
 | w::ws,s,h=>by
  obtain⟨h7,h8⟩:=h w List.mem_cons_self
  obtain⟨s',e1,e2⟩:=RX (ws:=ws) (s:=behind w s) fun v hv=>h v (List.mem_cons_of_mem _ hv)
  have hn:nx ([.node (cj (w::ws))],s)=([.node (cj ws)],behind w s):=aak h7 h8
  refine⟨s',?_,fun i hi=>?_⟩
  ·rw [List.length_cons,jF,hn]; exact e1
  ·cases i with
   | zero=>exact⟨w::ws,s,rfl,[],rfl⟩
   | succ i =>
    obtain⟨v,t,e3,u,e4⟩:=e2 i (by rw [List.length_cons] at hi; lia)
    exact⟨v,t,by rw [jF,hn]; exact e3,w::u,by rw [e4]; rfl⟩
theorem abA {ws s:List T} (h:∀ w∈ws,aJ w≠7∧aJ w≠8):∀ i,(stN i ([.node (cj ws)],s)).1≠[]:=by
 obtain⟨s',e1,e2⟩:=RX (s:=s) h
 intro i
 by_cases hi:i≤ws.length
 ·obtain⟨v,t,e3,_⟩:=e2 i hi
  rw [e3]; simp
 ·have e:=Jv (ws.length+1) (i - (ws.length+1)) ([.node (cj ws)],s)
  rw [show ws.length+1+(i - (ws.length+1))=i by lia,e1] at e
  rw [e]
  rcases RD (s:=s') (i - (ws.length+1)) with z | z
  ·rw [z]; simp
  ·rw [z]; simp
end Sw
namespace Sw
theorem U6 {st e:Std}{n c:Nat} (g:Wlk st n c e):Wo dj st c e:=by
 induction g with
 | nil=>exact .nil
 | @cons st e n c h1 _ _ ih=>exact (Wo.cons h1 ih).to (by rw [M9,← JZ])
section
variable {t cs us:List T}{n c:Nat}{e:Std}
end
end Sw
namespace Sw
theorem Xg {r cs us:List T}{a w w1 X:Nat} (ha:a≤270) (h92:92≤a) (hX:w+w1+3 * X+3000≤7900000) (hc:In a w1 (.node (bK++r)::cs,us)) {d:Std} (h:wM a w X d):∀ b,Sane b (gk r cs us d).1 (gk r cs us d).2:=fun b=>adE ha h92 hX hc b h b (Nat.le_refl _)
section
variable {g f h:List T}{x:T}
theorem aeV {t:T} (ht:B 199 1000000 t) (hx:B 150 60000 x) (k3:∀ b,Sane b [.node (bK++[])] [.node [t],.node [x]]):∀ b,Sane b [.node (W 4::cT)] [t,x]:=by
 obtain⟨u1,u2,u3,u4,u5,u6⟩:=wW
 have hxd:=hx.1
 have hxp:=hx.2
 have htd:=ht.1
 have htp:=ht.2
 have g:Wlk ([.node (W 4::cT)],[t,.node x.kids]) 8 8 (gk [] [] [] ([t],[.node x.kids])):=by
  have:=Br (r:=[]) (cs:=[]) (us:=[]) (x:=t) (its:=x.kids)
  rw [List.append_nil] at this
  exact bZ this
 rw [gM] at g
 refine rM (a:=201) (w:=1300000) g ?_ (by decide) (by decide) (by decide) (by decide) k3
 exact In.mk1 (by rw [T.aK,T.aY]; lia) (by rw [T.aK,T.aK,T.aY]; lia) (by rw [T.aq,T.aR,T.aq,T.aq,T.aR]; lia)
theorem aht:In 200 10000 ([.node (bK++[])],[]):=by
 have v1:(T.node bK).deep≤90:=JW.2
 have v2:=Xa
 rw [List.append_nil]
 exact In.mk1 (by rw [T.aK,T.aY]; lia) (by rw [T.aY]; lia) (by rw [T.aq,T.aR]; lia)
theorem Ui {t:T} (h2:wM 200 1500000 1500010 ([t],[x])):∀ b,Sane b [.node (bK++[])] [.node [t],.node [x]] :=
 Xg (r:=[]) (cs:=[]) (us:=[]) (a:=200) (w:=1500000) (w1:=10000) (X:=1500010) (by decide) (by decide) (by decide) aht h2
end
end Sw
namespace Sw
theorem Pu {ws s:List T} (h:∀ w∈ws,(aJ w≠7∧aJ w≠8)∧B 50 100 w) (hl:ws.length≤4) (hs:T.bM s≤150) (hp:T.au s≤40000):wM 200 1500000 1500010 ([.node (cj ws)],s):=by
 have e1:(aU 0 [leaf]).parts=3:=by decide
 have e2:(aU 8 []).parts=10:=by decide
 have e3:(aU 0 [leaf]).deep=1:=by decide
 have e4:(aU 8 []).deep=2:=by decide
 have hwp:T.au ws≤4 * 100:=Nat.le_trans (T.tL fun w hw=>(h w hw).2.2) (Nat.mul_le_mul_right _ hl)
 have hwd:T.bM ws≤51:=T.vG fun w hw=>by have:=(h w hw).2.1; lia
 have hgp:(T.node (cj ws)).parts≤420:=by unfold cj; rw [T.aL,T.cB,T.aq,T.aq,T.aR]; lia
 have hgd:(T.node (cj ws)).deep≤60:=by unfold cj; rw [T.aO,T.dX,T.aK,T.aK,T.aY]; lia
 have hW:Wds 100 [.node (cj ws)]:=fun t ht w hw=>by
  rw [List.mem_singleton.mp ht] at hw
  have hw:w∈ws++[aU 0 [leaf],aU 8 []]:=hw
  rcases List.mem_append.mp hw with z | z
  ·exact (h w z).2.2
  ·rcases List.mem_cons.mp z with rfl | z
   ·lia
   ·rw [List.mem_singleton.mp z]; lia
 have hd:nO 160 ([.node (cj ws)],s):=⟨by show (T.node [.node (cj ws)]).deep≤160; rw [T.aO,T.aK,T.aY]; lia,by show (T.node s).deep≤160; rw [T.aO]; lia⟩
 have key:∀ i,i≤5→Wds 100 (stN i ([.node (cj ws)],s)).1∧T.au (stN i ([.node (cj ws)],s)).1≤420+i * 100∧T.au (stN i ([.node (cj ws)],s)).2+104≤2 ^ i * 40104:=by
  intro i
  induction i with
  | zero=>intro _; exact⟨hW,by show T.au [.node (cj ws)]≤_; rw [T.aq,T.aR]; lia,by show T.au s+104≤_; lia⟩
  | succ i ih =>
   intro hi
   obtain⟨q1,q2,q3⟩:=ih (by lia)
   obtain⟨g1,g2,g3⟩:=q1.next (s:=(stN i ([.node (cj ws)],s)).2)
   refine⟨g1,by show T.au (onward _ _).1≤_; lia,?_⟩
   show T.au (onward _ _).2.1+104≤_
   rw [Nat.pow_succ]
   lia
 have small:∀ i,i≤5→In 170 1300000 (stN i ([.node (cj ws)],s)):=fun i hi=>by
  obtain⟨_,q2,q3⟩:=key i hi
  have h4:2 ^ i≤2 ^ 5:=Nat.pow_le_pow_right (by decide) hi
  have h5:2 ^ i * 40104≤32 * 40104:=Nat.mul_le_mul_right _ h4
  exact⟨(abK (by lia) hd i).le (by lia),by show T.au _+T.au _≤_; lia⟩
 obtain⟨s',e5,e6⟩:=RX (s:=s) fun w hw=>(h w hw).1
 have hs':=small (ws.length+1) (by lia)
 rw [e5] at hs'
 obtain⟨⟨_,d2⟩,d3⟩:=hs'
 have d2:(T.node (.node [leaf]::s')).deep≤170:=d2
 have d3:T.au [.node [aU 8 []]]+T.au (.node [leaf]::s')≤1300000:=d3
 intro i
 have hin:In 200 1500000 (stN i ([.node (cj ws)],s)):=by
  by_cases hi:i≤5
  ·exact⟨(small i hi).1.le (by lia),Nat.le_trans (small i hi).2 (by lia)⟩
  ·have e:=Jv (ws.length+1) (i - (ws.length+1)) ([.node (cj ws)],s)
   rw [show ws.length+1+(i - (ws.length+1))=i by lia,e5] at e
   rw [e]
   have c1:T.au [.node [aU 8 []]]=11:=by decide
   have c2:T.au [.node [],.node [aU 8 []]]=12:=by decide
   rcases RD (s:=s') (i - (ws.length+1)) with z | z
   ·rw [z]; exact⟨⟨by show (T.node [.node [aU 8 []]]).deep≤200; decide,by show (T.node (.node [leaf]::s')).deep≤200; lia⟩,by show T.au [.node [aU 8 []]]+T.au (.node [leaf]::s')≤_; lia⟩
   ·rw [z]; exact⟨⟨by show (T.node [.node [],.node [aU 8 []]]).deep≤200; decide,by show (T.node (.node [leaf]::s')).deep≤200; lia⟩,by show T.au [.node [],.node [aU 8 []]]+T.au (.node [leaf]::s')≤_; lia⟩
 refine⟨abA (fun w hw=>(h w hw).1) i,hin,?_⟩
 have hx:=aft (stN i ([.node (cj ws)],s)).1 (stN i ([.node (cj ws)],s)).2
 have hw:=hin.2
 have hx:gb (stN i ([.node (cj ws)],s)).1 (stN i ([.node (cj ws)],s)).2≤wt (stN i ([.node (cj ws)],s))+1:=hx
 lia
def Cw (r:Nat) (f:List T):Prop:=(∀ b,b≤r→Sane b [.node f] [.node (aQ f)])∧((goT r [.node f] [.node (aQ f)]).1=[] →
  (∃ N,stN N ([.node f],[.node (aQ f)])=([],(goT r [.node f] [.node (aQ f)]).2.1)∧∀ i,i≤N→In 260 3900000 (stN i ([.node f],[.node (aQ f)]))∧gb (stN i ([.node f],[.node (aQ f)])).1 (stN i ([.node f],[.node (aQ f)])).2≤1000000)∧B 161 81300 (ats (goT r [.node f] [.node (aQ f)]).2.1 0))
theorem afs {f:List T} (h:B 60 4400 (.node f)) (hw:Jg f):Cw 30 f:=⟨abB h,Xd h hw⟩
theorem Za {r:Nat}{f:List T}{x:T} (h:B 60 4400 (.node f)) (hf:Cw r f) (hx:B 41 41 x) (he1:(goT r [.node f] [.node (aQ f)]).1=[])
  (he2:(goT 30 [ats (goT r [.node f] [.node (aQ f)]).2.1 0] [x]).1=[]) :
  (∀ b,Sane b [.node (aQ f)] [x]):=by
 obtain⟨⟨N1,e1,i1⟩,bt⟩:=hf.2 he1
 generalize (goT r [.node f] [.node (aQ f)]).2.1=s1 at *
 obtain⟨N2,e2,i2⟩:=VJ (M:=81300) (a:=163) (by lia) he2 (xG bt.2) (GC bt hx)
 have ps2:=Di (M:=81300) he2 (xG bt.2)
 have p1:T.au [ats s1 0]≤81300:=by rw [T.aq,T.aR]; have:=bt.2; lia
 have p2:T.au [x]≤41:=by rw [T.aq,T.aR]; have:=hx.2; lia
 obtain⟨⟨⟨_,d2⟩,_⟩,_⟩:=i2 N2 (Nat.le_refl _)
 rw [e2] at d2
 have d2:(T.node (goT 30 [ats s1 0] [x]).2.1).deep≤163+2 * 30:=d2
 rw [T.aO] at d2
 have a1:=pG _ 0 d2
 have a2:=Dn (goT 30 [ats s1 0] [x]).2.1 0
 refine abq ((pA h).1.le (by lia) (by lia)) (hx.le (by lia) (by lia)) (bt.le (by lia) (by lia)) e1 i1 e2 (fun i hi=>⟨⟨(i2 i hi).1.1.le (by lia),Nat.le_trans (i2 i hi).1.2 (by lia)⟩,Nat.le_trans (i2 i hi).2 (by lia)⟩) ⟨by lia,by lia⟩
def cD:List T:=[aU 0 [],W 4,W 2,aU 0 [],W 3,W 4,W 3,W 4]
theorem ahs {k:List T}:Wlk ([.node cD],[.node k]) 9 (8+(aU 0 k).parts) ([],[.node [aU 0 k,aU 0 k]]) :=
 (vq (us:=[]) (bZ (a:=.node []) (b:=k) (Od (a:=aU 0 k) (vq (us:=[]) (cX (bZ (cX (bZ (dJ .nil))))))))).to rfl (by lia)
theorem afy:(T.node (aQ cD)).parts≤20000∧(aU 0 (aQ cD)).parts≤20000∧(aU 0 (aQ cD)).parts≤(T.node (aQ cD)).parts+1∧(T.node [.node cD]).deep≤150∧(T.node [.node (aQ cD)]).deep≤150∧T.au [.node cD]+T.au [.node (aQ cD)]≤20000∧(T.node [aU 0 (aQ cD),aU 0 (aQ cD)]).deep≤161∧(T.node [aU 0 (aQ cD),aU 0 (aQ cD)]).parts≤81300∧B 60 4400 (.node cD):=by
 unfold B
 decide +kernel
theorem ag7:∀ i,i≤9→In 260 3900000 (stN i ([.node cD],[.node (aQ cD)]))∧gb (stN i ([.node cD],[.node (aQ cD)])).1 (stN i ([.node cD],[.node (aQ cD)])).2≤1000000:=by
 unfold In nO wt
 have h:∀ i∈List.range 10,(((T.node (stN i ([.node cD],[.node (aQ cD)])).1).deep≤260∧(T.node (stN i ([.node cD],[.node (aQ cD)])).2).deep≤260)∧T.au (stN i ([.node cD],[.node (aQ cD)])).1+T.au (stN i ([.node cD],[.node (aQ cD)])).2≤3900000)∧gb (stN i ([.node cD],[.node (aQ cD)])).1 (stN i ([.node cD],[.node (aQ cD)])).2≤1000000:=by decide +kernel
 exact fun i hi=>h i (List.mem_range.mpr (by lia))
theorem ahq {st e:Std}{n c:Nat} (g:Wlk st n c e):stN n st=e:=by
 induction g with
 | nil=>rfl
 | cons _ _ _ ih=>rw [jF]; exact ih
theorem ag6:Cw (30+2 * (T.node (aQ cD)).parts) cD:=by
 obtain⟨h1,h2,h3,h4,h5,h6,h7,h8,_⟩:=afy
 have g:=ahs (k:=aQ cD)
 refine⟨fun b _=>af6 g rfl 150 (by decide) ⟨h4,h5⟩ (by decide) (by show T.au [.node cD]+T.au [.node (aQ cD)]+_≤_; lia) b,fun _=>?_⟩
 obtain⟨e1,e2,_⟩:=acv g rfl (30+2 * (T.node (aQ cD)).parts) (by lia)
 have e2:(goT (30+2 * (T.node (aQ cD)).parts) [.node cD] [.node (aQ cD)]).2.1=[.node [aU 0 (aQ cD),aU 0 (aQ cD)]]:=e2
 rw [e2]
 exact⟨⟨9,ahq g,ag7⟩,⟨h7,h8⟩⟩
section
variable {f:List T}{x:T}
theorem Qs:Wlk ([.node (aQ f)],[x]) 16 (15+(T.node (gQ f)).parts) (gk (W 4::cT) [] [x] ([.node f],[.node (aQ f)])) :=
 (vq (us:=gQ f) (vq (us:=f) (cX (ZK (cX (bZ (Br (r:=W 4::cT) (cs:=[]) (us:=[x]) (x:=.node f) (its:=aQ f)))))))).to rfl (by lia)
theorem T4 (h:B 60 4400 (.node f)) (hx:B 41 41 x) (k:∀ b,Sane b [.node (bK++(W 4::cT))] [.node [.node f],.node [.node (aQ f)],x]):∀ b,Sane b [.node (aQ f)] [x]:=by
 obtain⟨⟨h1,h2⟩,h5⟩:=pA h
 have h3:=hx.1
 have h4:=hx.2
 refine rM (a:=200) (w:=200000) Qs ?_ (by decide) (by decide) (by decide) (by lia) k
 exact In.mk1 (by rw [T.aK,T.aY]; lia) (by rw [T.aK,T.aY]; lia) (by rw [T.aq,T.aR,T.aq,T.aR]; lia)
theorem RJ (hx:B 41 41 x) (h1:wM 200 1500000 1500010 ([.node f],[.node (aQ f)])):∀ b,Sane b [.node (bK++(W 4::cT))] [.node [.node f],.node [.node (aQ f)],x]:=by
 obtain⟨u1,u2,u3,u4,u5,u6⟩:=wW
 have hxd:=hx.1
 have hxp:=hx.2
 exact Xg (r:=W 4::cT) (cs:=[]) (us:=[x]) (a:=200) (w:=1500000) (w1:=300000) (X:=1500010) (by decide) (by decide) (by decide) (In.mk1 (by rw [T.aK,T.aY]; lia) (by rw [T.aK,T.aY]; lia) (by rw [T.aq,T.aR,T.aq,T.aR]; lia)) h1
theorem adB {s1:List T}{N1:Nat} (hx:B 41 41 x) (e1:stN N1 ([.node f],[.node (aQ f)])=([],s1)) (h1:∀ i,i≤N1→In 260 3900000 (stN i ([.node f],[.node (aQ f)]))∧gb (stN i ([.node f],[.node (aQ f)])).1 (stN i ([.node f],[.node (aQ f)])).2≤1000000)
  (k2:∀ b,Sane b [.node (W 4::cT)] [ats s1 0,x]):∀ b,Sane b [.node (bK++(W 4::cT))] [.node [.node f],.node [.node (aQ f)],x]:=by
 obtain⟨u1,u2,u3,u4,u5,u6⟩:=wW
 have hxd:=hx.1
 have hxp:=hx.2
 refine Am (r:=W 4::cT) (cs:=[]) (us:=[x]) (a:=260) (w:=3900000) (w1:=300000) (X:=1000000) (by decide) (by decide) (by decide) ?_ (N:=N1) (d:=([.node f],[.node (aQ f)])) h1 (by rw [e1]) (fun i hi h0 b=>?_)
 ·exact In.mk1 (by rw [T.aK,T.aY]; lia) (by rw [T.aK,T.aY]; lia) (by rw [T.aq,T.aR,T.aq,T.aR]; lia)
 ·have e:=Jv i (N1 - i) ([.node f],[.node (aQ f)])
  rw [show i+(N1 - i)=N1 by lia,e1,QC _ h0] at e
  rw [← e]
  exact k2 b
theorem abr {s1:List T}{τ1:Nat} (h1:Wo (aX dj) ([.node f],[.node (aQ f)]) τ1 ([],s1)) (h2:wM 200 1500000 1500010 ([ats s1 0],[x])):∀ b,(goT b [.node (aQ f)] [x]).1≠[]:=by
 have g0:=U6 (Qs (f:=f) (x:=x))
 have w8:Wlk ([.node (W 4::cT)],[ats s1 0,.node x.kids]) 8 8 (gk [] [] [] ([ats s1 0],[.node x.kids])):=by
  have:=Br (r:=[]) (cs:=[]) (us:=[]) (x:=ats s1 0) (its:=x.kids)
  rw [List.append_nil] at this
  exact bZ this
 rw [gM] at w8
 have g3:=Wr (r:=W 4::cT) (us:=[x]) (cs:=[]) h1 rfl (U6 w8)
 exact Xf (g0.trans g3) h2
theorem abu {ws:List T} (h:B 60 4400 (.node (cj ws))) (hw:∀ w∈ws,(aJ w≠7∧aJ w≠8)∧B 50 100 w) (hl:ws.length≤4) (hx:B 41 41 x):(∀ b,Sane b [.node (aQ (cj ws))] [x])∧∀ b,(goT b [.node (aQ (cj ws))] [x]).1≠[]:=by
 obtain⟨⟨k1,k2⟩,_⟩:=pA h
 have ev:=Pu (s:=[.node (aQ (cj ws))]) hw hl (by rw [T.aK,T.aY]; lia) (by rw [T.aq,T.aR]; lia)
 exact⟨T4 h hx (RJ hx ev),Xf (U6 Qs) ev⟩
theorem abt {ws:List T} (h:B 60 4400 (.node [aU 0 (cj ws)])) (hw:∀ w∈ws,(aJ w≠7∧aJ w≠8)∧B 50 100 w) (hl:ws.length≤4) (hx:B 41 41 x):(∀ b,Sane b [.node (aQ [aU 0 (cj ws)])] [x])∧∀ b,(goT b [.node (aQ [aU 0 (cj ws)])] [x]).1≠[]:=by
 have hxd:=hx.1
 have hxp:=hx.2
 have wl:Wlk ([.node [aU 0 (cj ws)]],[.node (aQ [aU 0 (cj ws)])]) 2 2 ([],[.node (cj ws),.node (aQ [aU 0 (cj ws)])]):=vq (dJ .nil)
 obtain⟨r1,r2,_⟩:=acv wl rfl 30 (by decide)
 have r1:(goT 30 [.node [aU 0 (cj ws)]] [.node (aQ [aU 0 (cj ws)])]).1=[]:=r1
 have r2:(goT 30 [.node [aU 0 (cj ws)]] [.node (aQ [aU 0 (cj ws)])]).2.1=[.node (cj ws),.node (aQ [aU 0 (cj ws)])]:=r2
 obtain⟨⟨_,_⟩,_⟩:=pA h
 have pw:T.au ws≤4 * 100:=Nat.le_trans (T.tL fun w hw'=>(hw w hw').2.2) (Nat.mul_le_mul_right _ hl)
 have e1:(aU 0 [leaf]).parts=3:=by decide
 have e2:(aU 8 []).parts=10:=by decide
 have sw:Jg [aU 0 (cj ws)]:=.inl fun w hw'=>by
  rw [List.mem_singleton.mp hw']
  unfold aU dh cj
  rw [T.aL,T.aq,List.replicate_zero,T.aL,T.aR,T.cB,T.aq,T.aq,T.aR]
  lia
 obtain⟨⟨N1,q1,q2⟩,_⟩:=Xd h sw r1
 rw [r2] at q1
 have w1:=Pr r1 (aX dj)
 rw [r2] at w1
 have ev:wM 200 1500000 1500010 ([ats [.node (cj ws),.node (aQ [aU 0 (cj ws)])] 0],[x]):=Pu (s:=[x]) hw hl (by rw [T.aK,T.aY]; lia) (by rw [T.aq,T.aR]; lia)
 have wd:T.bM ws≤51:=T.vG fun w hw'=>by have:=(hw w hw').2.1; lia
 have e3:(aU 0 [leaf]).deep=1:=by decide
 have e4:(aU 8 []).deep=2:=by decide
 have bt:B 199 1000000 (.node (cj ws)):=by
  unfold cj
  refine⟨?_,?_⟩
  ·rw [T.aO,T.dX,T.aK,T.aK,T.aY]; lia
  ·rw [T.aL,T.cB,T.aq,T.aq,T.aR]; lia
 exact⟨T4 h hx (adB hx q1 q2 (aeV bt (hx.le (by lia) (by lia)) (Ui ev))),abr w1 ev⟩
theorem abv {n1 n2:List Nat} (h:B 60 4400 (.node f)) (l1:n1.length=15) (l2:n2.length=15):bB dj 0 (uO f n1 n2)≤bB (aX dj) 0 n1+13+(bB (aX dj) 0 n2+13)+10000:=by
 have e:=Xw dj f l1 l2
 have hb:=(pA h).2
 have a1:jD dj=13∧JR dj=9∧dj 13=1:=by decide
 obtain⟨a1,a2,a3⟩:=a1
 rw [a1,a2,a3] at e
 lia
end
end Sw
namespace Sw
open PySem PySem.Spec PyProof.Rows L2
end Sw
namespace Sw
open PySem PySem.Spec PyProof.Rows L2
section
variable {X:Cx}{o e value:Expr}{f:Str}{pos pos':Pos}{ta tv:TE}
theorem bY (he:QE X e ta) (hb:attributeBase e f X.env (eval e X.env)=eval e X.env):QE X (.Attribute e f pos) (tFld X.K ta f):=⟨pe_fld he.run hb⟩
theorem fZ (ha:QE X o ta) (hv:QE X value tv) (hs:swapsWith value (some (.Attribute o f pos')) pos.line X.env=pure false):QS X (.Assign [.Attribute o f pos'] value pos) (sFld X.K ta tv f):=⟨ps_fld ha.run hv.run hs⟩
end
section
variable {X:Cx}{CX:CXT}{k:Nat}{f C:Addr}{fd:FuncData}{ps:List Str}{sp:Sp}{dvs:List V}{ds:List Value}{E:XK}{m x:Str}{p apos pos:Pos}{o e:Expr}{es:List Expr}{ta:TE}{t:TA}
theorem aad {pl:Sem Bool} (he:QE X o ta) (c:Cls X.K C) (hm:Meth X.K C m f) (F:FnOk X.prog X.w X.K X.mg X.base CX k f fd ps sp) (hr:Room k X.A) (hb:Binds X.K fd ps ds) (hd:Vals dvs ds) (hx:Passes CX X E) (ha:QA X (e::es) t)
  (hst:starEach (e::es) X.env=(false,eval e X.env)::starEach es X.env:=by rfl) (hpl:(backTo pos (starEach es X.env)).any (·.1)=false:=by rfl)
  (ht:eval (.Call (.Attribute o m apos) (e::es) [] pos) X.env=(do
   let ov ← eval o X.env
   standAt apos.atName
   let (f,first) ← holding [ov] (getMethod ov m pl)
   callWith pos f first (backTo pos (starEach (e::es) X.env)) (backToKw pos (keywordEach [] X.env))):=by rfl):QE X (.Call (.Attribute o m apos) (e::es) [] pos) (tMeth C m sp dvs E ta t):=⟨pe_meth (pl:=pl) he.run c hm F hr hb hd hx ha.run hst hpl ht⟩
theorem nF {pl:Sem Bool} (he:QE X o ta) (c:Cls X.K C) (hm:Meth X.K C m f) (F:FnOk X.prog X.w X.K X.mg X.base CX k f fd ps sp) (hr:Room k X.A) (hb:Binds X.K fd ps ds) (hd:Vals dvs ds) (hx:Passes CX X E)
  (ht:eval (.Call (.Attribute o m apos) [] [] pos) X.env=(do
   let ov ← eval o X.env
   standAt apos.atName
   let (f,first) ← holding [ov] (getMethod ov m pl)
   callWith pos f first (backTo pos (starEach [] X.env)) (backToKw pos (keywordEach [] X.env))):=by rfl):QE X (.Call (.Attribute o m apos) [] [] pos) (tMeth C m sp dvs E ta tNil):=⟨aeR (pl:=pl) he.run c hm F hr hb hd hx ht⟩
end
section
variable {R P:Addr}{nm:List Nat}
end
section
variable {K:PySem.W.Frag}{C:Addr}{H₀ H:Hp}{o dx R P:Addr}{ys:List V}{st:List (List T)}{pl:List (List Nat)}{nm:List Nat}
theorem acU {H':Hp}{p:Addr} (h:Fd K H₀ H p st ys) (S:Same H H'):Fd K H₀ H' p st ys :=
 ⟨h.new,h.same.trans S,S _ _ h.at_,h.rows.imp fun _ _ ⟨a,xs,e,h1,h2,h3⟩=>⟨a,xs,e,h1,S _ _ h2,h3.mono (.of S)⟩,h.nd⟩
theorem acW {p q:Addr}{x:HO} (h:Fd K H₀ H p st ys) (k:Kt H (upd H q x)) (h0:H₀ q=none) (hn:(.ref q:V) ∉ (.ref p:V)::ys):Fd K H₀ (upd H q x) p st ys :=
 ⟨h.new,eG h.same h0,by rw [upd_ne (fun z=>hn (by rw [z]; exact List.mem_cons_self))]; exact h.at_,yu k h.rows fun z=>hn (List.mem_cons_of_mem _ z),h.nd⟩
theorem Kt.ins {C' dx':Addr}{fs:List (Str×V)}{x:HO} (h:H o=some (.ins C' dx' fs)):Kt H (upd H o x) :=
 ⟨fun b xs e=>by rw [upd_ne (fun z=>by rw [z,h] at e; cases e)]; exact e,fun b _ _ e=>by rw [upd_ne (fun z=>by rw [z,h] at e; cases e)]; exact e⟩
end
end Sw
namespace SwR
open PySem PySem.Spec PyProof.Rows L2 Sw
def ace (K:PySem.W.Frag) (a:Addr) (n:Nat):It :=
 ⟨fun i H=>∃ xs x,SqT K H a xs∧xs.length=n∧xs.reverse[i]?=some x,fun i H v H'=>H'=H∧∀ xs,SqT K H a xs→xs.reverse[i]?=some v,fun i H=>∃ xs,SqT K H a xs∧xs.length=n∧n=i⟩
theorem acX {α:Type}{xs:List α}{i:Nat}{x:α} (h:xs.reverse[i]?=some x):i<xs.length∧xs[xs.length - 1 - i]?=some x:=by
 have hi:i<xs.length:=by have:=(List.getElem?_eq_some_iff.mp h).1; simpa using this
 exact⟨hi,by rw [List.getElem?_reverse hi] at h; exact h⟩
theorem acD {P:Program}{w:World}{K:PySem.W.Frag}{tg:Expr} (a it:Addr) (n:Nat) (hne:a≠it):Turn P w K tg (ace K a n) [it] it (fun i h=>RvO h it a ((n:Int) - 1 - (i:Int))) where
 mem:=by simp
 obj:=fun i h st b hb=>by
  have e:b=it:=by simpa using hb
  subst e
  obtain⟨o,ho,hc,hd⟩:=st
  exact⟨o,ho,fun v z=>by rw [hd] at z; cases z⟩
 keep:=fun i h h' st k=>st.keep fun o e=>k it (by simp) o e
 item:=by
  intro X hP hw hK hc i pins s σ H E I hf st hg
  subst hP hw hK
  obtain⟨xs,x,hq,hn,hx⟩:=hg
  obtain⟨hi,hx'⟩:=acX hx
  obtain⟨its,rv,p,hz⟩:=I.tuple hq
  obtain⟨u,hu,ru⟩:=rv.get hx'
  obtain⟨f0,f1,f2,f3,f4,f5⟩:=hf it (by simp)
  have hl:=rv.length
  have e1:(n:Int) - 1 - (i:Int)=((xs.length - 1 - i:Nat):Int):=by lia
  rw [e1] at st
  refine next_item (items:=its.toArray) st p (x:=u) (by simpa using hu) (by rw [List.size_toArray]; lia) hne fun h' tk st' sb=>?_
  have e2:((xs.length - 1 - i:Nat):Int) - 1=(n:Int) - 1 - ((i+1:Nat):Int):=by lia
  rw [e2] at st'
  have I1:Inv X pins σ H { s with heap:=h',toks:=tk }:=I.turned (fun b o hb e=>(sb.2 b hb).trans e) f0 f1 f3 f4 f5
  obtain⟨o,e,c,d⟩:=id st'
  exact⟨u,rfl,go_of (s:={ s with heap:=h',toks:=tk }) e c d (by decide) ⟨x,H,I1,ru,⟨rfl,fun ys hy=>by rw [I.sI hy hq]; exact hx⟩,st',fun b hb=>(hf b hb).1⟩⟩
 done:=by
  intro X hP hw hK hc i pins s σ H E I hf st hg
  subst hP hw hK
  obtain⟨xs,hq,hn,hx⟩:=hg
  obtain⟨f0,f1,f2,f3,f4,f5⟩:=hf it (by simp)
  have e1:(n:Int) - 1 - (i:Int)=-1:=by lia
  rw [e1] at st
  exact next_end (I.ok.hd hc) st fun h' eb=>⟨rfl,I.turned (t':=s.toks) (fun b o hb e=>eb b o hb e) f0 f1 f3 f4 f5⟩
 self:=fun _ _ _ _ _ st h=>zN st h
def afX (K:PySem.W.Frag) (tl:TE):TI:=fun σ H R=>tl σ H fun x H1=>∃ a xs,x=.ref a∧SqT K H1 a xs∧R (ace K a xs.length) H1
theorem agt {X:Cx}{tg l:Expr}{tl:TE}{p pos:Pos} (hg:Gl X "reversed") (hm:X.mg "reversed"=none) (hl:PE X l tl) (hs:starEach [l] X.env=[(false,eval l X.env)]:=by rfl):PI X tg (.Call (.Name "reversed" p) [l] [] pos) (afX X.K tl):=by
 intro pins s σ H R I h
 refine wpAny_Call_Name_kw (ld_blt I hg hm Ba ?_)
 refine PyProof.Rows.callWith_type1 ?_ (by rw [hs]; rfl) (by rfl)
 rw [hs]
 refine Calls.spliced_cons (thn (hl pins s σ H _ I h) fun v s1 ⟨x,H1,I1,r1,q1⟩=>Calls.spliced_nil ?_)
 obtain⟨a,xs,rfl,hq,q⟩:=q1
 cases r1
 obtain⟨its,rv,ht,hz⟩:=I1.tuple hq
 have hlen:=rv.length
 have la:a<s1.heap.objs.size:=let ⟨_,ho,_⟩:=ht; Heap.lt_size ho
 refine XQ ht (by rw [List.size_toArray]; lia) fun tk=>?_
 have hit:RvO (s1.heap.push { cls:=.type "reversed",data:=.fields #[.ref a,rawInt ((its.toArray.size:Int) - 1)] }) s1.heap.objs.size a ((its.toArray.size:Int) - 1):=⟨_,Heap.get?_push_size _ rfl,rfl,rfl⟩
 refine zN (s:={ s1 with heap:=s1.heap.push { cls:=.type "reversed",data:=.fields #[.ref a,rawInt ((its.toArray.size:Int) - 1)] },toks:=tk }) hit ?_
 refine⟨s1.heap.objs.size,[s1.heap.objs.size],_,ace X.K a xs.length,H1,rfl,I1.kept fun b o e=>Heap.get?_push_of_some _ e,acD a _ xs.length (Nat.ne_of_lt la),?_,fun b hb=>?_,q⟩
 ·have e1:(xs.length:Int) - 1 - ((0:Nat):Int)=(its.toArray.size:Int) - 1:=by rw [List.size_toArray]; lia
  show RvO _ _ _ ((xs.length:Int) - 1 - ((0:Nat):Int))
  rw [e1]
  exact hit
 ·have e:b=s1.heap.objs.size:=by simpa using hb
  subst e
  exact I1.fpOk (Nat.le_refl _) (I1.hok.fresh (Nat.le_refl _))
section
variable {prog:Program}{w:World}{A:Around}{E:Value→Shared→Prop}{s:Shared}
end
end SwR
namespace Sw
open PySem PySem.Spec PyProof.Rows L2
section
variable {prog:Program}{w:World}{A:Around}{E:Value→Shared→Prop}{s:Shared}{K:PySem.W.Frag}{x y C:Addr}{ox:Obj}{od:Option Obj}{items:Array Value}
theorem abV {Q:Value→Shared→Prop} (kin:K.In s.heap) (J:PySem.W.InstAt s.heap x ox C od) (hm:PySem.W.mroIn K C (.type "object")=some true) (hxy:x≠y) {oy:Obj} (hy:s.heap.get? y=some oy) (h:Q .notImplemented s) :
  wpAny (model prog w) A (call (.builtin "object.__eq__") [.ref x,.ref y]) Q E s:=by
 refine wpAny_call (codeAny_call_builtin (by decide +kernel) F.cmpEntry_eq ?_)
 unfold checkBuiltinCall
 rw [F.cmpKind_eq,F.cmpSplit_eq]
 dsimp only
 refine wpAny_bind ?_
 unfold isInstance
 refine wpAny_bind (J.type _ _ _ s (fun _ _ e=>e) ?_)
 refine PySem.W.looks_mroIn kin hm _ _ _ s (fun _ _ e=>e) ?_
 rw [if_neg (by decide)]
 refine wpAny_of_eq (F.cmpArgs_eq (.ref x) (.ref y)) ?_
 unfold Builtin.«object.__eq__»
 refine wpAny_bind (wpAny_of_eq (a:=(Value.ref x,[Value.ref y])) rfl ?_)
 dsimp only
 refine wpAny_bind (wpAny_isSame_ref_other hxy J.at_ hy (by rw [J.cls]; exact fun z=>nomatch z) ?_)
 rw [if_neg (by decide)]
 exact wpAny_pure h
theorem abU {Q:Value→Shared→Prop} (kin:K.In s.heap) (J:PySem.W.InstAt s.heap x ox C od) (hm:PySem.W.mroIn K C (.type "tuple")=some false) (ht:s.TypeIs (.ref y) "tuple") (h:Q .notImplemented s) :
  wpAny (model prog w) A (call (.builtin "tuple.__eq__") [.ref y,.ref x]) Q E s:=by
 refine wpAny_call_entry F.slot_tuple_eq ht F.entry_tuple_eq ?_ (F.args_tuple_eq_2 _ _)
 unfold Builtin.«tuple.__eq__»
 wp_delta
 refine wpAny_bind (wpAny_of_eq (a:=(Value.ref y,[Value.ref x])) rfl ?_)
 dsimp only
 refine wpAny_bind ?_
 unfold isInstance
 refine wpAny_bind (J.type _ _ _ s (fun _ _ e=>e) ?_)
 refine PySem.W.looks_mroIn kin hm _ _ _ s (fun _ _ e=>e) ?_
 rw [if_pos (by decide)]
 exact wpAny_pure ⟨_,rfl,h⟩
theorem abG {Q:Value→Shared→Prop} (hu:A.units<cLine) (kin:K.In s.heap) (J:PySem.W.InstAt s.heap x ox C od) (he:PySem.W.findIn K (.ref C) "__eq__"=some (some (.builtin "object.__eq__"))) (hm:PySem.W.mroIn K C (.type "object")=some true)
  (hmt:PySem.W.mroIn K C (.type "tuple")=some false) (hsub:PySem.W.subIn K (.type "tuple") (.ref C)=some false) (hxy:x≠y) {oy:Obj} (hy:s.heap.get? y=some oy) (hc:oy.cls=.type "tuple") (h:Q (.bool false) s) :
  wpAny (model prog w) A (compareOp .Eq (.ref x) (.ref y)) Q E s:=by
 have ht:s.TypeIs (.ref y) "tuple":=⟨oy,hy,hc⟩
 show wpAny _ _ (richCompare .Eq (.ref x) (.ref y)) _ _ _
 unfold richCompare
 refine wpAny_holding (wpAny_bind (wpAny_cRoomFor hu ?_))
 rw [show oneThing? CmpOp.Eq (Value.ref x) (Value.ref y)=none from rfl]
 show wpAny _ _ (typeOf (.ref x) >>= _) _ _ _
 refine wpAny_bind (J.type _ _ _ s (fun _ _ e=>e) ?_)
 refine wpAny_bind (wpAny_typeOf ht ?_)
 rw [if_pos (by rfl)]
 refine wpAny_bind (PySem.W.looks_subIn kin hsub _ _ _ s (fun _ _ e=>e) ?_)
 show wpAny _ _ (tryCompare (.ref x) (Str.ofString "__eq__") (.ref y) >>= _) _ _ _
 have akB:∀ {Q':Option Value→Shared→Prop},Q' none s→wpAny (model prog w) A (tryCompare (.ref x) (Str.ofString "__eq__") (.ref y)) Q' E s:=fun {Q'} q=>by
  unfold tryCompare
  refine wpAny_bind ?_
  unfold callSpecialIfBound?
  refine wpAny_holding (wpAny_bind ?_)
  unfold bindSpecialIfBound?
  refine wpAny_bind ?_
  unfold specialOf
  refine wpAny_bind (J.type _ _ _ s (fun _ _ e=>e) ?_)
  refine PySem.W.looks_findIn kin he _ _ _ s (fun _ _ e=>e) ?_
  dsimp only
  have hb:bindSpecial (.builtin "object.__eq__") (.ref x)=pure (.builtin "object.__eq__",[.ref x]):=F.slot_object_eq.bind _
  rw [hb]
  have fin:wpAny (model prog w) A (call (.builtin "object.__eq__") ([.ref x]++[.ref y])) (fun v s1=>wpAny (model prog w) A (pure (some v)) (fun a s'=>wpAny (model prog w) A (match a with | some .notImplemented=>pure none | none=>pure none | some v=>pure (some v)) Q' E s') E s1) E s :=
   abV kin J hm hxy hy (wpAny_pure (wpAny_pure q))
  refine wpAny_bind (wpAny_askSetting ?_)
  split
  ·exact wpAny_bind (wpAny_pure (wpAny_pure (wpAny_bind fin)))
  ·exact wpAny_tryCatch (wpAny_bind (wpAny_pure (wpAny_pure (wpAny_bind fin))))
 refine wpAny_bind (akB ?_)
 show wpAny _ _ (tryCompare (.ref y) (Str.ofString "__eq__") (.ref x) >>= _) _ _ _
 refine wpAny_bind (wpAny_tryCompare_declines ht F.slot_tuple_eq (abU kin J hmt ht ⟨rfl,?_⟩))
 refine wpAny_bind (wpAny_rule ?_)
 exact wpAny_bind (wpAny_isSame_ref_other hxy J.at_ hy (by rw [J.cls]; exact fun z=>nomatch z) (wpAny_pure h))
end
end Sw
namespace SwR
open PySem PySem.Spec PyProof.Rows L2 Sw
end SwR
namespace Sw
open PySem PySem.Spec PyProof.Rows L2
structure Yi (K:PySem.W.Frag) (C:Addr):Prop where
 cl:Cls K C
 eq:PySem.W.findIn K (.ref C) "__eq__"=some (some (.builtin "object.__eq__"))
 ob:PySem.W.mroIn K C (.type "object")=some true
 tu:PySem.W.mroIn K C (.type "tuple")=some false
 sb:PySem.W.subIn K (.type "tuple") (.ref C)=some false
 ca:PySem.W.findIn K (.ref C) "__class__"=some (some (.builtin "object.__class__"))
 cn:PySem.W.specialIn K (.builtin "object.__class__") "__get__"=some (some (.builtin "getset_descriptor.__get__"))
 ct:PySem.W.takesIn K (.builtin "object.__class__")=some true
theorem Yi.ty {K:PySem.W.Frag}{C a dx:Addr}{fs:List (Str×V)}{H:Hp} (r:Yi K C) (h:H a=some (.ins C dx fs)):TyOf K H (.ref a) (.ref C):=.ins h r.cl r.ca r.cn r.ct r.ob
section
variable {X:Cx}
def acY (K:PySem.W.Frag) (n:Nat):R2:=fun x y H Q=>(∃ t u,TR K H t x∧TR K H u y∧t.deep≤n∧Q (.bl (T.beq t u)) H)∨∃ a C dx fs b ys,x=.ref a∧H a=some (.ins C dx fs)∧Yi K C∧y=.ref b∧H b=some (.tup ys)∧Q (.bl false) H
theorem V7 {n:Nat} (hu:X.A.units+n<cLine):OpR X (compareOp .Eq) (acY X.K n):=by
 intro pins s σ H x y v u Q I rx ry h
 rcases h with h | ⟨a,C,dx,fs,b,ys,rfl,ha,r,rfl,hb,q⟩
 ·exact aag hu pins s σ H x y v u Q I rx ry h
 ·cases (show v=Value.ref a from rx)
  cases (show u=Value.ref b from ry)
  obtain⟨mA,O,_⟩:=ins_get I.hok ha
  obtain⟨od,J,_⟩:=O.look
  obtain⟨_,_,_,p⟩:=(show ObjOk X.prog X.w H s.heap b (.tup ys) from I.hok b _ hb)
  obtain⟨o,h1,h2,_⟩:=p
  exact abG (by lia) I.kIn J r.eq r.ob r.tu r.sb (fun z=>by rw [z,hb] at ha; cases ha) h1 h2 ⟨.bl false,H,I,rfl,q⟩
theorem jT:CallR X (.builtin "isinstance") (fun xs H Q=>∃ x D b,xs=[x,.ref D]∧((∃ t,TyOf X.K H x t∧PySem.W.kitOne X.K t (.ref D)=some b)∨(∃ a ys,x=.ref a∧SqT X.K H a ys∧PySem.W.kitOne X.K (.type "tuple") (.ref D)=some b))∧Q (.bl b) H):=by
 intro pins s σ H xs us Q I r h
 obtain⟨x,D,b,rfl,h,q⟩:=h
 obtain⟨u,w',rfl,r1,r2⟩:=vals2 r
 cases (show w'=Value.ref D from r2)
 rcases h with⟨t,ty,e⟩ | ⟨a,ys,rfl,hq,e⟩
 ·exact adC I r1 ty e fun tk=>⟨.bl b,H,I.tok tk,rfl,q⟩
 ·cases r1
  obtain⟨its,_,⟨o,h1,h2,_⟩,_⟩:=I.tuple hq
  exact PySem.W.kia_one PySem.W.kitx_tuple I.kIn ⟨o,h1,h2⟩ e (fun z=>nomatch z) fun tk=>⟨.bl b,H,I.tok tk,rfl,q⟩
def aeK:V→List V→Hp→VK→Prop:=fun x vs H Q=>∃ l xs y,x=.ref l∧vs=[.int 0,y]∧H l=some (.lst xs)∧xs.length<sizeLine∧Q .non (upd H l (.lst (y::xs)))
theorem abf:MtM X "list.insert" aeK:=by
 intro pins s σ H x vs v us Q I rx rv h
 obtain⟨l,xs,y,rfl,rfl,hH,hz,q⟩:=h
 cases rx
 obtain⟨u0,u,rfl,r0,ru⟩:=vals2 rv
 obtain⟨t,rfl⟩:=r0
 obtain⟨z,its,n,r,hl,e⟩:=I.lstM hH
 refine call_meets F.slot_list_insert ⟨_,e,rfl⟩ F.entry_list_insert (F.args_list_insert_3 _ _ _) (AutoSeq1.list_insert_list_int_val_1 l its.toArray n 0 t u (by decide) (by rw [List.size_toArray]; lia)) ⟨e,?_⟩
 refine⟨.non,_,I.WY (its':=u::its) hH e (by simp) (.cons ru r) ?_,rfl,q⟩
 rw [List.length_cons]
 lia
theorem M8:afJ X (rIxL X.K):=by
 intro pins s σ H x y v u Q I rx ry h
 obtain⟨p,xs,i,z,rfl,rfl,hq,he,q⟩:=h
 cases rx
 obtain⟨t,rfl⟩:=ry
 obtain⟨its,r,pl,hz⟩:=I.list hq
 obtain⟨j,h1,h2,h3,h4,h5⟩:=atI_get he
 obtain⟨w,ew,rw'⟩:=r.get h2
 have hl:=r.length
 have hn:=line63
 have fin:EP X pins σ Q w s:=⟨z,H,I,rw',q⟩
 by_cases h0:0≤i
 ·have hj:i.toNat=j:=by
   rw [seqIndex_of h0 h5] at h1
   exact Option.some.inj h1
  exact getItem_listL pl.isList h0 (by lia) (by rw [hj]; exact ew) fin
 ·have hj:(i+(its.toArray.size:Int)).toNat=j:=by
   rw [seqIndex_neg (by lia) h4] at h1
   rw [List.size_toArray,← hl]
   exact Option.some.inj h1
  exact wpAny_getItem_list_neg pl.isList (by lia) (by rw [List.size_toArray] <;> lia) (by lia) (by rw [hj]; simpa using ew) fin
theorem Q7 {pos:Pos}{o i e:Expr}{to ti te:TE}{KJ:V→V→Hp→VK→Prop}{tip:TIp}{KH:N7}{op:Operator}{tpos:Pos} (ho:QE X o to) (hi:QE X i ti) (hg:afJ X KJ) (he:QE X e te) (hp:PIp X op tip) (hs:Yj X KH)
  (ha:∀ ov iv new,augStore i ov iv new=(do holding [new,ov,iv] (setItem ov iv new); release [new,ov,iv] []; pure .next):=by intros; rfl):QS X (.AugAssign (.Subscript o i tpos) op e pos) (afS to ti te KJ tip KH):=⟨agq ho.run hi.run hg he.run hp hs ha⟩
theorem TV {o value:Expr}{f:Str}{pos tpos:Pos}{ta tv:TE}{op:Operator}{rd:V→V→Hp→VK→Prop} (ha:QE X o ta) (hv:QE X value tv) (hop:acf X op rd):QS X (.AugAssign (.Attribute o f tpos) op value pos) (Z6 X.K ta tv rd f):=⟨ac3 ha.run hv.run hop⟩
theorem j5 {CX:CXT}{k:Nat}{f C:Addr}{fd:FuncData}{ps:List Str}{sp:Sp}{dvs:List V}{ds:List Value}{E:XK}{x:Str}{p pos:Pos}{e:Expr}{es:List Expr}{t:TA} (M:Mk X.K C f) (F:FnOk X.prog X.w X.K X.mg X.base CX k f fd ps sp) (hr:Room (k+1) X.A) (hg:Gl X x) (hm:X.mg x=some (.ref C)) (hb:Binds X.K fd ps ds) (hd:Vals dvs ds) (hx:Passes CX X E)
  (ha:QA X (e::es) t) (hdb:(x == ("__debug__":Str))=false:=by decide) (he:starEach (e::es) X.env=(false,eval e X.env)::starEach es X.env:=by rfl) (hpl:(backTo pos (starEach es X.env)).any (·.1)=false:=by rfl) :
  QE X (.Call (.Name x p) (e::es) [] pos) (tMake C sp dvs E t):=⟨agw M F hr hg hm hb hd hx ha.run hdb he hpl⟩
theorem agj {tg l:Expr}{tl:TE}{p pos:Pos} (hg:Gl X "reversed") (hm:X.mg "reversed"=none) (hl:QE X l tl) (hs:starEach [l] X.env=[(false,eval l X.env)]:=by rfl):QI X tg (.Call (.Name "reversed" p) [l] [] pos) (SwR.afX X.K tl):=⟨SwR.agt hg hm hl.run hs⟩
theorem agv {a:Expr}{ta:TE}{pos:Pos} (ha:PE X a ta):PE X (.UnaryOp .Not a pos) (fun σ H Q=>ta σ H fun x H'=>∃ k,Yd X.K x H' k∧Q (.bl (!k)) H'):=by
 intro pins s σ H Q I h
 refine UnaryOp_ (thn (ha pins s σ H _ I h) fun v s1 ⟨x,H1,I1,r1,q1⟩=>?_)
 refine not_of (thn (acH pins s1 σ H1 x v (fun k H2=>Q (.bl (!k)) H2) I1 r1 q1) fun k s2 ⟨H2,I2,q2⟩=>?_)
 exact⟨.bl (!k),H2,I2,rfl,q2⟩
theorem agm {a:Expr}{ta:TE}{pos:Pos} (ha:QE X a ta):QE X (.UnaryOp .Not a pos) (fun σ H Q=>ta σ H fun x H'=>∃ k,Yd X.K x H' k∧Q (.bl (!k)) H'):=⟨agv ha.run⟩
end
end Sw
namespace Sw
open PySem PySem.Spec PyProof.Rows L2
structure Own (K:PySem.W.Frag) (ao aB aG aN aP aM:Addr):Prop where
 rF:Yi K ao
 rL:Yi K aB
 gP:Cls K aG
 cText:Cls K aN
 Iu:Cls K aP
 dO:Cls K aM
 fi:NoAttr K ao "item"
 fb:NoAttr K ao "behind"
 lt:NoAttr K aB "tree"
 lp:NoAttr K aB "place"
 wk:NoAttr K aG "kind"
 wl:NoAttr K aG "load"
 wy:NoAttr K aG "yes"
 wn:NoAttr K aG "no"
 wb:NoAttr K aG "body"
 ws:NoAttr K aG "size"
 tt:NoAttr K aN "tree"
 tw:NoAttr K aN "words"
 gt:NoAttr K aP "text"
 gp:NoAttr K aP "place"
 kg:NoAttr K aM "goings"
 ks:NoAttr K aM "stack"
 kn:NoAttr K aM "numbers"
 kl:NoAttr K aM "left"
 iTF:PySem.W.kitOne K (.type "tuple") (.ref ao)=some false
 iTL:PySem.W.kitOne K (.type "tuple") (.ref aB)=some false
 iFF:PySem.W.kitOne K (.ref ao) (.ref ao)=some true
 iLF:PySem.W.kitOne K (.ref aB) (.ref ao)=some false
 iLL:PySem.W.kitOne K (.ref aB) (.ref aB)=some true
theorem V2 (f:Str) (v:V):putF f v []=[(f,v)]:=rfl
theorem xO (f:Str) (u v:V) (r:List (Str×V)):putF f v ((f,u)::r)=(f,v)::r:=by rw [putF,if_pos rfl]
theorem b_ {f g:Str} (h:¬ g=f) (u v:V) (r:List (Str×V)):putF f v ((g,u)::r)=(g,u)::putF f v r:=by rw [putF,if_neg h]
theorem fX (f:Str) (u:V) (r:List (Str×V)):List.lookup f ((f,u)::r)=some u:=by rw [List.lookup_cons,beq_self_eq_true]
theorem cJ {f g:Str} (h:(f == g)=false) (u:V) (r:List (Str×V)):List.lookup f ((g,u)::r)=List.lookup f r:=by rw [List.lookup_cons,h]
def fF (y z:V):List (Str×V):=[("item",y),("behind",z)]
def fL (v:V) (p:Nat):List (Str×V):=[("tree",v),("place",.int (p:Int))]
def fT (v:V) (W:Addr):List (Str×V):=[("tree",v),("words",.ref W)]
def fG (a:Addr) (p:Nat):List (Str×V):=[("text",.ref a),("place",.int (p:Int))]
def fD (k:Nat) (v y n b z:V):List (Str×V):=[("kind",.int (k:Int)),("load",v),("yes",y),("no",n),("body",b),("size",z)]
def fW (G S N:Addr) (b:Nat):List (Str×V):=[("goings",.ref G),("stack",.ref S),("numbers",.ref N),("left",.int (b:Int))]
theorem Ot {f g:Str} (h:¬ f=g) (u v:V):putF g v (putF f u [])=[(f,u),(g,v)]:=by rw [V2,b_ h,V2]
inductive Role where
 | mine
 | text (t:T) (W:Addr)
 | words (t:T)
 | word (w:T)
 | row (t:T)
abbrev Mp:=Addr→Option Role
def setM (M:Mp) (p:Addr) (r:Role):Mp:=fun a=>if a=p then some r else M a
theorem fu {M:Mp}{p:Addr}{r:Role}:setM M p r p=some r:=by unfold setM; rw [if_pos rfl]
theorem iD {M:Mp}{a p:Addr}{r:Role} (h:a≠p):setM M p r a=M a:=by unfold setM; rw [if_neg h]
section
variable (K:PySem.W.Frag) (CF CL CD CT CG CW:Addr)
def RV (M:Mp) (H:Hp) (t:T) (x:V):Prop:=TR K H t x∨∃ a,x=.ref a∧M a=some (.row t)
def wK (M:Mp) (a:Addr) (t:T):Prop:=∃ W,M a=some (.text t W)
def Ok1 (M:Mp) (H:Hp) (a:Addr):Role→Prop
 | .mine=>True
 | .text t W=>∃ dx v,H a=some (.ins CT dx (fT v W))∧TR K H t v∧M W=some (.words t)
 | .words t=>∃ xs,H a=some (.lst xs)∧xs.length≤t.kids.length∧∀ (j:Nat) x,xs[j]?=some x→∃ b w,x=.ref b∧t.kids[j]?=some w∧M b=some (.word w)
 | .word w=>∃ dx v y n bd sz,H a=some (.ins CD dx (fD (aJ w) v y n bd sz))∧TR K H (bD w) v∧(aJ w=7→∃ ay an,y=.ref ay∧n=.ref an∧wK M ay (ats (bD w).kids 0)∧wK M an (bD (bD w))) ∧
   (aJ w=8→∃ ab,bd=.ref ab∧wK M ab (bD w))∧(sz=.non∨sz=.int ((bD w).parts:Nat))
 | .row t=>(∃ dx y z u ts,H a=some (.ins CF dx (fF y z))∧t=.node (u::ts)∧RV K M H u y∧RV K M H (.node ts) z)∨∃ dx v ts p,H a=some (.ins CL dx (fL v p))∧TR K H (.node ts) v∧p<ts.length∧ts.length≤8000000∧t=.node (ts.drop p)
structure Gh (M:Mp) (H₀ H:Hp):Prop where
 same:Same H₀ H
 new:∀ a r,M a=some r→H₀ a=none
 has:∀ a r,M a=some r→∃ o,H a=some o
 ok:∀ a r,M a=some r→Ok1 K CF CL CD CT M H a r
structure Go (X:Addr→Prop) (M M':Mp) (H₀ H H':Hp):Prop where
 ext:∀ a r,M a=some r→M' a=some r
 mine:∀ a,M a=some .mine→¬ X a→H' a=H a
 kt:Kt H H'
 gh:Gh K CF CL CD CT M' H₀ H'
 wds:∀ W t ws,M W=some (.words t)→H W=some (.lst ws)→∃ ws',H' W=some (.lst ws')∧ws.length≤ws'.length
end
section
variable {K:PySem.W.Frag}{CF CL CD CT CG CW:Addr}{M M' M'':Mp}{H₀ H H' H'':Hp}{X Y:Addr→Prop}
theorem RV.mono {t:T}{x:V} (k:Kt H H') (e:∀ a t,M a=some (.row t)→M' a=some (.row t)) (h:RV K M H t x):RV K M' H' t x:=by
 rcases h with h | ⟨a,rfl,h⟩
 ·exact .inl (h.mono k)
 ·exact .inr ⟨a,rfl,e _ _ h⟩
theorem Ok1.mono {a:Addr}{r:Role} (h:Ok1 K CF CL CD CT M H a r) (ha:H' a=H a) (k:Kt H H') (e:∀ a r,r≠.mine→M a=some r→M' a=some r):Ok1 K CF CL CD CT M' H' a r:=by
 cases r with
 | mine=>trivial
 | text t W =>
  obtain⟨dx,v,h1,h2,h3⟩:=h
  exact⟨dx,v,ha.trans h1,h2.mono k,e _ _ (by simp) h3⟩
 | words t =>
  obtain⟨xs,h1,h2,h3⟩:=h
  refine⟨xs,ha.trans h1,h2,fun j x hx=>?_⟩
  obtain⟨b,w,e1,e2,e3⟩:=h3 j x hx
  exact⟨b,w,e1,e2,e _ _ (by simp) e3⟩
 | word w =>
  obtain⟨dx,v,y,n,bd,sz,h1,h2,h3,h4,h5⟩:=h
  refine⟨dx,v,y,n,bd,sz,ha.trans h1,h2.mono k,fun s7=>?_,fun s8=>?_,h5⟩
  ·obtain⟨ay,an,e1,e2,⟨W1,e3⟩,W2,e4⟩:=h3 s7
   exact⟨ay,an,e1,e2,⟨W1,e _ _ (by simp) e3⟩,W2,e _ _ (by simp) e4⟩
  ·obtain⟨ab,e1,W,e2⟩:=h4 s8
   exact⟨ab,e1,W,e _ _ (by simp) e2⟩
 | row t =>
  have er:∀ a t,M a=some (.row t)→M' a=some (.row t):=fun a t=>e a _ (by simp)
  rcases h with⟨dx,y,z,u,ts,h1,h2,h3,h4⟩ | ⟨dx,v,ts,p,h1,h2,h3,h4,h5⟩
  ·exact .inl ⟨dx,y,z,u,ts,ha.trans h1,h2,h3.mono k er,h4.mono k er⟩
  ·exact .inr ⟨dx,v,ts,p,ha.trans h1,h2.mono k,h3,h4,h5⟩
theorem Gh.nil (H:Hp):Gh K CF CL CD CT (fun _=>none) H H:=⟨Same.refl _,fun _ _ z=>(by cases z),fun _ _ z=>(by cases z),fun _ _ z=>(by cases z)⟩
theorem Gh.grow (g:Gh K CF CL CD CT M H₀ H) (S:Same H H'):Gh K CF CL CD CT M H₀ H' :=
 ⟨g.same.trans S,g.new,fun a r h=>by obtain⟨o,e⟩:=g.has a r h; exact⟨o,S _ _ e⟩,fun a r h=>by
  obtain⟨o,e⟩:=g.has a r h
  exact (g.ok a r h).mono ((S _ _ e).trans e.symm) (.of S) fun _ _ _ z=>z⟩
theorem Gh.mut {p:Addr}{o:HO} (g:Gh K CF CL CD CT M H₀ H) (hp:M p=some .mine) (k:Kt H (upd H p o)):Gh K CF CL CD CT M H₀ (upd H p o):=by
 refine⟨eG g.same (g.new _ _ hp),g.new,fun a r h=>?_,fun a r h=>?_⟩
 ·by_cases z:a=p
  ·exact⟨o,by rw [z,upd_same]⟩
  ·obtain⟨u,e⟩:=g.has a r h
   exact⟨u,by rw [upd_ne z]; exact e⟩
 ·by_cases z:a=p
  ·rw [z,hp] at h
   cases h
   trivial
  ·exact (g.ok a r h).mono (upd_ne z) k fun _ _ _ z=>z
theorem Gh.put {p:Addr}{o:HO}{r:Role} (g:Gh K CF CL CD CT M H₀ H) (hp:M p=some r) (k:Kt H (upd H p o)) (h:Ok1 K CF CL CD CT M (upd H p o) p r):Gh K CF CL CD CT M H₀ (upd H p o):=by
 refine⟨eG g.same (g.new _ _ hp),g.new,fun a r h=>?_,fun a r' h'=>?_⟩
 ·by_cases z:a=p
  ·exact⟨o,by rw [z,upd_same]⟩
  ·obtain⟨u,e⟩:=g.has a r h
   exact⟨u,by rw [upd_ne z]; exact e⟩
 ·by_cases z:a=p
  ·rw [z,hp] at h'
   cases h'
   rw [z]
   exact h
  ·exact (g.ok a r' h').mono (upd_ne z) k fun _ _ _ z=>z
theorem Gh.role {p:Addr}{r:Role} (g:Gh K CF CL CD CT M H₀ H) (hp:M p=none∨M p=some .mine) (hn:H₀ p=none) (hh:∃ o,H p=some o) (h:Ok1 K CF CL CD CT (setM M p r) H p r):Gh K CF CL CD CT (setM M p r) H₀ H:=by
 refine⟨g.same,fun a r' h'=>?_,fun a r' h'=>?_,fun a r' h'=>?_⟩
 ·by_cases z:a=p
  ·rw [z]; exact hn
  ·rw [iD z] at h'; exact g.new a r' h'
 ·by_cases z:a=p
  ·rw [z]; exact hh
  ·rw [iD z] at h'; exact g.has a r' h'
 ·by_cases z:a=p
  ·rw [z,fu] at h'
   cases h'
   rw [z]
   exact h
  ·rw [iD z] at h'
   refine (g.ok a r' h').mono rfl (Kt.refl _) fun b r2 hr hb=>?_
   by_cases y:b=p
   ·rw [y] at hb
    rcases hp with hp | hp
    ·rw [hp] at hb; cases hb
    ·rw [hp] at hb; cases hb; exact absurd rfl hr
   ·rw [iD y]; exact hb
theorem Go.refl (g:Gh K CF CL CD CT M H₀ H):Go K CF CL CD CT X M M H₀ H H:=⟨fun _ _ z=>z,fun _ _ _=>rfl,Kt.refl _,g,fun _ _ ws _ h=>⟨ws,h,Nat.le_refl _⟩⟩
theorem Go.trans (a:Go K CF CL CD CT X M M' H₀ H H') (b:Go K CF CL CD CT X M' M'' H₀ H' H''):Go K CF CL CD CT X M M'' H₀ H H'' :=
 ⟨fun p r h=>b.ext _ _ (a.ext _ _ h),fun p h x=>(b.mine p (a.ext _ _ h) x).trans (a.mine p h x),a.kt.trans b.kt,b.gh,fun W t ws h1 h2=>by
  obtain⟨w1,e1,l1⟩:=a.wds W t ws h1 h2
  obtain⟨w2,e2,l2⟩:=b.wds W t w1 (a.ext _ _ h1) e1
  exact⟨w2,e2,by lia⟩⟩
theorem Go.weak (a:Go K CF CL CD CT X M M' H₀ H H') (h:∀ p,X p→Y p):Go K CF CL CD CT Y M M' H₀ H H':=⟨a.ext,fun p m y=>a.mine p m fun z=>y (h p z),a.kt,a.gh,a.wds⟩
theorem Go.grow (g:Gh K CF CL CD CT M H₀ H) (S:Same H H'):Go K CF CL CD CT X M M H₀ H H' :=
 ⟨fun _ _ z=>z,fun a h _=>by obtain⟨o,e⟩:=g.has a _ h; exact (S _ _ e).trans e.symm,.of S,g.grow S,fun _ _ ws _ h=>⟨ws,S _ _ h,Nat.le_refl _⟩⟩
theorem Go.rv {t:T}{x:V} (a:Go K CF CL CD CT X M M' H₀ H H') (h:RV K M H t x):RV K M' H' t x:=h.mono a.kt fun p t e=>a.ext p _ e
abbrev mkO (H:Hp) (x dx C:Addr) (fs:List (Str×V)):Hp:=upd (upd H dx (.own x)) x (.ins C dx fs)
theorem lG {H:Hp}{p:Addr}{a b:HO}:upd (upd H p a) p b=upd H p b:=by
 funext q
 by_cases h:q=p
 ·rw [h,upd_same,upd_same]
 ·rw [upd_ne h,upd_ne h,upd_ne h]
theorem aku {H:Hp}{p q:Addr}{a b:HO} (h:p≠q):upd (upd H p a) q b=upd (upd H q b) p a:=by
 funext r
 by_cases h1:r=p
 ·rw [h1,upd_ne h,upd_same,upd_same]
 ·by_cases h2:r=q
  ·rw [h2,upd_same,upd_ne (Ne.symm h),upd_same]
  ·rw [upd_ne h2,upd_ne h1,upd_ne h1,upd_ne h2]
variable {x dx C p:Addr}{fs fs':List (Str×V)}{o:HO}
theorem jf:mkO H x dx C fs x=some (.ins C dx fs):=upd_same
theorem adp:upd (mkO H x dx C fs) x (.ins C dx fs')=mkO H x dx C fs':=lG
theorem jC (hx:H x=none) (hd:H dx=none) (ne:dx≠x):Same H (mkO H x dx C fs):=by
 refine (same_new hd _).trans (same_new ?_ _)
 rw [upd_ne (Ne.symm ne)]
 exact hx
theorem Go.made (g:Gh K CF CL CD CT M H₀ H) (hx:H x=none) (hd:H dx=none) (ne:dx≠x):Go K CF CL CD CT X M (setM M x .mine) H₀ H (mkO H x dx C fs):=by
 have S:=jC (C:=C) (fs:=fs) hx hd ne
 have nM:M x=none:=by
  cases h:M x with
  | none=>rfl
  | some r=>obtain⟨o,e⟩:=g.has x r h; rw [hx] at e; cases e
 have g1:=(g.grow S).role (p:=x) (r:=.mine) (.inl nM) (g.same.free hx) ⟨_,jf⟩ trivial
 refine⟨fun a r h=>?_,fun a h _=>?_,.of S,g1,fun _ _ ws _ h=>⟨ws,S _ _ h,Nat.le_refl _⟩⟩
 ·rw [iD (fun z=>by rw [z,nM] at h; cases h)]; exact h
 ·obtain⟨o,e⟩:=g.has a _ h; exact (S _ _ e).trans e.symm
theorem Go.Rv (g:Gh K CF CL CD CT M H₀ H) (hx:H p=none):Go K CF CL CD CT X M (setM M p .mine) H₀ H (upd H p o):=by
 have S:=same_new hx o
 have nM:M p=none:=by
  cases h:M p with
  | none=>rfl
  | some r=>obtain⟨o,e⟩:=g.has p r h; rw [hx] at e; cases e
 have g1:=(g.grow S).role (p:=p) (r:=.mine) (.inl nM) (g.same.free hx) ⟨_,upd_same⟩ trivial
 refine⟨fun a r h=>?_,fun a h _=>?_,.of S,g1,fun _ _ ws _ h=>⟨ws,S _ _ h,Nat.le_refl _⟩⟩
 ·rw [iD (fun z=>by rw [z,nM] at h; cases h)]; exact h
 ·obtain⟨o,e⟩:=g.has a _ h; exact (S _ _ e).trans e.symm
theorem Go.role {r:Role} (g:Gh K CF CL CD CT M H₀ H) (S:Same H H') (hx:H p=none) (hh:∃ o,H' p=some o) (h:Ok1 K CF CL CD CT (setM M p r) H' p r):Go K CF CL CD CT X M (setM M p r) H₀ H H':=by
 have nM:M p=none:=by
  cases h:M p with
  | none=>rfl
  | some r=>obtain⟨o,e⟩:=g.has p r h; rw [hx] at e; cases e
 have g1:=(g.grow S).role (p:=p) (r:=r) (.inl nM) (g.same.free hx) hh h
 refine⟨fun a r h=>?_,fun a h _=>?_,.of S,g1,fun _ _ ws _ h=>⟨ws,S _ _ h,Nat.le_refl _⟩⟩
 ·rw [iD (fun z=>by rw [z,nM] at h; cases h)]; exact h
 ·obtain⟨o,e⟩:=g.has a _ h; exact (S _ _ e).trans e.symm
theorem Gh.fresh (g:Gh K CF CL CD CT M H₀ H) (hx:H p=none):M p=none:=by
 cases h:M p with
 | none=>rfl
 | some r=>obtain⟨o,e⟩:=g.has p r h; rw [hx] at e; cases e
end
end Sw
namespace Sw
open PySem PySem.Spec PyProof.Rows L2
section
variable (K:PySem.W.Frag) (CF CL CD CT CG CW:Addr)
def UV (H:Hp) (t:T) (x:V):Prop:=TR K H t x∨∃ a dx v ts p,x=.ref a∧H a=some (.ins CL dx (fL v p))∧TR K H (.node ts) v∧p<ts.length∧ts.length≤8000000∧t=.node (ts.drop p)
def FV (M:Mp) (H:Hp) (t:T) (x:V):Prop:=∃ a dx y z u ts,x=.ref a∧H a=some (.ins CF dx (fF y z))∧t=.node (u::ts)∧RV K M H u y∧RV K M H (.node ts) z
def Vq:Sp:=fun vs H Q _=>∃ o dx y z,vs=[.ref o,y,z]∧H o=some (.ins CF dx [])∧Q .non (upd H o (.ins CF dx (fF y z)))
def Vn:Sp:=fun vs H Q _=>∃ (o dx:Addr) (v:V) (p:Nat),vs=[.ref o,v,.int (p:Int)]∧H o=some (.ins CL dx [])∧Q .non (upd H o (.ins CL dx (fL v p)))
def K1:Sp:=fun vs H Q _=>∃ o dx a,vs=[.ref o,.ref a]∧H o=some (.ins CG dx [])∧Q .non (upd H o (.ins CG dx (fG a 0)))
def KZ:Sp:=fun vs H Q _=>∃ o dx v,vs=[.ref o,v]∧H o=some (.ins CT dx [])∧∀ W,H W=none→Q .non (upd (upd H W (.lst [])) o (.ins CT dx (fT v W)))
def TF:Sp:=fun vs H Q _=>∃ x t M H₀,vs=[x]∧Gh K CF CL CD CT M H₀ H∧RV K M H t x∧t.deep≤400∧∀ y H',Same H H'→RV K M H' (ats t.kids 0) y→Q y H'
def ZX:Sp:=fun vs H Q _=>∃ (x:V) (ts:List T) (p:Nat) (M:Mp) (H₀:Hp),vs=[x,.int (p:Int)]∧Gh K CF CL CD CT M H₀ H∧TR K H (.node ts) x∧ts.length≤8000000∧∀ y M' H',Same H H'→Go K CF CL CD CT (fun _=>False) M M' H₀ H H'→RV K M' H' (.node (ts.drop p)) y→Q y H'
def Vh:Sp:=fun vs H Q _=>∃ x t M H₀,vs=[x]∧Gh K CF CL CD CT M H₀ H∧RV K M H t x∧t.deep≤400∧t.kids.length≤8000000∧∀ y M' H',Same H H'→Go K CF CL CD CT (fun _=>False) M M' H₀ H H'→RV K M' H' (bD t) y→Q y H'
def Vf:Sp:=fun vs H Q _=>∃ x t,vs=[x]∧UV K CL H t x∧∀ y H',Same H H'→TR K H' t y→Q y H'
def Vj:Sp:=fun vs H Q _=>∃ (x:V) (t:T) (M:Mp) (H₀:Hp) (m:Nat),vs=[x,.int (m:Int)]∧Gh K CF CL CD CT M H₀ H∧RV K M H t x∧t.parts≤8000000∧∀ (c:Nat) H',Same H H'→(t.parts≤m→c=t.parts)→(m<t.parts→m<c)→Q (.int (c:Int)) H'
def Vs:Sp:=fun vs H Q _=>∃ x t M H₀,vs=[x]∧Gh K CF CL CD CT M H₀ H∧RV K M H t x∧t.parts≤8000000∧∀ y H',Same H H'→TR K H' t y→Q y H'
end
section
variable {K:PySem.W.Frag}{CF CL CD CT CG CW:Addr}{M M':Mp}{H₀ H H':Hp}
theorem vm {t:T}{x:V} (h:TR K H t x):∃ b ys,x=.ref b∧SqT K H b ys∧TRs K H t.kids ys:=by
 cases t with
 | node ts=>exact cN.mp h
theorem RV.cases {t:T}{x:V} (g:Gh K CF CL CD CT M H₀ H) (h:RV K M H t x):UV K CL H t x∨FV K CF M H t x:=by
 rcases h with h | ⟨a,rfl,h⟩
 ·exact .inl (.inl h)
 ·rcases g.ok a _ h with⟨dx,y,z,u,ts,h1,h2,h3,h4⟩ | ⟨dx,v,ts,p,h1,h2,h3,h4,h5⟩
  ·exact .inr ⟨a,dx,y,z,u,ts,rfl,h1,h2,h3,h4⟩
  ·exact .inl (.inr ⟨a,dx,v,ts,p,rfl,h1,h2,h3,h4,h5⟩)
def WPW (K:PySem.W.Frag) (M:Mp) (H:Hp) (x:V) (m n:Nat) (p:Addr):Nat→Sg→Hp→Prop:=fun μ σ H'=>∃ (ys:List V) (ts:List T) (c:Nat) (o:Option V),
 σ=[some x,some (.int (m:Int)),some (.ref p),some (.int (c:Int)),o]∧Same H H'∧H' p=some (.lst ys)∧bh (RV K M H') ts.reverse ys∧c+T.au ts=n∧μ=2 * T.au ts - ts.length
theorem iw {ts:List T}{ys:List V} (k:Kt H H') (h:bh (RV K M H) ts ys):bh (RV K M H') ts ys:=h.imp fun _ _ z=>z.mono k fun _ _ y=>y
theorem Qu:∀ {ts:List T}{ys:List V},TRs K H ts ys→bh (RV K M H) ts ys
 | [],_,h=>by rw [bJ.mp h]; exact .nil
 | t::ts,_,h=>by
  obtain⟨x,r,rfl,h1,h2⟩:=cH.mp h
  exact .cons (.inl h1) (Qu h2)
theorem all_nil {α β:Type}{R:α→β→Prop}{ts:List α} (h:bh R ts.reverse []):ts=[]:=by
 have:=h.length
 rw [List.length_reverse] at this
 exact List.length_eq_zero_iff.mp (by simpa using this.symm)
theorem nZ {α β:Type}{R:α→β→Prop}{ts:List α}{ys:List β} (h:bh R ts.reverse ys) (hne:ys≠[]):∃ u ts0 ys0 y,ts=u::ts0∧ys=ys0++[y]∧bh R ts0.reverse ys0∧R u y:=by
 cases ts with
 | nil=>exact absurd (by cases h; rfl) hne
 | cons u ts0 =>
  rw [List.reverse_cons] at h
  obtain⟨ys0,y,rfl,h1,h2⟩:=bh.snoc h
  exact⟨u,ts0,ys0,y,rfl,rfl,h1,h2⟩
theorem mY {α:Type} (xs:List α) (y:α):(xs++[y])[(xs++[y]).length - 1]?=some y:=by simp
theorem mZ {α:Type} (xs:List α) (y:α):(xs++[y]).dropLast=xs:=by simp
theorem ad0 {α β:Type}{R:α→β→Prop}{ts:List α}{ys:List β} (h:bh R ts.reverse ys) (hne:ys≠[]):∃ u ts0 y,ts=u::ts0∧ys[ys.length - 1]?=some y∧bh R ts0.reverse ys.dropLast∧R u y:=by
 obtain⟨u,ts0,ys0,y,rfl,rfl,h1,h2⟩:=nZ h hne
 exact⟨u,ts0,y,rfl,mY _ _,by rw [mZ]; exact h1,h2⟩
theorem Dm:∀ ts:List T,T.au ts.reverse=T.au ts
 | []=>rfl
 | t::ts=>by rw [List.reverse_cons,T.cB,Dm ts,T.aq,T.aq,T.aR]; lia
structure Ki (H H':Hp):Prop where
 kt:Kt H H'
 ins:∀ a C dx fs,H a=some (.ins C dx fs)→H' a=some (.ins C dx fs)
theorem Ki.of (S:Same H H'):Ki H H':=⟨.of S,fun a _ _ _ h=>S _ _ h⟩
theorem Ki.lst {p:Addr}{ys:List V}{o:HO} (h:H p=some (.lst ys)):Ki H (upd H p o):=⟨Kt.lst h,fun a _ _ _ e=>by rw [upd_ne (fun z=>by rw [z,h] at e; cases e)]; exact e⟩
theorem UV.mono {t:T}{x:V} (k:Ki H H') (h:UV K CL H t x):UV K CL H' t x:=by
 rcases h with h | ⟨a,dx,v,ts,p,h1,h2,h3,h4,h5,h6⟩
 ·exact .inl (h.mono k.kt)
 ·exact .inr ⟨a,dx,v,ts,p,h1,k.ins _ _ _ _ h2,h3.mono k.kt,h4,h5,h6⟩
theorem UV.ais {t:T}{x:V} (O:Own K CF CL CD CT CG CW) (h:UV K CL H t x):(∃ ty,TyOf K H x ty∧PySem.W.kitOne K ty (.ref CF)=some false)∨(∃ a ys,x=.ref a∧SqT K H a ys∧PySem.W.kitOne K (.type "tuple") (.ref CF)=some false):=by
 rcases h with h | ⟨a,dx,v,ts,p,rfl,h2,_⟩
 ·obtain⟨b,ys,rfl,hb,_⟩:=vm h
  exact .inr ⟨b,ys,rfl,hb,O.iTF⟩
 ·exact .inl ⟨_,O.rL.ty h2,O.iLF⟩
theorem gG {n:Nat} (h:n<16000000):n<sizeLine:=Nat.lt_of_lt_of_le h (by decide)
end
end Sw
namespace Sw
open PySem PySem.Spec PyProof.Rows L2
def CV:List (List T)→List T→T
 | [l],r::_=>.node (l++r.kids)
 | l::l'::ls,r::rs=>CV ((l'++[.node (l++r.kids)])::ls) rs
 | _,_=>leaf
theorem aer (l:List T) (ls:List (List T)) (u:T) (ts:List T) (rs:List T):CV ([]::l::ls) (u::.node ts::rs)=CV (l::ls) (.node (u::ts)::rs):=by
 rw [CV]
 have e:T.node ([]++u.kids)=u:=by cases u; rfl
 rw [e]
 cases ls with
 | nil =>
  show T.node ((l++[u])++ts)=T.node (l++(u::ts))
  rw [List.append_assoc]; rfl
 | cons l' ls =>
  rw [CV,CV]
  have:(l++[u])++(T.node ts).kids=l++(T.node (u::ts)).kids:=by
   show (l++[u])++ts=l++(u::ts)
   rw [List.append_assoc]; rfl
  rw [this]
structure AsT (K:PySem.W.Frag) (H₀ H:Hp) (R P:Addr) (ys:List V) (st:List (List T)) (zs:List V):Prop where
 rows:Fd K H₀ H R st ys
 pn:H₀ P=none
 at_:H P=some (.lst zs)
 np:(.ref P:V) ∉ (.ref R:V)::ys
section
variable {K:PySem.W.Frag}{H₀ H H':Hp}{R P:Addr}{ys zs zs':List V}{st:List (List T)}
theorem AsT.grow (h:AsT K H₀ H R P ys st zs) (S:Same H H'):AsT K H₀ H' R P ys st zs:=⟨acU h.rows S,h.pn,S _ _ h.at_,h.np⟩
theorem AsT.PR (h:AsT K H₀ H R P ys st zs):P≠R:=fun z=>h.np (by rw [z]; exact List.mem_cons_self)
theorem AsT.place (h:AsT K H₀ H R P ys st zs):AsT K H₀ (upd H P (.lst zs')) R P ys st zs':=⟨acW h.rows (Kt.lst h.at_) h.pn h.np,h.pn,upd_same,h.np⟩
theorem AsT.enter (h:AsT K H₀ H R P ys st zs) {q:Addr} (hq:H q=none):AsT K H₀ (upd (upd H q (.lst [])) R (.lst (ys++[.ref q]))) R P (ys++[.ref q]) ([]::st) zs:=by
 have nPq:P≠q:=ne_of_none h.at_ hq
 refine⟨acV h.rows hq,h.pn,?_,fun z=>?_⟩
 ·rw [upd_ne h.PR,upd_ne nPq]; exact h.at_
 ·rcases List.mem_cons.mp z with z | z
  ·exact h.PR (V.ref.inj z)
  ·rcases List.mem_append.mp z with z | z
   ·exact h.np (List.mem_cons_of_mem _ z)
   ·exact nPq (V.ref.inj (List.mem_singleton.mp z))
theorem AsT.add {r:List T}{rs:List (List T)}{t:T}{x:V} (h:AsT K H₀ H R P ys (r::rs) zs) (ht:TR K H t x) :
  ∃ (ys0:List V) (a:Addr) (xs:List V),ys=ys0++[.ref a]∧H a=some (.lst xs)∧xs.length=r.length∧AsT K H₀ (upd H a (.lst (xs++[x]))) R P ys ((r++[t])::rs) zs:=by
 have hr:=h.rows.rows
 rw [List.reverse_cons] at hr
 obtain⟨ys0,y,rfl,h1,a,xs,rfl,ha0,ha,hta⟩:=bh.snoc hr
 have nd:=h.rows.nd
 have ndp:=(List.nodup_cons.mp nd).1
 have ndy:=(List.nodup_cons.mp nd).2
 have na:(.ref a:V) ∉ ys0:=fun z=>(List.nodup_append.mp ndy).2.2 _ z _ (by simp) rfl
 have nRa:R≠a:=fun z=>ndp (by rw [z]; simp)
 have nPa:P≠a:=fun z=>h.np (by rw [z]; simp)
 have k:=Kt.lst (o:=.lst (xs++[x])) ha
 refine⟨ys0,a,xs,rfl,ha,hta.length,⟨h.rows.new,eG h.rows.same ha0,by rw [upd_ne nRa]; exact h.rows.at_,?_,nd⟩,h.pn,by rw [upd_ne nPa]; exact h.at_,h.np⟩
 rw [List.reverse_cons]
 exact bh.append (yu k h1 na) (bh.one ⟨a,_,rfl,ha0,upd_same,TRs.append (hta.mono k) (fj (ht.mono k))⟩)
theorem AsT.shut {r:List T}{rs:List (List T)} (h:AsT K H₀ H R P ys (r::rs) zs) :
  ∃ (ys0:List V) (a:Addr) (xs:List V),ys=ys0++[.ref a]∧R≠a∧H a=some (.lst xs)∧TRs K H r xs∧AsT K H₀ (upd H R (.lst ys0)) R P ys0 rs zs:=by
 have hr:=h.rows.rows
 rw [List.reverse_cons] at hr
 obtain⟨ys0,y,rfl,h1,a,xs,rfl,ha0,ha,hta⟩:=bh.snoc hr
 have nd:=h.rows.nd
 have ndp:=(List.nodup_cons.mp nd).1
 have ndy:=(List.nodup_cons.mp nd).2
 have nRa:R≠a:=fun z=>ndp (by rw [z]; simp)
 have k:=Kt.lst (o:=.lst ys0) h.rows.at_
 refine⟨ys0,a,xs,rfl,nRa,ha,hta,⟨h.rows.new,eG h.rows.same h.rows.new,upd_same,yu k h1 fun z=>ndp (by simp [z]),List.nodup_cons.mpr ⟨fun z=>ndp (by simp [z]),(List.nodup_append.mp ndy).1⟩⟩,h.pn,by rw [upd_ne h.PR]; exact h.at_,fun z=>h.np ?_⟩
 rcases List.mem_cons.mp z with z | z
 ·rw [z]; exact List.mem_cons_self
 ·exact List.mem_cons_of_mem _ (List.mem_append_left _ z)
theorem agU {α:Type} (xs:List α) (y:α):ixN (xs++[y]).length (-1)=some xs.length:=by
 unfold ixN
 have hl:(xs++[y]).length=xs.length+1:=by simp
 rw [if_neg (by decide),if_pos (by rw [hl]; lia),hl,show ((-1:Int)+((xs.length+1:Nat):Int)).toNat=xs.length by lia]
theorem aeB {α:Type} (xs:List α) (y z:α):(xs++[y]).set xs.length z=xs++[z]:=by simp
end
end Sw
namespace Sw
open PySem PySem.Spec PyProof.Rows L2
def tK (k:Nat) (t:T):Nat:=if k=7 then (if t.kids=[] then 8 else 7) else if k=8 then (if t.kids=[] then 10 else 9) else if k=9 then 11 else k
section
variable (K:PySem.W.Frag) (CF CL CD CT CG CW:Addr)
def ZW:Sp:=fun vs H Q _=>∃ (k:Nat) (x:V) (t:T) (M:Mp) (H₀:Hp),vs=[.int (k:Int),x]∧Gh K CF CL CD CT M H₀ H∧RV K M H t x∧t.deep≤400∧∀ H',Same H H'→Q (.int (tK k t:Nat)) H'
def W7 (M:Mp) (w:T) (y n:V):Prop:=aJ w=7→∃ ay an,y=.ref ay∧n=.ref an∧wK M ay (ats (bD w).kids 0)∧wK M an (bD (bD w))
def W8 (M:Mp) (w:T) (b:V):Prop:=aJ w=8→∃ ab,b=.ref ab∧wK M ab (bD w)
def Ve:Sp:=fun vs H Q _=>∃ (o dx:Addr) (x:V) (w:T) (M:Mp) (H₀:Hp),vs=[.ref o,x]∧Gh K CF CL CD CT M H₀ H∧M o=some .mine∧H o=some (.ins CD dx [])∧TR K H w x∧w.deep≤400 ∧
 ∀ M' H' v y n b,Go K CF CL CD CT (fun a=>a=o) M M' H₀ H H'→(∀ c u,H c=some u→c≠o→H' c=some u)→H' o=some (.ins CD dx (fD (aJ w) v y n b .non))→TR K H' (bD w) v→W7 M' w y n→W8 M' w b→Q .non H'
def Z1:Sp:=fun vs H Q _=>∃ (b:Addr) (w:T) (M:Mp) (H₀:Hp),vs=[.ref b]∧Gh K CF CL CD CT M H₀ H∧M b=some (.word w)∧(bD w).parts≤8000000∧∀ H',Go K CF CL CD CT (fun _=>False) M M H₀ H H'→Q (.int ((bD w).parts:Nat)) H'
def Vc:Sp:=fun vs H Q _=>∃ (a:Addr) (t:T) (W:Addr) (p:Nat) (M:Mp) (H₀:Hp) (ws:List V),vs=[.ref a,.int (p:Int)]∧Gh K CF CL CD CT M H₀ H∧M a=some (.text t W)∧H W=some (.lst ws)∧p≤ws.length∧p≤t.kids.length∧t.deep≤400∧t.kids.length≤8000000 ∧
 (p=t.kids.length→Q .non H)∧∀ w,t.kids[p]?=some w→∀ b M' H',Go K CF CL CD CT (fun _=>False) M M' H₀ H H'→M' b=some (.word w)→(∀ ws',H' W=some (.lst ws')→p+1≤ws'.length)→Q (.ref b) H'
end
section
variable {K:PySem.W.Frag}{CF CL CD CT CG CW:Addr}{M M' M'':Mp}{H₀ H H' H1:Hp}{X:Addr→Prop}
theorem Go.qe {p:Addr}{u:HO} (a:Go K CF CL CD CT X M M' H₀ H H1) (hm:M' p=some .mine) (hX:X p) (k:Kt H1 (upd H1 p u)):Go K CF CL CD CT X M M' H₀ H (upd H1 p u) :=
 ⟨a.ext,fun q h x=>by rw [upd_ne (fun z:q=p=>x (by rw [z]; exact hX))]; exact a.mine q h x,a.kt.trans k,a.gh.mut hm k,fun W t ws h1 h2=>by
  obtain⟨ws',e,l⟩:=a.wds W t ws h1 h2
  have nW:W≠p:=fun z=>by have:=a.ext _ _ h1; rw [z,hm] at this; cases this
  exact⟨ws',by rw [upd_ne nW]; exact e,l⟩⟩
theorem Go.newText {a da W:Addr}{t:T}{v:V} (g:Gh K CF CL CD CT M H₀ H) (tv:TR K H t v) (ha:H a=none) (hd:H da=none) (ne:da≠a) (hW:mkO H a da CT [] W=none) :
  Go K CF CL CD CT X M (setM (setM M W (.words t)) a (.text t W)) H₀ H (upd (upd (mkO H a da CT []) W (.lst [])) a (.ins CT da (fT v W)))∧Same H (upd (upd (mkO H a da CT []) W (.lst [])) a (.ins CT da (fT v W)))∧wK (setM (setM M W (.words t)) a (.text t W)) a t:=by
 have S1:=jC (C:=CT) (fs:=[]) ha hd ne
 have hW0:H W=none:=S1.free hW
 have naW:a≠W:=fun z=>by rw [← z,jf] at hW; cases hW
 have S2:=S1.trans (same_new hW (.lst []))
 have S3:Same H (upd (upd (mkO H a da CT []) W (.lst [])) a (.ins CT da (fT v W))):=eG S2 ha
 have hWl:upd (upd (mkO H a da CT []) W (.lst [])) a (.ins CT da (fT v W)) W=some (.lst []):=by rw [upd_ne (Ne.symm naW),upd_same]
 have nMa:=g.fresh ha
 have nMW:=g.fresh hW0
 have g1:Gh K CF CL CD CT (setM M W (.words t)) H₀ (upd (upd (mkO H a da CT []) W (.lst [])) a (.ins CT da (fT v W))) :=
  (g.grow S3).role (p:=W) (.inl nMW) (g.same.free hW0) ⟨_,hWl⟩ ⟨[],hWl,Nat.zero_le _,fun j x h=>by simp at h⟩
 have g2:Gh K CF CL CD CT (setM (setM M W (.words t)) a (.text t W)) H₀ (upd (upd (mkO H a da CT []) W (.lst [])) a (.ins CT da (fT v W))) :=
  g1.role (p:=a) (.inl (by rw [iD naW]; exact nMa)) (g.same.free ha) ⟨_,upd_same⟩ ⟨da,v,upd_same,tv.mono (.of S3),by rw [iD (Ne.symm naW),fu]⟩
 refine⟨⟨fun p r h=>?_,fun p h _=>?_,.of S3,g2,fun _ _ ws _ h=>⟨ws,S3 _ _ h,Nat.le_refl _⟩⟩,S3,W,fu⟩
 ·rw [iD (fun z=>by rw [z,nMa] at h; cases h),iD (fun z=>by rw [z,nMW] at h; cases h)]; exact h
 ·obtain⟨o,e⟩:=g.has p _ h; exact (S3 _ _ e).trans e.symm
theorem wK.ext {a:Addr}{t:T} (h:wK M a t) (G:Go K CF CL CD CT X M M' H₀ H H'):wK M' a t:=by obtain⟨W,e⟩:=h; exact⟨W,G.ext _ _ e⟩
def d1 (k:V):List (Str×V):=[("kind",k)]
def d2 (k v:V):List (Str×V):=[("kind",k),("load",v)]
def d3 (k v y:V):List (Str×V):=[("kind",k),("load",v),("yes",y)]
def d4 (k v y n:V):List (Str×V):=[("kind",k),("load",v),("yes",y),("no",n)]
def d5 (k v y n b:V):List (Str×V):=[("kind",k),("load",v),("yes",y),("no",n),("body",b)]
theorem pd1 (k:V):putF "kind" k []=d1 k:=rfl
theorem pd2 (k v:V):putF "load" v (d1 k)=d2 k v:=by unfold d1 d2; rw [b_ (by decide +kernel)]; rfl
theorem pd3 (k v y:V):putF "yes" y (d2 k v)=d3 k v y:=by unfold d2 d3; rw [b_ (by decide +kernel),b_ (by decide +kernel)]; rfl
theorem pd4 (k v y n:V):putF "no" n (d3 k v y)=d4 k v y n:=by unfold d3 d4; rw [b_ (by decide +kernel),b_ (by decide +kernel),b_ (by decide +kernel)]; rfl
theorem pd5 (k v y n b:V):putF "body" b (d4 k v y n)=d5 k v y n b:=by unfold d4 d5; rw [b_ (by decide +kernel),b_ (by decide +kernel),b_ (by decide +kernel),b_ (by decide +kernel)]; rfl
theorem pd6 (k:Nat) (v y n b z:V):putF "size" z (d5 (.int (k:Int)) v y n b)=fD k v y n b z:=by unfold d5 fD; rw [b_ (by decide +kernel),b_ (by decide +kernel),b_ (by decide +kernel),b_ (by decide +kernel),b_ (by decide +kernel)]; rfl
variable {k:Nat}{v y n b z u:V}
theorem pdY:putF "yes" u (fD k v y n b z)=fD k v u n b z:=by unfold fD; rw [b_ (by decide +kernel),b_ (by decide +kernel),xO]
theorem pdN:putF "no" u (fD k v y n b z)=fD k v y u b z:=by unfold fD; rw [b_ (by decide +kernel),b_ (by decide +kernel),b_ (by decide +kernel),xO]
theorem pdB:putF "body" u (fD k v y n b z)=fD k v y n u z:=by unfold fD; rw [b_ (by decide +kernel),b_ (by decide +kernel),b_ (by decide +kernel),b_ (by decide +kernel),xO]
theorem pdS:putF "size" u (fD k v y n b z)=fD k v y n b u:=by unfold fD; rw [b_ (by decide +kernel),b_ (by decide +kernel),b_ (by decide +kernel),b_ (by decide +kernel),b_ (by decide +kernel),xO]
theorem ldK:(fD k v y n b z).lookup ("kind":Str)=some (.int (k:Int)):=fX _ _ _
theorem ldL:(fD k v y n b z).lookup ("load":Str)=some v:=(cJ (by decide +kernel) _ _).trans (fX _ _ _)
theorem ldY:(fD k v y n b z).lookup ("yes":Str)=some y:=(cJ (by decide +kernel) _ _).trans ((cJ (by decide +kernel) _ _).trans (fX _ _ _))
theorem ldN:(fD k v y n b z).lookup ("no":Str)=some n:=(cJ (by decide +kernel) _ _).trans ((cJ (by decide +kernel) _ _).trans ((cJ (by decide +kernel) _ _).trans (fX _ _ _)))
theorem ldB:(fD k v y n b z).lookup ("body":Str)=some b:=(cJ (by decide +kernel) _ _).trans ((cJ (by decide +kernel) _ _).trans ((cJ (by decide +kernel) _ _).trans ((cJ (by decide +kernel) _ _).trans (fX _ _ _))))
theorem ldS:(fD k v y n b z).lookup ("size":Str)=some z:=(cJ (by decide +kernel) _ _).trans ((cJ (by decide +kernel) _ _).trans ((cJ (by decide +kernel) _ _).trans ((cJ (by decide +kernel) _ _).trans ((cJ (by decide +kernel) _ _).trans (fX _ _ _)))))
theorem anL {m:Str} (h1:(m == "kind")=false) (h2:(m == "load")=false) (h3:(m == "yes")=false) (h4:(m == "no")=false) (h5:(m == "body")=false) (h6:(m == "size")=false):(fD k v y n b z).lookup m=none :=
 (cJ h1 _ _).trans ((cJ h2 _ _).trans ((cJ h3 _ _).trans ((cJ h4 _ _).trans ((cJ h5 _ _).trans ((cJ h6 _ _).trans rfl)))))
theorem aar {CG CW:Addr}{m:Nat} (O:Own K CF CL CD CT CG CW) (g:Gh K CF CL CD CT M H₀ H) {t:T}{x:V}{p:Addr} (hx:RV K M H t x) (hd:t.deep≤m) (hp:H p=none) {Q:VK} (q:Q (.bl (decide (t.kids=[]))) (upd H p (.tup []))):acY K m x (.ref p) (upd H p (.tup [])) Q:=by
 have S:=same_new hp (.tup [])
 rcases hx.cases g with h | ⟨a,dx,y,z,u,ts,rfl,ha,rfl,_,_⟩
 ·rcases h with h | ⟨a,dx,v,ts,j,rfl,ha,_,hj,_,rfl⟩
  ·refine .inl ⟨t,.node [],h.mono (.of S),(cA (K:=K) (ts:=[]) hp (bJ.mpr rfl)).2,hd,?_⟩
   have e:T.beq t (.node [])=decide (t.kids=[]):=by
    by_cases z:t.kids=[]
    ·rw [decide_eq_true z]
     exact (T.beq_iff _ _).mpr (by cases t; exact congrArg T.node z)
    ·rw [decide_eq_false z]
     exact Bool.eq_false_iff.mpr fun y=>z (by rw [(T.beq_iff _ _).mp y]; rfl)
   rw [e]
   exact q
  ·refine .inr ⟨a,CL,dx,_,p,[],rfl,S _ _ ha,O.rL,rfl,upd_same,?_⟩
   have z:¬ (T.node (ts.drop j)).kids=[]:=fun z=>by
    have:(ts.drop j).length=0:=by rw [show ts.drop j=[] from z]; rfl
    rw [List.length_drop] at this
    lia
   rw [← decide_eq_false z]
   exact q
 ·refine .inr ⟨a,CF,dx,_,p,[],rfl,S _ _ ha,O.rF,rfl,upd_same,?_⟩
  have z:¬ (T.node (u::ts)).kids=[]:=fun z=>by cases z
  rw [← decide_eq_false z]
  exact q
theorem abx {tc:TT}{tb u:TS}{D:Ends}{σ:L2.St}{H:Hp} (P:L2.St→Hp→Prop) (k:∀ σ' H',P σ' H'→u D σ' H')
  (h:∀ A B:Hp→Prop,(∀ H1,(∀ N:L2.St→Hp→Prop,(∀ σ' H',P σ' H'→N σ' H')→tb { D with nx:=N } σ H1)→A H1)→(∀ H1,P σ H1→B H1)→tc σ H (fun b H1=>if b=true then A H1 else B H1)) :
  tSeq (tIfS tc tb tNext) u D σ H :=
 h (fun H1=>tb { D with nx:=u D } σ H1) (fun H1=>tNext { D with nx:=u D } σ H1) (fun H1 r=>r _ k) (fun H1 p=>k _ _ p)
theorem T7 {t:T}:∀ {ts:List T},t∈ts→t.deep+1≤T.bM ts
 | u::us,h=>by
  rw [T.aK]
  rcases List.mem_cons.mp h with rfl | h
  ·lia
  ·have:=T7 h; lia
theorem afw {t w:T}{p:Nat} (h:t.kids[p]?=some w):w.deep+1≤t.deep:=by
 cases t with
 | node ts =>
  rw [T.aO]
  exact T7 (List.mem_of_getElem? h)
theorem abO (ts:List T) (k:Nat):T.bM (ts.drop k)≤T.bM ts:=by
 have:T.bM ts=max (T.bM (ts.take k)) (T.bM (ts.drop k)):=by rw [← T.dX,List.take_append_drop]
 lia
theorem adJ (w:T):(bD w).deep≤w.deep:=by
 cases w with
 | node ts =>
  show (T.node (ts.drop 1)).deep≤_
  rw [T.aO,T.aO]
  exact abO ts 1
end
end Sw
namespace Sw
open PySem PySem.Spec PyProof.Rows L2
section
variable (K:PySem.W.Frag) (CF CL CD CT CG CW:Addr)
def acN:Sp:=fun vs H Q _=>∃ (k:Nat) (y:V) (S:Addr) (l:T) (s:List T) (rows:List V) (M:Mp) (H₀:Hp),vs=[.int (k:Int),y,.ref S]∧Gh K CF CL CD CT M H₀ H∧M S=some .mine∧H S=some (.lst rows)∧bh (RV K M H) s.reverse rows∧TR K H l y∧looks k≤s.length∧B 395 8000010 (.node s)∧(∀ t∈s,t.kids.length≤8000000) ∧
 ∀ M' H' rows',Go K CF CL CD CT (fun a=>a=S) M M' H₀ H H'→H' S=some (.lst rows')→bh (RV K M' H') (CP k l s).reverse rows'→Q .non H'
def qF (M:Mp) (H:Hp) (t:T) (x:V):Prop:=∃ g dx a W p tt,x=.ref g∧M g=some .mine∧H g=some (.ins CG dx (fG a p))∧M a=some (.text tt W)∧p≤tt.kids.length∧(∃ ws,H W=some (.lst ws)∧p≤ws.length)∧t=.node (tt.kids.drop p)∧B 389 8000000 tt
structure WkX (M:Mp) (H₀ H:Hp) (o dx G S N:Addr) (gs rows:List V) (tx s:List T) (num:List Nat) (b:Nat):Prop where
 gh:Gh K CF CL CD CT M H₀ H
 ob:H o=some (.ins CW dx (fW G S N b))
 mo:M o=some .mine
 mG:M G=some .mine
 mS:M S=some .mine
 mN:M N=some .mine
 hG:H G=some (.lst gs)
 hS:H S=some (.lst rows)
 hN:H N=some (.lst (num.map nv))
 gos:bh (qF CG M H) tx.reverse gs
 sts:bh (RV K M H) s.reverse rows
 n15:num.length=15
 dGS:G≠S
 dGN:G≠N
 dSN:S≠N
 nd:gs.Nodup
def Wk (M:Mp) (H₀ H:Hp) (o:Addr) (tx s:List T) (num:List Nat) (b:Nat):Prop:=∃ dx G S N gs rows,WkX K CF CL CD CT CG CW M H₀ H o dx G S N gs rows tx s num b
def QJ:Sp:=fun vs H Q _=>∃ o M H₀ tx s num b,vs=[.ref o]∧Wk K CF CL CD CT CG CW M H₀ H o tx s num b∧Q (.bl (decide (tx=[]))) H
def aaP:Sp:=fun vs H Q _=>∃ o M H₀ tx s num b,vs=[.ref o]∧Wk K CF CL CD CT CG CW M H₀ H o tx s num b∧∀ x H',Same H H'→RV K M H' (ats s 0) x→Q x H'
def QF:Sp:=fun vs H Q _=>∃ o M H₀ tx s num b,vs=[.ref o]∧Wk K CF CL CD CT CG CW M H₀ H o tx s num b∧∀ c H',Same H H'→SqT K H' c (num.map nv)→Q (.ref c) H'
def Vd:Sp:=fun vs H Q _=>∃ (o dx:Addr) (x:V) (tx s:List T) (b:Nat) (M:Mp) (H₀:Hp),vs=[.ref o,x,.int (b:Int)]∧Gh K CF CL CD CT M H₀ H∧M o=some .mine∧H o=some (.ins CW dx [])∧TR K H (aa2 tx s) x∧BX tx∧B 390 8000000 (.node s)∧∀ M' H',Wk K CF CL CD CT CG CW M' H₀ H' o tx s gW b→Q .non H'
def MvT (k:Nat) (w:T) (ws:List T) (rest sp:List T) (num:List Nat) (tx' s':List T) (mC:List Nat):Prop :=
 (k=9∧aJ w=8∧tx'=bD w::.node (w::ws)::rest∧s'=sp∧mC=num.set 14 (num.getD 14 0+(bD w).parts)) ∨
 (k=7∧aJ w=7∧tx'=ats (bD w).kids 0::.node ws::rest∧s'=sp∧mC=num) ∨
 (k=8∧aJ w=7∧tx'=bD (bD w)::.node ws::rest∧s'=sp∧mC=num) ∨
 ((k≤6∨k=10∨k=11)∧tx'=.node ws::rest∧s'=CP k (bD w) sp∧mC=num)
def Rdy (M:Mp) (H:Hp) (g:Addr) (w:T) (ws:List T):Prop:=∃ dg a W j tt wl,M g=some .mine∧H g=some (.ins CG dg (fG a j))∧M a=some (.text tt W)∧H W=some (.lst wl)∧j+1≤wl.length∧tt.kids.drop j=w::ws∧B 389 8000000 tt
def acO:Sp:=fun vs H Q _=>∃ (o dx G S N:Addr) (gs0:List V) (g:Addr) (rows:List V) (p:T) (rest sp:List T) (num:List Nat) (b k:Nat) (wv:V) (M:Mp) (H₀:Hp),vs=[.ref o,.int (k:Int),.ref g,wv]∧WkX K CF CL CD CT CG CW M H₀ H o dx G S N (gs0++[.ref g]) rows (p::rest) sp num b∧looks k≤sp.length∧B 395 8000010 (.node sp)∧(∀ t∈sp,t.kids.length≤8000000)∧rest.length≤8000000 ∧
 ((k=12∧∀ M' H',Wk K CF CL CD CT CG CW M' H₀ H' o rest sp num b→Q .non H') ∨ ∃ w ws bw tx' s' mC,p=.node (w::ws)∧wv=.ref bw∧M bw=some (.word w)∧Rdy CG M H g w ws∧MvT k w ws rest sp num tx' s' mC∧BX tx'∧(bD w).parts≤8000000∧∀ M' H',Wk K CF CL CD CT CG CW M' H₀ H' o tx' s' mC b→Q .non H')
def ZR:Sp:=fun vs H Q _=>∃ o M H₀ tx s num b,vs=[.ref o]∧Wk K CF CL CD CT CG CW M H₀ H o tx s num b∧tx≠[]∧BX tx∧B 390 8000000 (.node s)∧(bF tx s≤b→BX (onward tx s).1∧B 390 8000000 (.node (onward tx s).2.1)) ∧
 (b<bF tx s→∀ M' H',Wk K CF CL CD CT CG CW M' H₀ H' o tx s num b→Q (.bl false) H') ∧
 (bF tx s≤b→∀ M' H',Wk K CF CL CD CT CG CW M' H₀ H' o (onward tx s).1 (onward tx s).2.1 (eN num (mL tx s)) (b - bF tx s)→Q (.bl true) H')
end
section
variable {K:PySem.W.Frag}{CF CL CD CT CG CW:Addr}{M M':Mp}{H₀ H H':Hp}{X:Addr→Prop}
theorem qF.go {t:T}{x:V} (G:Go K CF CL CD CT X M M' H₀ H H') (hX:∀ g,x=.ref g→¬ X g) (g0:Gh K CF CL CD CT M H₀ H) (h:qF CG M H t x):qF CG M' H' t x:=by
 obtain⟨g,dx,a,W,p,tt,rfl,h1,h2,h3,h4,⟨ws,h5,h6⟩,h7,h8⟩:=h
 obtain⟨_,_,_,_,h9⟩:=g0.ok a _ h3
 obtain⟨ws',e1,e2⟩:=G.wds W _ ws h9 h5
 exact⟨g,dx,a,W,p,tt,rfl,G.ext _ _ h1,(G.mine g h1 (hX g rfl)).trans h2,G.ext _ _ h3,h4,⟨ws',e1,by lia⟩,h7,h8⟩
variable {o dx G S N:Addr}{gs rows:List V}{tx s:List T}{num:List Nat}{b:Nat}
theorem WkX.go (w:WkX K CF CL CD CT CG CW M H₀ H o dx G S N gs rows tx s num b) (g:Go K CF CL CD CT (fun _=>False) M M' H₀ H H'):WkX K CF CL CD CT CG CW M' H₀ H' o dx G S N gs rows tx s num b :=
 ⟨g.gh,(g.mine o w.mo id).trans w.ob,g.ext _ _ w.mo,g.ext _ _ w.mG,g.ext _ _ w.mS,g.ext _ _ w.mN,(g.mine G w.mG id).trans w.hG,(g.mine S w.mS id).trans w.hS,(g.mine N w.mN id).trans w.hN,w.gos.imp fun _ _ h=>h.go g (fun _ _=>id) w.gh,w.sts.imp fun _ _ h=>g.rv h,w.n15,w.dGS,w.dGN,w.dSN,w.nd⟩
theorem WkX.grow (w:WkX K CF CL CD CT CG CW M H₀ H o dx G S N gs rows tx s num b) (S1:Same H H'):WkX K CF CL CD CT CG CW M H₀ H' o dx G S N gs rows tx s num b:=w.go (.grow w.gh S1)
variable {A B C:Addr}{c:Nat}
theorem lwG:(fW A B C c).lookup ("goings":Str)=some (.ref A):=fX _ _ _
theorem lwS:(fW A B C c).lookup ("stack":Str)=some (.ref B):=(cJ (by decide +kernel) _ _).trans (fX _ _ _)
theorem lwN:(fW A B C c).lookup ("numbers":Str)=some (.ref C):=(cJ (by decide +kernel) _ _).trans ((cJ (by decide +kernel) _ _).trans (fX _ _ _))
theorem lwL:(fW A B C c).lookup ("left":Str)=some (.int (c:Int)):=(cJ (by decide +kernel) _ _).trans ((cJ (by decide +kernel) _ _).trans ((cJ (by decide +kernel) _ _).trans (fX _ _ _)))
theorem DK {m:Str} (h1:(m == "goings")=false) (h2:(m == "stack")=false) (h3:(m == "numbers")=false) (h4:(m == "left")=false):(fW A B C c).lookup m=none:=(cJ h1 _ _).trans ((cJ h2 _ _).trans ((cJ h3 _ _).trans ((cJ h4 _ _).trans rfl)))
theorem pwL (d:Nat):putF "left" (.int (d:Int)) (fW A B C c)=fW A B C d:=by unfold fW; rw [b_ (by decide +kernel),b_ (by decide +kernel),b_ (by decide +kernel),xO]
theorem lgT {a:Addr}{p:Nat}:(fG a p).lookup ("text":Str)=some (.ref a):=fX _ _ _
theorem lgP {a:Addr}{p:Nat}:(fG a p).lookup ("place":Str)=some (.int (p:Int)):=(cJ (by decide +kernel) _ _).trans (fX _ _ _)
theorem pgP {a:Addr}{p q:Nat}:putF "place" (.int (q:Int)) (fG a p)=fG a q:=by unfold fG; rw [b_ (by decide +kernel),xO]
theorem anK {v:V}{W:Addr}{m:Str} (h1:(m == "tree")=false) (h2:(m == "words")=false):(fT v W).lookup m=none:=(cJ h1 _ _).trans ((cJ h2 _ _).trans rfl)
theorem IV {α β:Type}{R:α→β→Prop}{ts:List α}{ys:List β} (h:bh R ts.reverse ys) (hl:2≤ts.length):∃ a b ts0 ys0 y z,ts=a::b::ts0∧ys=ys0++[z]++[y]∧bh R ts0.reverse ys0∧R a y∧R b z:=by
 have hyl:=h.length
 rw [List.length_reverse] at hyl
 obtain⟨a,ts1,ys1,y,rfl,rfl,h1,h2⟩:=nZ h (by rintro rfl; simp at hyl; lia)
 have W6:=h1.length
 rw [List.length_reverse] at W6
 simp only [List.length_cons] at hl
 obtain⟨b,ts0,ys0,z,rfl,rfl,h3,h4⟩:=nZ h1 (by rintro rfl; simp at W6; lia)
 exact⟨a,b,ts0,ys0,y,z,rfl,rfl,h3,h2,h4⟩
theorem ad1 {α β:Type}{R:α→β→Prop}{ts:List α}{ys:List β} (h:bh R ts.reverse ys) (hl:3≤ts.length):∃ a b c ts0 ys0 y z w,ts=a::b::c::ts0∧ys=ys0++[w]++[z]++[y]∧bh R ts0.reverse ys0∧R a y∧R b z∧R c w:=by
 obtain⟨a,b,ts1,ys1,y,z,rfl,rfl,h1,h2,h3⟩:=IV h (by lia)
 have W6:=h1.length
 rw [List.length_reverse] at W6
 simp only [List.length_cons] at hl
 obtain⟨c,ts0,ys0,w,rfl,rfl,h4,h5⟩:=nZ h1 (by rintro rfl; simp at W6; lia)
 exact⟨a,b,c,ts0,ys0,y,z,w,rfl,rfl,h4,h2,h3,h5⟩
theorem si2 {α:Type} (xs:List α) (z y:α):seqIndex? (-2) (xs++[z]++[y]).length=some xs.length:=by
 have hl:(xs++[z]++[y]).length=xs.length+2:=by simp
 rw [hl]
 have:=(ixN_seq (n:=xs.length+2) (i:=-2) (j:=xs.length) (by unfold ixN; rw [if_neg (by decide),if_pos (by lia)]; congr 1; lia)).1
 exact this
theorem si3 {α:Type} (xs:List α) (w z y:α):seqIndex? (-3) (xs++[w]++[z]++[y]).length=some xs.length:=by
 have hl:(xs++[w]++[z]++[y]).length=xs.length+3:=by simp
 rw [hl]
 have:=(ixN_seq (n:=xs.length+3) (i:=-3) (j:=xs.length) (by unfold ixN; rw [if_neg (by decide),if_pos (by lia)]; congr 1; lia)).1
 exact this
theorem er2 {α:Type} (xs:List α) (z y:α):(xs++[z]++[y]).eraseIdx xs.length=xs++[y]:=by
 rw [List.append_assoc,List.eraseIdx_append_of_length_le (Nat.le_refl _),Nat.sub_self]
 rfl
theorem er3 {α:Type} (xs:List α) (w z y:α):(xs++[w]++[z]++[y]).eraseIdx xs.length=xs++[z]++[y]:=by
 rw [List.append_assoc,List.append_assoc,List.eraseIdx_append_of_length_le (Nat.le_refl _),Nat.sub_self]
 simp
theorem gt2 {α:Type} (xs:List α) (z y:α):(xs++[z]++[y])[xs.length]?=some z:=by simp
theorem gt3 {α:Type} (xs:List α) (w z y:α):(xs++[w]++[z]++[y])[xs.length]?=some w:=by simp
theorem Go.list {p:Addr}{xs ys:List V} (g:Gh K CF CL CD CT M H₀ H) (hm:M p=some .mine) (h:H p=some (.lst xs)):Go K CF CL CD CT (fun a=>a=p) M M H₀ H (upd H p (.lst ys)):=Go.qe (.refl g) hm rfl (Kt.lst h)
end
end Sw
namespace Sw
open PySem PySem.Spec PyProof.Rows L2
section
variable {K:PySem.W.Frag}{H:Hp}{a:Addr}{xs:List V}{σ:Sg}{js:List Nat}{te:TE}{Q:VK}
theorem agP (J:Addr→Nat→List V→Hp→Prop) (hz:xs.length≤sizeLine) (h0:∀ D,H D=none→J D 0 [] (upd H D (.lst [])))
  (hD:∀ D i ys H',J D i ys H'→H' D=some (.lst ys)∧ys.length=i∧SqT K H' a xs)
  (hte:∀ D i x ys H' (R:VK),xs.reverse[i]?=some x→J D i ys H'→(∀ y H3,H3 D=some (.lst ys)→J D (i+1) (ys++[y]) (upd H3 D (.lst (ys++[y])))→R y H3)→te (some x::frv σ js) H' R)
  (q:∀ D ys H',J D xs.length ys H'→Q (.ref D) H'):Fg (SwR.ace K a xs.length) js te σ Q H:=by
 intro D hDn
 refine⟨fun i m ys H'=>m=xs.length - i∧i≤xs.length∧J D i ys H',⟨xs.length,by lia,Nat.zero_le _,h0 D hDn⟩,?_⟩
 rintro i m ys H' ⟨rfl,hi,hj⟩
 obtain⟨h1,h2,h3⟩:=hD D i ys H' hj
 refine⟨h1,?_⟩
 by_cases hlt:i<xs.length
 ·refine .inr ⟨⟨xs,xs.reverse[i]'(by simpa using hlt),h3,rfl,List.getElem?_eq_getElem (by simpa using hlt)⟩,fun x H2 y=>?_⟩
  obtain⟨e,y⟩:=y
  subst e
  exact hte D i x ys _ _ (y xs h3) hj fun y H3 g1 g2=>⟨g1,by lia,xs.length - (i+1),by lia,rfl,hlt,g2⟩
 ·have e:i=xs.length:=by lia
  subst e
  exact .inl ⟨⟨xs,h3,rfl,rfl⟩,q D ys H' hj⟩
theorem aeu {α:Type}{xs:List α}{i:Nat}{x:α} (h:xs[i]?=some x):xs.take (i+1)=xs.take i++[x]:=by
 rw [List.take_add_one,h]
 rfl
end
end Sw
namespace Sw
open PySem PySem.Spec PyProof.Rows L2
section
variable {K:PySem.W.Frag}{CF CL CD CT CG CW:Addr}{M M':Mp}{H₀ H H':Hp}{X:Addr→Prop}{o dx G S N g:Addr}{gs rows gs' rows':List V}{tx s tx' s':List T}{num mC:List Nat}{b:Nat}{w:T}{ws:List T}
theorem Rdy.go (G:Go K CF CL CD CT X M M' H₀ H H') (hX:¬ X g) (g0:Gh K CF CL CD CT M H₀ H) (h:Rdy CG M H g w ws):Rdy CG M' H' g w ws:=by
 obtain⟨dg,a,W,j,tt,wl,h1,h2,h3,h4,h5,h6,h7⟩:=h
 obtain⟨_,_,_,_,h9⟩:=g0.ok a _ h3
 obtain⟨ws',e1,e2⟩:=G.wds W _ wl h9 h4
 exact⟨dg,a,W,j,tt,ws',G.ext _ _ h1,(G.mine g h1 hX).trans h2,G.ext _ _ h3,e1,by lia,h6,h7⟩
theorem Go.anI {p:Addr}{u:HO}{H1:Hp} (a:Go K CF CL CD CT X M M' H₀ H H1) (hm:M' p=some .mine) (hn:M p≠some .mine) (k:Kt H1 (upd H1 p u)):Go K CF CL CD CT X M M' H₀ H (upd H1 p u) :=
 ⟨a.ext,fun q h x=>by rw [upd_ne (fun z:q=p=>hn (by rw [← z]; exact h))]; exact a.mine q h x,a.kt.trans k,a.gh.mut hm k,fun W t ws h1 h2=>by
  obtain⟨ws',e,l⟩:=a.wds W t ws h1 h2
  have nW:W≠p:=fun z=>by have:=a.ext _ _ h1; rw [z,hm] at this; cases this
  exact⟨ws',by rw [upd_ne nW]; exact e,l⟩⟩
theorem qF.nl {t:T}{x:V}{p:Addr}{l:List V} (h:qF CG M H t x) (hp:H p=some (.lst l)):∀ g,x=.ref g→¬ g=p:=by
 obtain⟨g,dx,a,W,j,tt,rfl,_,h2,_⟩:=h
 rintro g' e rfl
 cases e
 rw [hp] at h2
 cases h2
theorem WkX.setG (w:WkX K CF CL CD CT CG CW M H₀ H o dx G S N gs rows tx s num b) (h:bh (qF CG M H) tx'.reverse gs') (nd:gs'.Nodup):WkX K CF CL CD CT CG CW M H₀ (upd H G (.lst gs')) o dx G S N gs' rows tx' s num b:=by
 have g1:Go K CF CL CD CT (fun a=>a=G) M M H₀ H (upd H G (.lst gs')):=.list w.gh w.mG w.hG
 have no:o≠G:=fun z=>by have:=w.ob; rw [z,w.hG] at this; cases this
 exact⟨g1.gh,by rw [upd_ne no]; exact w.ob,w.mo,w.mG,w.mS,w.mN,upd_same,by rw [upd_ne (Ne.symm w.dGS)]; exact w.hS,by rw [upd_ne (Ne.symm w.dGN)]; exact w.hN,h.imp fun _ _ z=>z.go g1 (z.nl w.hG) w.gh,w.sts.imp fun _ _ z=>g1.rv z,w.n15,w.dGS,w.dGN,w.dSN,nd⟩
theorem WkX.aeC (w:WkX K CF CL CD CT CG CW M H₀ H o dx G S N gs rows tx s num b) (hl:mC.length=15):WkX K CF CL CD CT CG CW M H₀ (upd H N (.lst (mC.map nv))) o dx G S N gs rows tx s mC b:=by
 have g1:Go K CF CL CD CT (fun a=>a=N) M M H₀ H (upd H N (.lst (mC.map nv))):=.list w.gh w.mN w.hN
 have no:o≠N:=fun z=>by have:=w.ob; rw [z,w.hN] at this; cases this
 exact⟨g1.gh,by rw [upd_ne no]; exact w.ob,w.mo,w.mG,w.mS,w.mN,by rw [upd_ne w.dGN]; exact w.hG,by rw [upd_ne w.dSN]; exact w.hS,upd_same,w.gos.imp fun _ _ z=>z.go g1 (z.nl w.hN) w.gh,w.sts.imp fun _ _ z=>g1.rv z,hl,w.dGS,w.dGN,w.dSN,w.nd⟩
theorem qF.nw {t:T}{x:V}{A B C:Addr}{c:Nat}{D e:Addr} (h:qF CG M H t x) (hp:H e=some (.ins D dx (fW A B C c))):∀ g,x=.ref g→¬ g=e:=by
 obtain⟨g,dg,a,W,j,tt,rfl,_,h2,_⟩:=h
 rintro g' e rfl
 cases e
 rw [hp] at h2
 have h3:=HO.ins.inj (Option.some.inj h2)
 have h4:fW A B C c=fG a j:=h3.2.2
 unfold fW fG at h4
 have:=congrArg List.length h4
 simp at this
theorem WkX.aln (w:WkX K CF CL CD CT CG CW M H₀ H o dx G S N gs rows tx s num b) (c:Nat):WkX K CF CL CD CT CG CW M H₀ (upd H o (.ins CW dx (fW G S N c))) o dx G S N gs rows tx s num c:=by
 have k:Kt H (upd H o (.ins CW dx (fW G S N c))):=Kt.ins w.ob
 have g1:Go K CF CL CD CT (fun a=>a=o) M M H₀ H (upd H o (.ins CW dx (fW G S N c))):=Go.qe (.refl w.gh) w.mo rfl k
 have nG:G≠o:=fun z=>by have:=w.ob; rw [← z,w.hG] at this; cases this
 have nS:S≠o:=fun z=>by have:=w.ob; rw [← z,w.hS] at this; cases this
 have nN:N≠o:=fun z=>by have:=w.ob; rw [← z,w.hN] at this; cases this
 exact⟨g1.gh,upd_same,w.mo,w.mG,w.mS,w.mN,by rw [upd_ne nG]; exact w.hG,by rw [upd_ne nS]; exact w.hS,by rw [upd_ne nN]; exact w.hN,w.gos.imp fun _ _ z=>z.go g1 (z.nw w.ob) w.gh,w.sts.imp fun _ _ z=>g1.rv z,w.n15,w.dGS,w.dGN,w.dSN,w.nd⟩
theorem WkX.ahD (w:WkX K CF CL CD CT CG CW M H₀ H o dx G S N gs rows tx s num b) (g1:Go K CF CL CD CT (fun a=>a=S) M M' H₀ H H') (h:H' S=some (.lst rows')) (hr:bh (RV K M' H') s'.reverse rows'):WkX K CF CL CD CT CG CW M' H₀ H' o dx G S N gs rows' tx s' num b:=by
 have no:¬ o=S:=fun z=>by have:=w.ob; rw [z,w.hS] at this; cases this
 exact⟨g1.gh,(g1.mine o w.mo no).trans w.ob,g1.ext _ _ w.mo,g1.ext _ _ w.mG,g1.ext _ _ w.mS,g1.ext _ _ w.mN,(g1.mine G w.mG w.dGS).trans w.hG,h,(g1.mine N w.mN (Ne.symm w.dSN)).trans w.hN,w.gos.imp fun _ _ z=>z.go g1 (z.nl w.hS) w.gh,hr,w.n15,w.dGS,w.dGN,w.dSN,w.nd⟩
theorem WkX.onto {gs0:List V}{p:T}{rest:List T} (k:WkX K CF CL CD CT CG CW M H₀ H o dx G S N (gs0++[.ref g]) rows (p::rest) s num b) {dg a W:Addr}{j:Nat}{tt:T}{wl:List V} (h1:M g=some .mine) (h2:H g=some (.ins CG dg (fG a j))) (h3:M a=some (.text tt W)) (h4:H W=some (.lst wl)) (h5:j+1≤wl.length) (h6:tt.kids.drop j=w::ws) (h7:B 389 8000000 tt) :
  WkX K CF CL CD CT CG CW M H₀ (upd H g (.ins CG dg (fG a (j+1)))) o dx G S N (gs0++[.ref g]) rows (.node ws::rest) s num b:=by
 have kt:Kt H (upd H g (.ins CG dg (fG a (j+1)))):=Kt.ins h2
 have g1:Go K CF CL CD CT (fun a=>a=g) M M H₀ H (upd H g (.ins CG dg (fG a (j+1)))):=Go.qe (.refl k.gh) h1 rfl kt
 have nl:∀ {q:Addr}{l:List V},H q=some (.lst l)→q≠g:=fun e z=>by rw [z,h2] at e; cases e
 have no:o≠g:=fun z=>by
  have:=k.ob
  rw [z,h2] at this
  have h3:=HO.ins.inj (Option.some.inj this)
  have h4:fG a j=fW G S N b:=h3.2.2
  unfold fW fG at h4
  have:=congrArg List.length h4
  simp at this
 have hgo:=k.gos
 rw [List.reverse_cons] at hgo
 obtain⟨gs1,y,e1,hg0,_⟩:=bh.snoc hgo
 obtain⟨rfl,rfl⟩:=List.append_inj' e1 rfl |>.imp id (fun z=>(List.cons.inj z).1)
 have nd:=k.nd
 have ng:(.ref g:V) ∉ gs0:=fun z=>(List.nodup_append.mp nd).2.2 _ z _ (by simp) rfl
 have hjk:j+1≤tt.kids.length:=by
  have:=congrArg List.length h6
  rw [List.length_drop,List.length_cons] at this
  lia
 refine⟨g1.gh,by rw [upd_ne no]; exact k.ob,k.mo,k.mG,k.mS,k.mN,by rw [upd_ne (nl k.hG)]; exact k.hG,by rw [upd_ne (nl k.hS)]; exact k.hS,by rw [upd_ne (nl k.hN)]; exact k.hN,?_,k.sts.imp fun _ _ z=>g1.rv z,k.n15,k.dGS,k.dGN,k.dSN,nd⟩
 rw [List.reverse_cons]
 refine bh.append ?_ (bh.one ⟨g,dg,a,W,j+1,tt,rfl,h1,upd_same,h3,hjk,⟨wl,by rw [upd_ne (nl h4)]; exact h4,h5⟩,?_,h7⟩)
 ·refine bh.of_get (hg0.length.symm ▸ rfl) fun i y hy=>?_
  obtain⟨t,et,hgt⟩:=hg0.get hy
  refine⟨t,et,hgt.go g1 (fun g' e z=>?_) k.gh⟩
  subst z
  exact ng (by rw [← e]; exact List.mem_of_getElem? hy)
 ·have:tt.kids.drop (j+1)=ws:=by rw [← List.drop_drop,h6]; rfl
  rw [this]
theorem WkX.newG (k:WkX K CF CL CD CT CG CW M H₀ H o dx G S N gs rows tx s num b) {a g dg:Addr}{t:T} (ht:wK M a t) (hb:B 389 8000000 t) (hg:H g=none) (hd:H dg=none) (ne:dg≠g) :
  WkX K CF CL CD CT CG CW (setM M g .mine) H₀ (mkO H g dg CG (fG a 0)) o dx G S N gs rows tx s num b∧qF CG (setM M g .mine) (mkO H g dg CG (fG a 0)) t (.ref g)∧(.ref g:V) ∉ gs:=by
 have g1:Go K CF CL CD CT (fun _=>False) M (setM M g .mine) H₀ H (mkO H g dg CG (fG a 0)):=.made k.gh hg hd ne
 obtain⟨W,hW⟩:=ht
 obtain⟨_,_,_,_,h9⟩:=k.gh.ok a _ hW
 obtain⟨xs,h10,_,_⟩:=k.gh.ok W _ h9
 refine⟨k.go g1,⟨g,dg,a,W,0,t,rfl,fu,jf,g1.ext _ _ hW,Nat.zero_le _,⟨xs,jC (C:=CG) (fs:=fG a 0) hg hd ne _ _ h10,Nat.zero_le _⟩,by cases t; rfl,hb⟩,fun z=>?_⟩
 obtain⟨i,hi⟩:=List.mem_iff_getElem?.mp z
 obtain⟨t',_,g',_,_,_,_,_,e,_,h2,_⟩:=k.gos.get hi
 cases e
 rw [hg] at h2
 cases h2
theorem WkX.push (k:WkX K CF CL CD CT CG CW M H₀ H o dx G S N gs rows tx s num b) {t:T}{x:V} (h:qF CG M H t x) (hn:x ∉ gs):WkX K CF CL CD CT CG CW M H₀ (upd H G (.lst (gs++[x]))) o dx G S N (gs++[x]) rows (t::tx) s num b:=by
 refine k.setG ?_ ?_
 ·rw [List.reverse_cons]
  exact bh.append k.gos (bh.one h)
 ·refine List.nodup_append.mpr ⟨k.nd,by simp,fun a ha c hc=>?_⟩
  rw [List.mem_singleton.mp hc]
  exact fun z=>hn (z ▸ ha)
theorem qF.new {a g dg:Addr}{t:T} (g0:Gh K CF CL CD CT M H₀ H) (ht:wK M a t) (hb:B 389 8000000 t) (hg:H g=none) (hd:H dg=none) (ne:dg≠g):qF CG (setM M g .mine) (mkO H g dg CG (fG a 0)) t (.ref g):=by
 have g1:Go K CF CL CD CT (fun _=>False) M (setM M g .mine) H₀ H (mkO H g dg CG (fG a 0)):=.made g0 hg hd ne
 obtain⟨W,hW⟩:=ht
 obtain⟨_,_,_,_,h9⟩:=g0.ok a _ hW
 obtain⟨xs,h10,_,_⟩:=g0.ok W _ h9
 exact⟨g,dg,a,W,0,t,rfl,fu,jf,g1.ext _ _ hW,Nat.zero_le _,⟨xs,jC (C:=CG) (fs:=fG a 0) hg hd ne _ _ h10,Nat.zero_le _⟩,by cases t; rfl,hb⟩
def w1 (G:Addr):List (Str×V):=[("goings",.ref G)]
def w2 (G S:Addr):List (Str×V):=[("goings",.ref G),("stack",.ref S)]
def w3 (G S N:Addr):List (Str×V):=[("goings",.ref G),("stack",.ref S),("numbers",.ref N)]
theorem pw1 (G:Addr):putF "goings" (.ref G) []=w1 G:=rfl
theorem pw2 (G S:Addr):putF "stack" (.ref S) (w1 G)=w2 G S:=by unfold w1 w2; rw [b_ (by decide +kernel)]; rfl
theorem pw3 (G S N:Addr):putF "numbers" (.ref N) (w2 G S)=w3 G S N:=by unfold w2 w3; rw [b_ (by decide +kernel),b_ (by decide +kernel)]; rfl
theorem pw4 (G S N:Addr) (b:Nat):putF "left" (.int (b:Int)) (w3 G S N)=fW G S N b:=by unfold w3 fW; rw [b_ (by decide +kernel),b_ (by decide +kernel),b_ (by decide +kernel)]; rfl
theorem agd {ts:List T}{ys:List V}{i:Nat}{x:V} (h:TRs K H ts ys) (hx:ys.reverse[i]?=some x):∃ t,ts.reverse[i]?=some t∧TR K H t x:=by
 obtain⟨hi,hx'⟩:=SwR.acX hx
 obtain⟨t,et,ht⟩:=h.get hx'
 have hl:=h.length
 refine⟨t,?_,ht⟩
 rw [List.getElem?_reverse (by lia),← hl]
 exact et
end
theorem bump {num:List Nat}{k:Nat} (h:num.length=15) (hk:k<15):eN num (ev0 k)=num.set k (num.getD k 0+1):=by
 unfold eN ev0
 refine List.ext_getElem? fun i=>?_
 rw [List.getElem?_zipWith,List.getElem?_set,List.getElem?_set,List.getElem?_replicate,List.length_replicate]
 by_cases e:k=i
 ·subst e
  rw [if_pos rfl,if_pos hk,if_pos rfl,if_pos (by lia),List.getElem?_eq_getElem (by lia),List.getD_eq_getElem?_getD,List.getElem?_eq_getElem (by lia)]
  rfl
 ·rw [if_neg e,if_neg e]
  by_cases hi:i<15
  ·rw [if_pos hi,List.getElem?_eq_getElem (by lia)]
   rfl
  ·rw [if_neg hi,List.getElem?_eq_none (by lia)]
theorem af0 {num:List Nat}{k j c:Nat} (h:num.length=15) (hk:k<15) (hj:j<15) (hkj:k≠j):eN num ((ev0 k).set j c)=(num.set k (num.getD k 0+1)).set j ((num.set k (num.getD k 0+1)).getD j 0+c):=by
 unfold eN ev0
 refine List.ext_getElem? fun i=>?_
 have hg:(num.set k (num.getD k 0+1)).getD j 0=num.getD j 0:=by
  rw [List.getD_eq_getElem?_getD,List.getElem?_set,if_neg hkj,← List.getD_eq_getElem?_getD]
 rw [hg,List.getElem?_zipWith,List.getElem?_set,List.getElem?_set,List.getElem?_set,List.getElem?_set,List.getElem?_replicate,List.length_set,List.length_set,List.length_replicate]
 by_cases e:j=i
 ·subst e
  rw [if_pos rfl,if_pos hj,if_pos rfl,if_pos (by lia),List.getElem?_eq_getElem (by lia),List.getD_eq_getElem?_getD,List.getElem?_eq_getElem (by lia)]
  rfl
 ·rw [if_neg e,if_neg e]
  by_cases e2:k=i
  ·subst e2
   rw [if_pos rfl,if_pos hk,if_pos rfl,if_pos (by lia),List.getElem?_eq_getElem (by lia),List.getD_eq_getElem?_getD,List.getElem?_eq_getElem (by lia)]
   rfl
  ·rw [if_neg e2,if_neg e2]
   by_cases hi:i<15
   ·rw [if_pos hi,List.getElem?_eq_getElem (by lia)]
    rfl
   ·rw [if_neg hi,List.getElem?_eq_none (by lia)]
end Sw
namespace Sw
open PySem PySem.Spec PyProof.Rows L2
theorem ab8 {num:List Nat}{k:Nat} (h:num.length=15) (hk:k<15):atI (num.map nv) (k:Int)=some (nv (num.getD k 0)):=by
 refine atI_nat ?_
 rw [List.getElem?_map,List.getElem?_eq_getElem (by lia),List.getD_eq_getElem?_getD,List.getElem?_eq_getElem (by lia)]
 rfl
theorem aaO {p:T}{rest s:List T}{w:T}{ws:List T} (h:p.kids=w::ws):stepT (p::rest) s=tK (aJ w) (ats s 0):=by
 have hk:(ats (p::rest) 0).kids=w::ws:=h
 unfold stepT tK
 have h9:=Bw w
 by_cases e7:aJ w=7
 ·rw [if_pos e7]
  by_cases d:(ats s 0).kids=[]
  ·rw [if_pos d,aa3 hk e7 d]
  ·rw [if_neg d,V8 hk e7 d]
 rw [if_neg e7]
 by_cases e8:aJ w=8
 ·rw [if_pos e8]
  by_cases d:(ats s 0).kids=[]
  ·rw [if_pos d,Rj hk e8 d]
  ·rw [if_neg d,Rm hk e8 d]
 rw [if_neg e8]
 by_cases e9:aJ w=9
 ·rw [if_pos e9,Rk hk e9]
 ·rw [if_neg e9,Ri hk (by lia)]
def Du (k c:Nat) (num:List Nat):List Nat:=if k=2 then (num.set 2 (num.getD 2 0+1)).set 13 ((num.set 2 (num.getD 2 0+1)).getD 13 0+c) else num.set k (num.getD k 0+1)
theorem xQ {tx s:List T}{num:List Nat} (h:num.length=15) (h9:stepT tx s≠9):eN num (mL tx s)=Du (stepT tx s) (bF tx s) num:=by
 have h12:=xJ (tx:=tx) (s:=s)
 unfold mL Du bF
 by_cases h2:stepT tx s=2
 ·rw [if_pos h2,if_pos h2,if_pos h2,af0 h (by lia) (by lia) (by lia)]
 ·rw [if_neg h2,if_neg h9,if_neg h2,bump h (by lia)]
theorem ako {p:T}{rest s:List T}{w:T}{ws:List T}{num:List Nat} (h:p=.node (w::ws)) (hn:num.length=15) :
  MvT (stepT (p::rest) s) w ws rest (pad s (looks (stepT (p::rest) s))) (Du (stepT (p::rest) s) (bF (p::rest) s) num) (onward (p::rest) s).1 (onward (p::rest) s).2.1 (eN num (mL (p::rest) s)):=by
 subst h
 have hk:(ats (T.node (w::ws)::rest) 0).kids=w::ws:=rfl
 have h9:=Bw w
 by_cases e7:aJ w=7
 ·by_cases d:(ats s 0).kids=[]
  ·have o:=aa3 hk e7 d
   have hs:stepT (T.node (w::ws)::rest) s=8:=by unfold stepT; rw [o]
   refine .inr (.inr (.inl ⟨hs,e7,?_,?_,?_⟩))
   ·rw [o]
    show T.node (w.kids.drop 2)::_=T.node ((w.kids.drop 1).drop 1)::_
    rw [List.drop_drop]
    rfl
   ·rw [o,hs]; rfl
   ·exact xQ hn (by lia)
  ·have o:=V8 hk e7 d
   have hs:stepT (T.node (w::ws)::rest) s=7:=by unfold stepT; rw [o]
   refine .inr (.inl ⟨hs,e7,?_,?_,?_⟩)
   ·rw [o]; rfl
   ·rw [o,hs]; rfl
   ·exact xQ hn (by lia)
 by_cases e8:aJ w=8
 ·by_cases d:(ats s 0).kids=[]
  ·have o:=Rj hk e8 d
   have hs:stepT (T.node (w::ws)::rest) s=10:=by unfold stepT; rw [o]
   refine .inr (.inr (.inr ⟨.inr (.inl hs),?_,?_,?_⟩))
   ·rw [o]; rfl
   ·rw [hs,Qq (by lia),o]; rfl
   ·exact xQ hn (by lia)
  ·have o:=Rm hk e8 d
   have hs:stepT (T.node (w::ws)::rest) s=9:=by unfold stepT; rw [o]
   refine .inl ⟨hs,e8,?_,?_,?_⟩
   ·rw [o]
   ·rw [o,hs]; rfl
   ·unfold mL
    rw [hs,if_neg (by decide),if_pos rfl,af0 hn (by lia) (by lia) (by lia)]
    rfl
 by_cases e9:aJ w=9
 ·have o:=Rk (s:=s) hk e9
  have hs:stepT (T.node (w::ws)::rest) s=11:=by unfold stepT; rw [o]
  refine .inr (.inr (.inr ⟨.inr (.inr hs),?_,?_,?_⟩))
  ·rw [o]; rfl
  ·rw [hs,Qq (by lia),o]; rfl
  ·exact xQ hn (by lia)
 ·have o:=Ri (s:=s) hk (show aJ w≤6 by lia)
  have hs:stepT (T.node (w::ws)::rest) s=aJ w:=by unfold stepT; rw [o]
  refine .inr (.inr (.inr ⟨.inl (by lia),?_,?_,?_⟩))
  ·rw [o]; rfl
  ·rw [hs,o]
  ·exact xQ hn (by lia)
theorem agy {s:List T}{n m:Nat} (h:∀ t∈s,t.kids.length≤m):∀ t∈pad s n,t.kids.length≤m:=fun t ht=>by
 rcases List.mem_append.mp ht with z | z
 ·exact h t z
 ·rw [List.eq_of_mem_replicate z]
  exact Nat.zero_le _
theorem agS {s:List T}{m:Nat} (h:T.au s≤m):∀ t∈s,t.kids.length≤m:=fun t ht=>by
 have h1:=T.lq ht
 have h2:=T.dN t
 have h3:=T.cQ t.kids
 lia
theorem ae8 {k:Nat} (h:k≤12):atI ([.int 0,.int 1,.int 1,.int 2,.int 2,.int 1,.int 3,.int 1,.int 1,.int 1,.int 1,.int 0,.int 0]:List V) (k:Int)=some (.int (looks k:Nat)):=by
 have:∀ k,k≤12→([V.int 0,.int 1,.int 1,.int 2,.int 2,.int 1,.int 3,.int 1,.int 1,.int 1,.int 1,.int 0,.int 0]:List V)[k]?=some (.int (looks k:Nat)):=by decide
 exact atI_nat (this k h)
theorem ah8 {s:List T}{i n:Nat} (h1:s.length+i≤max n s.length) (h2:n≤s.length+i):s++List.replicate i leaf=pad s n:=by
 unfold pad
 have:i=n - s.length:=by lia
 rw [this]
theorem QM (num:List Nat) (k c:Nat):(num.map nv).set k (.int ((num.getD k 0:Int)+(c:Int)))=(num.set k (num.getD k 0+c)).map nv:=by
 rw [← air]
 congr 1
theorem drop_cons {α:Type}{xs:List α}{j:Nat}{x:α} (h:xs[j]?=some x):xs.drop j=x::xs.drop (j+1):=by
 have hj:=(List.getElem?_eq_some_iff.mp h).1
 rw [List.drop_eq_getElem_cons hj]
 rw [List.getElem?_eq_getElem hj] at h
 rw [Option.some.inj h]
end Sw
namespace Sw
open PySem PySem.Spec PyProof.Rows L2
def KY (K:PySem.W.Frag) (CF CL CD CT CG CW:Addr):Sp:=fun vs H Q _=>∃ (x:V) (tx s:List T) (b:Nat),vs=[x,.int (b:Int)]∧TR K H (aa2 tx s) x∧Sane b tx s ∧
 ∀ o M' H' b',Wk K CF CL CD CT CG CW M' H H' o (goT b tx s).1 (goT b tx s).2.1 (goT b tx s).2.2 b'→Q (.ref o) H'
end Sw
namespace fY
open PySem PySem.Spec PyProof.Rows L2 Sw
def top (i:Nat):Stmt:=PySem.Challenge.pw_selfword_k72_whole_a_knot_does_what_it_m.main.body.getD i (.Pass ⟨0,0,0,0⟩)
abbrev oU:Stmt:=top 1
abbrev vP:Stmt:=top 2
abbrev uF:Stmt:=top 3
abbrev pP:Stmt:=top 16
abbrev pU:Stmt:=top 17
abbrev vA:Stmt:=top 18
abbrev uE:Stmt:=top 19
abbrev qZ:Stmt:=top 20
abbrev yq:Stmt:=top 21
abbrev fC:Stmt:=top 22
abbrev jJ:Stmt:=top 32
abbrev pR:Stmt:=top 33
abbrev lK:Stmt:=top 34
abbrev pO:Stmt:=top 35
abbrev pX:Stmt:=top 36
abbrev pW:Stmt:=top 37
abbrev jH:Stmt:=top 38
abbrev gY:Stmt:=top 39
abbrev sJ:Stmt:=top 51
abbrev kJ:Stmt:=top 52
abbrev vQ:Stmt:=top 53
abbrev sO:Stmt:=top 54
abbrev pN:Stmt:=top 58
abbrev ni:Stmt:=top 60
abbrev lH:Stmt:=top 61
abbrev nj:Stmt:=top 62
abbrev yt:Stmt:=top 63
abbrev lJ:Stmt:=top 64
abbrev nu:Stmt:=top 65
abbrev nq:Stmt:=top 69
abbrev pQ:Stmt:=top 70
abbrev uG:Stmt:=top 71
abbrev jt:Stmt:=top 72
abbrev iG:Stmt:=top 73
abbrev pY:Stmt:=top 74
abbrev zJ:Stmt:=top 76
abbrev m_:Stmt:=top 77
abbrev pL:Stmt:=top 78
abbrev yp:Stmt:=top 83
abbrev lM:Stmt:=top 85
abbrev gR:Stmt:=top 86
abbrev iQ:Stmt:=top 87
abbrev fU:Stmt:=top 88
abbrev oV:Stmt:=top 89
abbrev kW:Stmt:=top 90
abbrev ju:Stmt:=top 91
abbrev gZ:Stmt:=top 92
abbrev kO:Stmt:=top 93
abbrev jK:Stmt:=top 94
abbrev iH:Stmt:=top 95
abbrev jL:Stmt:=top 96
abbrev iY:Stmt:=top 97
abbrev vB:Stmt:=top 98
theorem aeF:FnScope ["tree"] ["tree"] (defScope oU):=⟨rfl,rfl,rfl,by decide +kernel,rfl,by decide +kernel,by decide +kernel⟩
theorem af9:FnScope ["tree"] ["tree"] (defScope vP):=⟨rfl,rfl,rfl,by decide +kernel,rfl,by decide +kernel,by decide +kernel⟩
theorem yh:FnScope ["tree","waiting","counted","part"] ["tree"] (defScope uF):=⟨rfl,rfl,rfl,by decide +kernel,rfl,by decide +kernel,by decide +kernel⟩
theorem aaS:FnScope ["word"] ["word"] (defScope pP):=⟨rfl,rfl,rfl,by decide +kernel,rfl,by decide +kernel,by decide +kernel⟩
theorem aaU:FnScope ["word"] ["word"] (defScope pU):=⟨rfl,rfl,rfl,by decide +kernel,rfl,by decide +kernel,by decide +kernel⟩
theorem ahE:FnScope ["tree"] ["tree"] (defScope vA):=⟨rfl,rfl,rfl,by decide +kernel,rfl,by decide +kernel,by decide +kernel⟩
theorem aeD:FnScope ["sort"] ["sort"] (defScope uE):=⟨rfl,rfl,rfl,by decide +kernel,rfl,by decide +kernel,by decide +kernel⟩
theorem agb:FnScope ["yes","no"] ["yes","no"] (defScope qZ):=⟨rfl,rfl,rfl,by decide +kernel,rfl,by decide +kernel,by decide +kernel⟩
theorem af_:FnScope ["body"] ["body"] (defScope yq):=⟨rfl,rfl,rfl,by decide +kernel,rfl,by decide +kernel,by decide +kernel⟩
theorem acT:FnScope ["names"] ["names"] (defScope fC):=⟨rfl,rfl,rfl,by decide +kernel,rfl,by decide +kernel,by decide +kernel⟩
theorem Uc:FnScope [] [] (defScope jJ):=⟨rfl,rfl,rfl,by decide +kernel,rfl,by decide +kernel,by decide +kernel⟩
theorem Ol:FnScope ["wrapped"] [] (defScope pR):=⟨rfl,rfl,rfl,by decide +kernel,rfl,by decide +kernel,by decide +kernel⟩
theorem VD:FnScope [] [] (defScope lK):=⟨rfl,rfl,rfl,by decide +kernel,rfl,by decide +kernel,by decide +kernel⟩
theorem Dd:FnScope ["word_gone","shut"] [] (defScope pO):=⟨rfl,rfl,rfl,by decide +kernel,rfl,by decide +kernel,by decide +kernel⟩
theorem wX:FnScope ["text","sort"] [] (defScope pX):=⟨rfl,rfl,rfl,by decide +kernel,rfl,by decide +kernel,by decide +kernel⟩
theorem Om:FnScope ["sort","cleared"] ["sort"] (defScope pW):=⟨rfl,rfl,rfl,by decide +kernel,rfl,by decide +kernel,by decide +kernel⟩
theorem Ft:FnScope ["word_whole"] [] (defScope jH):=⟨rfl,rfl,rfl,by decide +kernel,rfl,by decide +kernel,by decide +kernel⟩
theorem K6:FnScope [] [] (defScope gY):=⟨rfl,rfl,rfl,by decide +kernel,rfl,by decide +kernel,by decide +kernel⟩
theorem aeG:FnScope ["text","tree"] ["text","tree"] (defScope sJ):=⟨rfl,rfl,rfl,by decide +kernel,rfl,by decide +kernel,by decide +kernel⟩
theorem Yz:FnScope ["sort","top"] ["sort","top"] (defScope kJ):=⟨rfl,rfl,rfl,by decide +kernel,rfl,by decide +kernel,by decide +kernel⟩
theorem agc:FnScope ["tally"] ["tally"] (defScope vQ):=⟨rfl,rfl,rfl,by decide +kernel,rfl,by decide +kernel,by decide +kernel⟩
theorem aeH:FnScope ["one","other"] ["one","other"] (defScope sO):=⟨rfl,rfl,rfl,by decide +kernel,rfl,by decide +kernel,by decide +kernel⟩
theorem vN:FnScope ["tally","taken","times","numbers"] ["tally"] (defScope pN):=⟨rfl,rfl,rfl,by decide +kernel,rfl,by decide +kernel,by decide +kernel⟩
theorem Yy:FnScope ["body"] ["body"] (defScope ni):=⟨rfl,rfl,rfl,by decide +kernel,rfl,by decide +kernel,by decide +kernel⟩
theorem Vy:FnScope [] [] (defScope lH):=⟨rfl,rfl,rfl,by decide +kernel,rfl,by decide +kernel,by decide +kernel⟩
theorem YB:FnScope [] [] (defScope nj):=⟨rfl,rfl,rfl,by decide +kernel,rfl,by decide +kernel,by decide +kernel⟩
theorem aga:FnScope ["text"] ["text"] (defScope yt):=⟨rfl,rfl,rfl,by decide +kernel,rfl,by decide +kernel,by decide +kernel⟩
theorem VB:FnScope ["text"] ["text"] (defScope lJ):=⟨rfl,rfl,rfl,by decide +kernel,rfl,by decide +kernel,by decide +kernel⟩
theorem YD:FnScope ["own_made"] ["own_made"] (defScope nu):=⟨rfl,rfl,rfl,by decide +kernel,rfl,by decide +kernel,by decide +kernel⟩
theorem YC:FnScope ["row"] ["row"] (defScope nq):=⟨rfl,rfl,rfl,by decide +kernel,rfl,by decide +kernel,by decide +kernel⟩
theorem aaT:FnScope ["row"] ["row"] (defScope pQ):=⟨rfl,rfl,rfl,by decide +kernel,rfl,by decide +kernel,by decide +kernel⟩
theorem aeE:FnScope ["tree","place"] ["tree","place"] (defScope uG):=⟨rfl,rfl,rfl,by decide +kernel,rfl,by decide +kernel,by decide +kernel⟩
theorem Vx:FnScope ["row"] ["row"] (defScope jt):=⟨rfl,rfl,rfl,by decide +kernel,rfl,by decide +kernel,by decide +kernel⟩
theorem kI:FnScope ["row","most","waiting","counted","part"] ["row","most"] (defScope iG):=⟨rfl,rfl,rfl,by decide +kernel,rfl,by decide +kernel,by decide +kernel⟩
theorem tE:FnScope ["row","ahead","taken","part","tree"] ["row"] (defScope pY):=⟨rfl,rfl,rfl,by decide +kernel,rfl,by decide +kernel,by decide +kernel⟩
theorem Vz:FnScope ["text","tree","budget","walk","steps"] ["text","tree","budget"] (defScope zJ):=⟨rfl,rfl,rfl,by decide +kernel,rfl,by decide +kernel,by decide +kernel⟩
theorem Yx:FnScope ["text","tree","budget"] ["text","tree","budget"] (defScope m_):=⟨rfl,rfl,rfl,by decide +kernel,rfl,by decide +kernel,by decide +kernel⟩
theorem TQ:FnScope ["stand","budget","walk"] ["stand","budget"] (defScope pL):=⟨rfl,rfl,rfl,by decide +kernel,rfl,by decide +kernel,by decide +kernel⟩
theorem QV:FnScope ["step","load","stack","item","row"] ["step","load","stack"] (defScope yp):=⟨rfl,rfl,rfl,by decide +kernel,rfl,by decide +kernel,by decide +kernel⟩
theorem fB:FnScope ["_law_script","_law_deck_here","_law_cell","_law_number","_law_k"] ["_law_script"] (defScope lM):=⟨rfl,rfl,rfl,by decide +kernel,rfl,by decide +kernel,by decide +kernel⟩
theorem VF:FnScope ["_law_deck_here","_law_many"] ["_law_deck_here","_law_many"] (defScope gR):=⟨rfl,rfl,rfl,by decide +kernel,rfl,by decide +kernel,by decide +kernel⟩
theorem GD:FnScope ["_law_deck_here","_law_deep"] ["_law_deck_here","_law_deep"] (defScope iQ):=⟨rfl,rfl,rfl,by decide +kernel,rfl,by decide +kernel,by decide +kernel⟩
theorem QX:FnScope ["_law_many"] ["_law_many"] (defScope fU):=⟨rfl,rfl,rfl,by decide +kernel,rfl,by decide +kernel,by decide +kernel⟩
theorem yj:FnScope ["_law_deck_here","_law_deep","_law_way"] ["_law_deck_here","_law_deep"] (defScope oV):=⟨rfl,rfl,rfl,by decide +kernel,rfl,by decide +kernel,by decide +kernel⟩
theorem qY:FnScope ["_law_deck_here","_law_stack","_law_k","_law_few"] ["_law_deck_here"] (defScope kW):=⟨rfl,rfl,rfl,by decide +kernel,rfl,by decide +kernel,by decide +kernel⟩
theorem GF:FnScope ["_law_deck_here","_law_deep"] ["_law_deck_here","_law_deep"] (defScope ju):=⟨rfl,rfl,rfl,by decide +kernel,rfl,by decide +kernel,by decide +kernel⟩
theorem Fv:FnScope ["_law_tree_here"] ["_law_tree_here"] (defScope gZ):=⟨rfl,rfl,rfl,by decide +kernel,rfl,by decide +kernel,by decide +kernel⟩
theorem YF:FnScope ["_law_tree_here"] ["_law_tree_here"] (defScope kO):=⟨rfl,rfl,rfl,by decide +kernel,rfl,by decide +kernel,by decide +kernel⟩
theorem Ud:FnScope ["_law_sort"] ["_law_sort"] (defScope jK):=⟨rfl,rfl,rfl,by decide +kernel,rfl,by decide +kernel,by decide +kernel⟩
theorem Oo:FnScope ["_law_words"] ["_law_words"] (defScope iH):=⟨rfl,rfl,rfl,by decide +kernel,rfl,by decide +kernel,by decide +kernel⟩
theorem rH:FnScope ["_law_deck_here","_law_way","_law_text_here","_law_laid","_law_more"] ["_law_deck_here","_law_way"] (defScope jL):=⟨rfl,rfl,rfl,by decide +kernel,rfl,by decide +kernel,by decide +kernel⟩
theorem oE:FnScope ["_law_text_here","_law_made","_law_tree_here","_law_room","_law_told","_law_due","_law_most","_law_found"] ["_law_text_here","_law_made","_law_tree_here","_law_room"] (defScope iY):=⟨rfl,rfl,rfl,by decide +kernel,rfl,by decide +kernel,by decide +kernel⟩
theorem vO:FnScope ["_law_script","_law_deck_here","_law_way","_law_text_here","_law_tree_here","_law_made","_law_room"] ["_law_script"] (defScope vB):=⟨rfl,rfl,rfl,by decide +kernel,rfl,by decide +kernel,by decide +kernel⟩
end fY
namespace fY
open PySem PySem.Spec PyProof.Rows L2 Sw
section
variable {P:Program}{w:World}{K:PySem.W.Frag}{mg:Str→Option Value}{base:Heap}{f:Addr}{fd:FuncData}
theorem aj6 (n:Nat):((List.replicate n (List.map W [1])).flatten).length=n:=by
 induction n with
 | zero=>rfl
 | succ n ih=>rw [List.replicate_succ,List.flatten_cons,List.length_append,ih]; show 1+n=n+1; lia
theorem ahB:∀ i:Nat,i≤8→(T.node ([5,3].map W++cF i)).deep≤400∧(T.node ([5,3].map W++cF i)).parts≤1000000:=by decide +kernel
theorem aiO:∀ i:Nat,i≤7→(T.node (pC i)).deep≤400∧(T.node (pC i)).parts≤1000000:=by decide +kernel
def afQ:List T:=[W 5,aU 0 [],W 6,W 4,aU 0 [],W 6,W 4]
def Pb:List Str:=[PySem.Str.ofString "lay",PySem.Str.ofString "drop",PySem.Str.ofString "twin",PySem.Str.ofString "swap",PySem.Str.ofString "front",PySem.Str.ofString "part",PySem.Str.ofString "turn",PySem.Str.ofString "fork",PySem.Str.ofString "while"]
def abe (k:Nat):Str:=Pb.getD k (PySem.Str.ofString "")
theorem agL:∀ k:Nat,k≤8→Pb[k]?=some (abe k)∧∀ m,m<k→Pb[m]?≠some (abe k):=by decide +kernel
def jY (K:PySem.W.Frag) (t:List T):Sp:=fun vs H Q _=>vs=[]∧∀ y H',Same H H'→TR K H' (.node t) y→Q y H'
def jG (K:PySem.W.Frag):Sp:=fun vs H Q _=>∃ (z:Str) (ks:List Nat),vs=[.str z]∧z.length≤1000∧((Builtin.Str.spaceWords z (z.length+1)).length≤1000∧(Txt.words z).length≤1000)∧Txt.words z=ks.map abe∧(∀ k∈ks,1≤k∧k≤6)∧∀ y H',Same H H'→TR K H' (.node (ks.map W)) y→Q y H'
def Vo (K:PySem.W.Frag):Sp:=fun vs H Q _=>∃ k:Nat,vs=[.int (k:Int)]∧k≤7∧∀ y H',Same H H'→TR K H' (.node (pC k)) y→Q y H'
theorem Uz {K:PySem.W.Frag}{H:Hp}{Q:VK}{x y:V}{k:Int}{ts:List T} (n:Nat) (hx:TR K H (.node ts) x) (hy:y=.int k) (hk:k=(n:Int)) (hn:n≤100) (q:∀ z H',Same H H'→TR K H' (.node (List.replicate n ts).flatten) z→Q z H') (hl:ts.length≤100:=by decide):G9 K x y H Q:=by
 obtain⟨a,xs,rfl,ha,ra⟩:=cN.mp hx
 have hlen:=ra.length
 refine⟨a,k,xs,rfl,hy,ha,by lia,by lia,small (by rw [hk,Int.toNat_natCast,hlen]; exact Nat.le_trans (Nat.mul_le_mul hl hn) (by decide)),fun p H' S hp=>q _ _ S (vH hp ?_)⟩
 have r2:TRs K H' ts xs:=ra.mono (.of S)
 unfold tG
 rw [hk,Int.toNat_natCast]
 clear hp hn hk hy q
 induction n with
 | zero=>exact bJ.mpr rfl
 | succ n ih =>
  rw [List.replicate_succ,List.flatten_cons,List.replicate_succ,List.flatten_cons]
  exact TRs.append r2 ih
theorem aiu {K:PySem.W.Frag}{H:Hp}{Q:VK}{σ:L2.St}{x y:V}{k:Int}{ts:List T} (n:Nat) (hx:TR K H (.node ts) x) (hy:y=.int k) (hk:k=(n:Int)) (hn:n≤100) (q:∀ z H',Same H H'→TR K H' (.node (List.replicate n ts).flatten) z→Q z H') (hl:ts.length≤100:=by decide):tC y σ H (fun y H2=>G9 K x y H2 Q):=Uz n hx hy hk hn q hl
def bothW (m:List T):List T:=W 3::(m++(W 3::W 4::(cT++(W 4::cT))))
def Og (K:PySem.W.Frag):Sp:=fun vs H Q _=>∃ x b,vs=[x]∧TR K H (.node b) x∧B 390 900000 (.node b)∧∀ y H',Same H H'→TR K H' (.node (aU 0 b::b)) y→Q y H'
def TJ (K:PySem.W.Frag):Sp:=fun vs H Q _=>∃ x m,vs=[x]∧TR K H (.node m) x∧m.length≤1000∧∀ y H',Same H H'→TR K H' (.node (bothW m)) y→Q y H'
def Z2 (K:PySem.W.Frag):Sp:=fun vs H Q _=>∃ x f,vs=[x]∧TR K H (.node f) x∧B 300 800000 (.node f)∧∀ y H',Same H H'→TR K H' (.node (gQ f)) y→Q y H'
def acQ (K:PySem.W.Frag):Sp:=fun vs H Q _=>∃ x f,vs=[x]∧TR K H (.node f) x∧B 300 800000 (.node f)∧∀ y H',Same H H'→TR K H' (.node (aQ f)) y→Q y H'
theorem ajQ {f:List T} (h:B 300 800000 (.node f)):B 390 900000 (.node (gQ f)):=by
 obtain⟨h1,h2⟩:=h
 obtain⟨p1,p2⟩:=abW
 rw [T.aO] at h1
 rw [T.aL] at h2
 refine⟨?_,by rw [body_parts]; lia⟩
 unfold gQ aU dh
 rw [T.aO,T.aK,T.aO,T.aK,List.replicate_zero,T.aO,T.aY]
 lia
def af2 (K:PySem.W.Frag) (H:Hp) (a:Addr) (rows:List (List Nat)):Prop:=∃ ys,SqT K H a ys∧bh (fun r y=>∃ b,y=V.ref b∧SqT K H b (List.map nv r)) rows ys
def Vg (K:PySem.W.Frag):Sp:=fun vs H Q _=>∃ a ns,vs=[.ref a]∧SqT K H a (List.map nv ns)∧ns.length=15∧∀ p H',Same H H'→SqT K H' p ((turnT ns).map nv)→Q (.ref p) H'
theorem agY {K:PySem.W.Frag}{a b:Addr}{xs ys:List V}{tb:TS}{D:Ends}{σ:Sg}{H:Hp}{g:TG} (Pv:Nat→Sg→Hp→Prop) (h0:Pv 0 σ H) (he:xs.length=ys.length) (hl:∀ i σ H,i≤xs.length→Pv i σ H→SqT K H a xs∧SqT K H b ys)
  (hs:∀ i x y σ H p,xs[i]?=some x→ys[i]?=some y→Pv i σ H→H p=none→g (.ref p) σ (upd H p (.tup [x,y])) fun σ2 H2=>tb { D with nx:=Pv (i+1),ct:=Pv (i+1),bk:=D.nx } σ2 H2) (hd:∀ σ H,Pv xs.length σ H→D.nx σ H) :
  ∃ W:Nat→Nat→Sg→Hp→Prop,(∃ m,W 0 m σ H)∧∀ i m σ H,W i m σ H →
   ((Itz K a b).stop i H∧D.nx σ H)∨((Itz K a b).go i H∧∃ N:Sg→Hp→Prop,(∀ σ' H',N σ' H'→∃ m',m'<m∧W (i+1) m' σ' H')∧∀ x H',(Itz K a b).yld i H x H'→g x σ H' fun σ2 H2=>tb { D with nx:=N,ct:=N,bk:=D.nx } σ2 H2):=by
 refine⟨fun i m σ H=>m=xs.length - i∧i≤xs.length∧Pv i σ H,⟨xs.length,rfl,Nat.zero_le _,h0⟩,?_⟩
 rintro i m σ H ⟨rfl,hi,p⟩
 obtain⟨qa,qb⟩:=hl i σ H hi p
 by_cases hlt:i<xs.length
 ·have ex:xs[i]?=some xs[i]:=List.getElem?_eq_getElem hlt
  have ey:ys[i]?=some ys[i]:=List.getElem?_eq_getElem (by lia)
  refine .inr ⟨⟨_,_,_,_,qa,qb,ex,ey⟩,Pv (i+1),fun σ' H' p'=>⟨xs.length - (i+1),by lia,rfl,hlt,p'⟩,fun v H' y=>?_⟩
  obtain⟨q,x,y,rfl,hq,rfl,hx,hy⟩:=y
  exact hs i x y σ _ q (hx _ qa) (hy _ qb) p hq
 ·have e:i=xs.length:=by lia
  subst e
  exact .inl ⟨⟨_,qa,Nat.le_refl _⟩,hd σ H p⟩
theorem aiB {K:PySem.W.Frag}{a:Addr}{H1:Hp}{ns:List Nat}{f:Nat→Nat}{σ:Sg}{js:List Nat}{te:TE}{Q:VK} (hn:ns.length≤1000) (ha:SqT K H1 a (ns.map nv))
  (hte:∀ (i:Nat) (H':Hp) (R:VK),i∈ns→R (nv (f i)) H'→te (some (nv i)::frv σ js) H' R)
  (q:∀ D H',Same H1 H'→H' D=some (.lst ((ns.map f).map nv))→Q (.ref D) H'):Fg (Itt K a) js te σ Q H1:=by
 refine aan (K:=K) (xs:=ns.map nv) (fun D i ys H'=>H1 D=none∧Same H1 H'∧H' D=some (.lst ys)∧ys=((ns.take i).map f).map nv∧i≤ns.length) (small (by rw [List.length_map]; lia)) (fun D hD=>⟨hD,same_new hD _,upd_same,rfl,Nat.zero_le _⟩) (fun D i ys H' j=>⟨j.2.2.1,?_,dM (.of j.2.1) ha⟩) (fun D i x ys H' R hx j hR=>?_) (fun D ys H' j=>?_)
 ·rw [j.2.2.2.1,List.length_map,List.length_map,List.length_take]
  exact Nat.min_eq_left j.2.2.2.2
 ·obtain⟨hD,S,h1,h2,_⟩:=j
  rw [List.getElem?_map] at hx
  cases hh:ns[i]? with
  | none=>rw [hh] at hx; cases hx
  | some m =>
   rw [hh] at hx
   cases hx
   refine hte m _ _ (List.mem_of_getElem? hh) (hR _ _ h1 ⟨hD,eG S hD,upd_same,?_,(List.getElem?_eq_some_iff.mp hh).1⟩)
   rw [h2,List.take_succ,hh,List.map_append,List.map_append]
   rfl
 ·obtain⟨hD,S,h1,h2,_⟩:=j
  rw [List.length_map,List.take_of_length_le (Nat.le_refl _)] at h2
  exact q D H' S (by rw [h1,h2])
theorem adf (cW:mg "tuple"=none) {qN:Addr} (Ry:mg "NAMES"=some (.ref qN)) (Q8:∀ H,SqT K H qN [.str (PySem.Str.ofString "lay"),.str (PySem.Str.ofString "drop"),.str (PySem.Str.ofString "twin"),.str (PySem.Str.ofString "swap"),.str (PySem.Str.ofString "front"),.str (PySem.Str.ofString "part"),.str (PySem.Str.ofString "turn"),.str (PySem.Str.ofString "fork"),.str (PySem.Str.ofString "while")])
  {SM:Addr}{R7:FuncData} (ahk:Fun K "plain" "plain" uE SM R7) (ahh:FnOk P w K mg base CX0 31 SM R7 ["sort"] (ZV K)) (ahb:Binds K R7 ["sort"] []) (agM:mg "plain"=some (.ref SM))
  (Qv:∃ ob,K.lookup qN=some ob∧ob.cls=.type "tuple"∧ob.dict=none)
  (F:Fun K "plains" "plains" fC f fd):FnOk P w K mg base CX0 32 f fd ["names"] (jG K):=by
 refine okQ F acT (fun vs H Q E h=>?_) (fun cdv A outer s H vs Q E hr h=>?_)
 ·obtain⟨z,ks,rfl,_⟩:=h
  rfl
 obtain⟨z,ks,rfl,hz1,hz2,hw,hk,q⟩:=h
 refine⟨_,(aD (aV (jw gD rfl cW nU (aj (JC rfl (uM (fr:=[]) (js:=[]) (sc:=defScope fC) rfl rfl rfl (by decide +kernel) (by decide +kernel) (by decide +kernel) (by decide +kernel) (by exact trivial) (by decide +kernel) (fun y hy=>cell_has hy)) (aac (rA PySem.F.plainAttrs_str PySem.F.slot_str_split PySem.F.type_str_split adn (qv 0))) (fun _ _ _ _ _=>(aF ahh hr rfl agM ahk.kp ahb .nil pass0 (aj (ahR (K:=K) rfl (gC PySem.F.plainAttrs_tuple PySem.F.slot_tuple_index PySem.F.type_tuple_index (abg (K:=K) rfl) (bC (v:=.ref qN) rfl Ry rfl) (aj (qv 0) ak))) ak)))) ak)))),?_⟩
 have hwl:(Txt.words z).length=ks.length:=by rw [hw,List.length_map]
 have hwn:(Txt.words z).length≤1000:=hz2.2
 refine⟨_,rfl,rfl,z,rfl,rfl,hz1,hz2.1,hz2.2,fun D0 g0=>?_⟩
 refine⟨D0,rfl,⟨_,SqL.of upd_same⟩,?_⟩
 have S0:=same_new g0 (.lst ((Txt.words z).map V.str))
 refine ae9 (K:=K) (xs:=(Txt.words z).map V.str) (fun D i ys H'=>D≠D0∧H D=none∧Same H H'∧H' D0=some (.lst ((Txt.words z).map V.str))∧H' D=some (.lst ys)∧TRs K H' ((ks.take i).map W) ys∧i≤ks.length) (small (by rw [List.length_map]; lia)) (fun D hD=>?_) (fun D i ys H' j=>⟨j.2.2.2.2.1,?_,SqL.of j.2.2.2.1⟩) (fun D i x ys H' R hx j hR=>?_) (fun D ys H' j=>?_)
 ·have hne:D≠D0:=fun e=>by rw [e,upd_same] at hD; cases hD
  exact⟨hne,S0.free hD,S0.trans (same_new hD _),by rw [upd_ne hne.symm]; exact upd_same,upd_same,bJ.mpr rfl,Nat.zero_le _⟩
 ·rw [j.2.2.2.2.2.1.length,List.length_map,List.length_take]
  exact Nat.min_eq_left j.2.2.2.2.2.2
 ·obtain⟨hne,hD,S,h0,h1,ht,hi⟩:=j
  rw [hw,List.map_map,List.getElem?_map] at hx
  cases hh:ks[i]? with
  | none=>rw [hh] at hx; cases hx
  | some k =>
   rw [hh] at hx
   cases hx
   have hk1:=hk k (List.mem_of_getElem? hh)
   obtain⟨e1,e2⟩:=agL k (by lia)
   refine⟨.inr (.inl ⟨rfl,Qv⟩),_,rfl,qN,Pb,_,k,rfl,rfl,Q8 _,e1,e2,k,rfl,hk1.1,hk1.2,fun y H3 S3 t3=>?_⟩
   refine hR _ _ (S3 _ _ h1) ⟨hne,hD,eG (S.trans S3) hD,by rw [upd_ne hne.symm]; exact S3 _ _ h0,upd_same,?_,(List.getElem?_eq_some_iff.mp hh).1⟩
   rw [List.take_succ,hh,List.map_append]
   exact TRs.append ((ht.mono (.of S3)).mono (Kt.lst (S3 _ _ h1))) (cH.mpr ⟨y,[],rfl,t3.mono (Kt.lst (S3 _ _ h1)),bJ.mpr rfl⟩)
 ·obtain⟨hne,hD,S,h0,h1,ht,hi⟩:=j
  rw [List.length_map,hwl,List.take_of_length_le (Nat.le_refl _)] at ht
  refine⟨D,ys,rfl,.inl ⟨SqL.of h1,fun p hp=>?_⟩⟩
  obtain⟨S5,t5⟩:=cA (K:=K) hp ht
  exact q _ _ (S.trans S5) t5
theorem aa7
  {n8:Addr}{nP:FuncData} (Fo:Fun K "lay" "lay" vA n8 nP) (Fi:FnOk P w K mg base CX0 32 n8 nP ["tree"] (Oh K)) (Ep:Binds K nP ["tree"] []) (Dy:mg "lay"=some (.ref n8))
  {bQ:Addr}{bO:FuncData} (bW:Fun K "plains" "plains" fC bQ bO) (bV:FnOk P w K mg base CX0 32 bQ bO ["names"] (jG K)) (bU:Binds K bO ["names"] []) (bR:mg "plains"=some (.ref bQ))
  (F:Fun K "opening" "opening" pR f fd):FnOk P w K mg base CX0 33 f fd [] (jY K afQ):=by
 refine okQ F Ol (fun vs H Q E h=>?_) (fun cdv A outer s H vs Q E hr h=>?_)
 ·obtain⟨rfl,_⟩:=h
  rfl
 obtain⟨rfl,q⟩:=h
 refine⟨_,(aA (bN (i:=0) Ol.nd rfl (Or.inl rfl) (aW bH (bA (aj (aF Fi hr rfl Dy Fo.kp Ep .nil pass0 (aj (bA ak) ak)) ak)) (aF bV hr rfl bR bW.kp bU .nil pass0 (aj eO ak))))
   (aD (aV (aW bH (aW bH (aF bV hr rfl bR bW.kp bU .nil pass0 (aj eO ak)) (qv 0)) (qv 0))))),?_⟩
 refine⟨Nat.zero_le _,fun p1 g1=>?_⟩
 obtain⟨S1,t1⟩:=cA (K:=K) (ts:=[]) g1 (bJ.mpr rfl)
 refine⟨_,leaf,rfl,t1,by decide,by decide,fun y2 H2 S2 t2=>⟨(by show 1≤sizeLine; decide),fun p3 g3=>?_⟩⟩
 obtain⟨S3,t3⟩:=cA (K:=K) g3 (fj t2)
 refine⟨_,[6,4],rfl,by decide +kernel,by decide +kernel,by decide +kernel,by decide,fun y4 H4 S4 t4=>cG (t3.mono (.of S4)) t4 (small (by decide)) (fun y5 H5 S5 t5=>?_)⟩
 have S15:=S1.trans (S2.trans (S3.trans (S4.trans S5)))
 refine⟨_,[5],rfl,by decide +kernel,by decide +kernel,by decide +kernel,by decide,fun y6 H6 S6 t6=>⟨_,rfl,cG t6 (t5.mono (.of S6)) (small (by decide)) (fun y7 H7 S7 t7=>⟨_,rfl,cG t7 (t5.mono (.of (S6.trans S7))) (small (by decide)) (fun y8 H8 S8 t8=>?_)⟩)⟩⟩
 exact q _ _ (S15.trans (S6.trans (S7.trans S8))) t8
theorem Lr {eV:Value} (gA:mg "WHILE"=some eV) (eX:RelV (.int 8) eV)
  {bQ:Addr}{bO:FuncData} (bW:Fun K "plains" "plains" fC bQ bO) (bV:FnOk P w K mg base CX0 32 bQ bO ["names"] (jG K)) (bU:Binds K bO ["names"] []) (bR:mg "plains"=some (.ref bQ))
  (F:Fun K "nameless_gone" "nameless_gone" gY f fd):FnOk P w K mg base CX0 33 f fd [] (jY K Gp):=by
 refine okQ F K6 (fun vs H Q E h=>?_) (fun cdv A outer s H vs Q E hr h=>?_)
 ·obtain⟨rfl,_⟩:=h
  rfl
 obtain⟨rfl,q⟩:=h
 refine⟨_,(aD (aV (aW bH (aW qd (aF bV hr rfl bR bW.kp bU .nil pass0 (aj eO ak)) (aW op_add (bC (v:=.int 8) rfl gA eX) aH)) (aF bV hr rfl bR bW.kp bU .nil pass0 (aj eO ak))))),?_⟩
 refine⟨_,[1],rfl,by decide +kernel,by decide +kernel,by decide +kernel,by decide,fun y1 H1 S1 t1=>⟨8,2,rfl,rfl,Uz 10 t1 rfl rfl (by decide) (fun y2 H2 S2 t2=>?_)⟩⟩
 refine⟨_,[4],rfl,by decide +kernel,by decide +kernel,by decide +kernel,by decide,fun y3 H3 S3 t3=>cG (t2.mono (.of S3)) t3 (small (by decide)) (fun y4 H4 S4 t4=>?_)⟩
 exact q _ _ (S1.trans (S2.trans (S3.trans S4))) t4
theorem Uj {eV:Value} (gA:mg "WHILE"=some eV) (eX:RelV (.int 8) eV) {iz:Value} (j6:mg "TOP_REACHED"=some iz) (iB:RelV (.str (PySem.Str.ofString "turn turn front turn part")) iz) {qW:Value} (Ag:mg "PAST_BODY"=some qW) (q_:RelV (.str (PySem.Str.ofString "front turn drop swap")) qW) {qX:Value} (Ah:mg "INTO_BODY"=some qX) (rm:RelV (.str (PySem.Str.ofString "front swap turn part swap twin turn front turn part turn front front swap front")) qX)
  {bQ:Addr}{bO:FuncData} (bW:Fun K "plains" "plains" fC bQ bO) (bV:FnOk P w K mg base CX0 32 bQ bO ["names"] (jG K)) (bU:Binds K bO ["names"] []) (bR:mg "plains"=some (.ref bQ))
  {jU:Addr}{jP:FuncData} (wA:Fun K "fork" "fork" qZ jU jP) (wz:FnOk P w K mg base CX0 32 jU jP ["yes","no"] (Gy K)) (wj:Binds K jP ["yes","no"] []) (vX:mg "fork"=some (.ref jU))
  (F:Fun K "while_gone" "while_gone" jH f fd):FnOk P w K mg base CX0 33 f fd [] (jY K vM):=by
 refine okQ F Ft (fun vs H Q E h=>?_) (fun cdv A outer s H vs Q E hr h=>?_)
 ·obtain⟨rfl,_⟩:=h
  rfl
 obtain⟨rfl,q⟩:=h
 refine⟨_,(aA (bN (i:=0) Ft.nd rfl (Or.inl rfl) (aW bH (aW qd (aF bV hr rfl bR bW.kp bU .nil pass0 (aj eO ak)) (bC (v:=.int 8) rfl gA eX)) (aF bV hr rfl bR bW.kp bU .nil pass0 (aj eO ak))))
   (aD (aV (aW bH (aW bH (qv 0) (aF bV hr rfl bR bW.kp bU .nil pass0 (aj (bC (v:=.str (PySem.Str.ofString "turn turn front turn part")) rfl j6 iB) ak))) (bA (aj (aF wz hr rfl vX wA.kp wj .nil pass0 (aj (aF bV hr rfl bR bW.kp bU .nil pass0 (aj (bC (v:=.str (PySem.Str.ofString "front swap turn part swap twin turn front turn part turn front front swap front")) rfl Ah rm) ak)) (aj (aF bV hr rfl bR bW.kp bU .nil pass0 (aj (bC (v:=.str (PySem.Str.ofString "front turn drop swap")) rfl Ag q_) ak)) ak))) ak)))))),?_⟩
 refine⟨_,[3,4],rfl,by decide +kernel,by decide +kernel,by decide +kernel,by decide,fun y1 H1 S1 t1=>aiu (k:=8) 8 t1 rfl rfl (by decide) (fun y2 H2 S2 t2=>?_)⟩
 refine⟨_,[4],rfl,by decide +kernel,by decide +kernel,by decide +kernel,by decide,fun y3 H3 S3 t3=>cG (t2.mono (.of S3)) t3 (small (by decide)) (fun y4 H4 S4 t4=>?_)⟩
 have S14:=S1.trans (S2.trans (S3.trans S4))
 refine⟨_,rfl,_,[6,6,4,6,5],rfl,by decide +kernel,by decide +kernel,by decide +kernel,by decide,fun y5 H5 S5 t5=>cG (t4.mono (.of S5)) t5 (small (by decide)) (fun y6 H6 S6 t6=>?_)⟩
 refine⟨_,[4,3,6,5,3,2,6,4,6,5,6,4,4,3,4],rfl,by decide +kernel,by decide +kernel,by decide +kernel,by decide,fun y7 H7 S7 t7=>?_⟩
 refine⟨_,[4,6,1,3],rfl,by decide +kernel,by decide +kernel,by decide +kernel,by decide,fun y8 H8 S8 t8=>⟨_,_,_,_,rfl,t7.mono (.of S8),t8,⟨by decide,by decide⟩,⟨by decide,by decide⟩,fun y9 H9 S9 t9=>⟨(by show 1≤sizeLine; decide),fun p10 g10=>?_⟩⟩⟩
 obtain⟨S10,t10⟩:=cA (K:=K) g10 (fj t9)
 have Yh:=S7.trans (S8.trans (S9.trans S10))
 exact cG (t6.mono (.of Yh)) t10 (small (by decide)) (fun y11 H11 S11 t11=>q _ _ (S14.trans (S5.trans (S6.trans (Yh.trans S11)))) t11)
theorem aa9 {zG:Value} (JN:mg "LAY"=some zG) (zK:RelV (.int 0) zG) {Gk:Value} (WT:mg "LAID"=some Gk) (GX:RelV (.str (PySem.Str.ofString "turn turn front turn turn front swap")) Gk) {kj:Value} (oJ:mg "FORK"=some kj) (k_:RelV (.int 7) kj) {iz:Value} (j6:mg "TOP_REACHED"=some iz) (iB:RelV (.str (PySem.Str.ofString "turn turn front turn part")) iz) {vL:Value} (Hv:mg "INTO_NO"=some vL) (vV:RelV (.str (PySem.Str.ofString "front swap turn part drop front")) vL) {tD:Value} (DG:mg "INTO_YES"=some tD) (tH:RelV (.str (PySem.Str.ofString "front swap turn part swap drop front")) tD) {lY:Value} (uL:mg "STACK_PARTED"=some lY) (mj:RelV (.str (PySem.Str.ofString "drop front swap part")) lY) {jk:Addr} (Mq:mg "WORKED"=some (.ref jk)) (p8:∀ H,SqT K H jk [.str (PySem.Str.ofString ""),.str (PySem.Str.ofString "drop"),.str (PySem.Str.ofString "twin turn swap front swap front"),.str (PySem.Str.ofString "swap part swap turn front swap front"),.str (PySem.Str.ofString "swap part turn front front"),.str (PySem.Str.ofString "part turn turn front swap front"),.str (PySem.Str.ofString "swap part swap part swap turn front turn front swap front")])
  {bQ:Addr}{bO:FuncData} (bW:Fun K "plains" "plains" fC bQ bO) (bV:FnOk P w K mg base CX0 33 bQ bO ["names"] (jG K)) (bU:Binds K bO ["names"] []) (bR:mg "plains"=some (.ref bQ))
  {jU:Addr}{jP:FuncData} (wA:Fun K "fork" "fork" qZ jU jP) (wz:FnOk P w K mg base CX0 33 jU jP ["yes","no"] (Gy K)) (wj:Binds K jP ["yes","no"] []) (vX:mg "fork"=some (.ref jU))
  (F:Fun K "gone_of" "gone_of" pW f fd):FnOk P w K mg base CX0 34 f fd ["sort"] (Vo K):=by
 refine okQ F Om (fun vs H Q E h=>?_) (fun cdv A outer s H vs Q E hr h=>?_)
 ·obtain⟨k,rfl,_⟩:=h
  rfl
 obtain⟨k,rfl,h7,q⟩:=h
 refine⟨_,(aA (bN (i:=1) Om.nd rfl (Or.inl rfl) (aW qd (aF bV hr rfl bR bW.kp bU .nil pass0 (aj eO ak)) (aW op_add (qv 0) aH)))
   (aA (cg (aZ op_eq (qv 0) (bC (v:=.int 0) rfl JN zK) (nomark _)) (aD (aV (aW bH (qv 1) (aF bV hr rfl bR bW.kp bU .nil pass0 (aj (bC (v:=.str (PySem.Str.ofString "turn turn front turn turn front swap")) rfl WT GX) ak))))) bL)
   (aA (cg (aZ op_eq (qv 0) (bC (v:=.int 7) rfl oJ k_) (nomark _)) (aD (aV (aW bH (aW bH (qv 1) (aF bV hr rfl bR bW.kp bU .nil pass0 (aj (bC (v:=.str (PySem.Str.ofString "turn turn front turn part")) rfl j6 iB) ak))) (bA (aj (aF wz hr rfl vX wA.kp wj .nil pass0 (aj (aF bV hr rfl bR bW.kp bU .nil pass0 (aj (bC (v:=.str (PySem.Str.ofString "front swap turn part swap drop front")) rfl DG tH) ak)) (aj (aF bV hr rfl bR bW.kp bU .nil pass0 (aj (bC (v:=.str (PySem.Str.ofString "front swap turn part drop front")) rfl Hv vV) ak)) ak))) ak))))) bL)
   (aD (aV (aW bH (aW bH (aW bH (qv 1) (aF bV hr rfl bR bW.kp bU .nil pass0 (aj (bC (v:=.str (PySem.Str.ofString "drop front swap part")) rfl uL mj) ak))) (aF bV hr rfl bR bW.kp bU .nil pass0 (aj (gB jl (bC (v:=.ref jk) rfl Mq rfl) (qv 0) (fun _ _=>rfl)) ak))) (aF bV hr rfl bR bW.kp bU .nil pass0 (aj eO ak)))))))),?_⟩
 refine⟨_,[1],rfl,by decide +kernel,by decide +kernel,by decide +kernel,by decide,fun y1 H1 S1 t1=>⟨_,rfl,_,_,rfl,rfl,Uz (k+1) t1 rfl rfl (by lia) (fun y2 H2 S2 t2=>?_)⟩⟩
 have S12:=S1.trans S2
 refine⟨_,rfl,rfl,_,rfl,ite2 (fun h0=>?_) (fun h0=>?_)⟩
 ·obtain rfl:k=0:=by have:=V.int.inj (of_decide_eq_true h0); lia
  refine⟨_,rfl,_,[6,6,4,6,6,4,3],rfl,by decide +kernel,by decide +kernel,by decide +kernel,by decide,fun y3 H3 S3 t3=>cG (t2.mono (.of S3)) t3 (small (by decide)) (fun y4 H4 S4 t4=>q _ _ (S12.trans (S3.trans S4)) t4)⟩
 refine⟨_,rfl,rfl,_,rfl,ite2 (fun h7=>?_) (fun h7=>?_)⟩
 ·obtain rfl:k=7:=by have:=V.int.inj (of_decide_eq_true h7); lia
  refine⟨_,rfl,_,[6,6,4,6,5],rfl,by decide +kernel,by decide +kernel,by decide +kernel,by decide,fun y5 H5 S5 t5=>cG (t2.mono (.of S5)) t5 (small (by decide)) (fun y6 H6 S6 t6=>?_)⟩
  refine⟨_,[4,3,6,5,3,1,4],rfl,by decide +kernel,by decide +kernel,by decide +kernel,by decide,fun y7 H7 S7 t7=>?_⟩
  refine⟨_,[4,3,6,5,1,4],rfl,by decide +kernel,by decide +kernel,by decide +kernel,by decide,fun y8 H8 S8 t8=>⟨_,_,_,_,rfl,t7.mono (.of S8),t8,⟨by decide,by decide⟩,⟨by decide,by decide⟩,fun y9 H9 S9 t9=>⟨(by show 1≤sizeLine; decide),fun p10 g10=>?_⟩⟩⟩
  obtain⟨S10,t10⟩:=cA (K:=K) g10 (fj t9)
  have Yh:=S7.trans (S8.trans (S9.trans S10))
  exact cG (t6.mono (.of Yh)) t10 (small (by decide)) (fun y11 H11 S11 t11=>q _ _ (S12.trans (S5.trans (S6.trans (Yh.trans S11)))) t11)
 have h0:k≠0:=fun z=>h0 (by subst z; exact decide_eq_true rfl)
 have h7:k≠7:=fun z=>h7 (by subst z; exact decide_eq_true rfl)
 refine⟨_,rfl,_,[1,4,3,5],rfl,by decide +kernel,by decide +kernel,by decide +kernel,by decide,fun y3 H3 S3 t3=>cG (t2.mono (.of S3)) t3 (small (by rw [aj6]; show _+4≤_; lia)) (fun y4 H4 S4 t4=>?_)⟩
 have S14:=S12.trans (S3.trans S4)
 rcases (by lia:k=1∨k=2∨k=3∨k=4∨k=5∨k=6) with rfl | rfl | rfl | rfl | rfl | rfl
 ·refine⟨_,rfl,jk,_,_,_,rfl,rfl,p8 _,rfl,_,[1],rfl,by decide +kernel,by decide +kernel,by decide +kernel,by decide,fun y5 H5 S5 t5=>cG (t4.mono (.of S5)) t5 (small (by decide)) (fun y6 H6 S6 t6=>?_)⟩
  refine⟨_,[3],rfl,by decide +kernel,by decide +kernel,by decide +kernel,by decide,fun y7 H7 S7 t7=>cG (t6.mono (.of S7)) t7 (small (by decide)) (fun y8 H8 S8 t8=>q _ _ (S14.trans (S5.trans (S6.trans (S7.trans S8)))) t8)⟩
 ·refine⟨_,rfl,jk,_,_,_,rfl,rfl,p8 _,rfl,_,[2,6,3,4,3,4],rfl,by decide +kernel,by decide +kernel,by decide +kernel,by decide,fun y5 H5 S5 t5=>cG (t4.mono (.of S5)) t5 (small (by decide)) (fun y6 H6 S6 t6=>?_)⟩
  refine⟨_,[3],rfl,by decide +kernel,by decide +kernel,by decide +kernel,by decide,fun y7 H7 S7 t7=>cG (t6.mono (.of S7)) t7 (small (by decide)) (fun y8 H8 S8 t8=>q _ _ (S14.trans (S5.trans (S6.trans (S7.trans S8)))) t8)⟩
 ·refine⟨_,rfl,jk,_,_,_,rfl,rfl,p8 _,rfl,_,[3,5,3,6,4,3,4],rfl,by decide +kernel,by decide +kernel,by decide +kernel,by decide,fun y5 H5 S5 t5=>cG (t4.mono (.of S5)) t5 (small (by decide)) (fun y6 H6 S6 t6=>?_)⟩
  refine⟨_,[3],rfl,by decide +kernel,by decide +kernel,by decide +kernel,by decide,fun y7 H7 S7 t7=>cG (t6.mono (.of S7)) t7 (small (by decide)) (fun y8 H8 S8 t8=>q _ _ (S14.trans (S5.trans (S6.trans (S7.trans S8)))) t8)⟩
 ·refine⟨_,rfl,jk,_,_,_,rfl,rfl,p8 _,rfl,_,[3,5,6,4,4],rfl,by decide +kernel,by decide +kernel,by decide +kernel,by decide,fun y5 H5 S5 t5=>cG (t4.mono (.of S5)) t5 (small (by decide)) (fun y6 H6 S6 t6=>?_)⟩
  refine⟨_,[3],rfl,by decide +kernel,by decide +kernel,by decide +kernel,by decide,fun y7 H7 S7 t7=>cG (t6.mono (.of S7)) t7 (small (by decide)) (fun y8 H8 S8 t8=>q _ _ (S14.trans (S5.trans (S6.trans (S7.trans S8)))) t8)⟩
 ·refine⟨_,rfl,jk,_,_,_,rfl,rfl,p8 _,rfl,_,[5,6,6,4,3,4],rfl,by decide +kernel,by decide +kernel,by decide +kernel,by decide,fun y5 H5 S5 t5=>cG (t4.mono (.of S5)) t5 (small (by decide)) (fun y6 H6 S6 t6=>?_)⟩
  refine⟨_,[3],rfl,by decide +kernel,by decide +kernel,by decide +kernel,by decide,fun y7 H7 S7 t7=>cG (t6.mono (.of S7)) t7 (small (by decide)) (fun y8 H8 S8 t8=>q _ _ (S14.trans (S5.trans (S6.trans (S7.trans S8)))) t8)⟩
 ·refine⟨_,rfl,jk,_,_,_,rfl,rfl,p8 _,rfl,_,[3,5,3,5,3,6,4,6,4,3,4],rfl,by decide +kernel,by decide +kernel,by decide +kernel,by decide,fun y5 H5 S5 t5=>cG (t4.mono (.of S5)) t5 (small (by decide)) (fun y6 H6 S6 t6=>?_)⟩
  refine⟨_,[3],rfl,by decide +kernel,by decide +kernel,by decide +kernel,by decide,fun y7 H7 S7 t7=>cG (t6.mono (.of S7)) t7 (small (by decide)) (fun y8 H8 S8 t8=>q _ _ (S14.trans (S5.trans (S6.trans (S7.trans S8)))) t8)⟩
theorem aa_ (gK:mg "range"=none) (nH:mg "reversed"=none) {eV:Value} (gA:mg "WHILE"=some eV) (eX:RelV (.int 8) eV)
  {jU:Addr}{jP:FuncData} (wA:Fun K "fork" "fork" qZ jU jP) (wz:FnOk P w K mg base CX0 34 jU jP ["yes","no"] (Gy K)) (wj:Binds K jP ["yes","no"] []) (vX:mg "fork"=some (.ref jU))
  {zf:Addr}{yN:FuncData} (Yp:Fun K "while_gone" "while_gone" jH zf yN) (Yk:FnOk P w K mg base CX0 34 zf yN [] (jY K vM)) (X3:Binds K yN [] []) (Ww:mg "while_gone"=some (.ref zf))
  {ux:Addr}{uf:FuncData} (Qi:Fun K "nameless_gone" "nameless_gone" gY ux uf) (Qc:FnOk P w K mg base CX0 34 ux uf [] (jY K Gp)) (PJ:Binds K uf [] []) (Pj:mg "nameless_gone"=some (.ref ux))
  {Jd:Addr}{Ih:FuncData} (aei:Fun K "gone_of" "gone_of" pW Jd Ih) (ad_:FnOk P w K mg base CX0 34 Jd Ih ["sort"] (Vo K)) (adW:Binds K Ih ["sort"] []) (ady:mg "gone_of"=some (.ref Jd))
  {bQ:Addr}{bO:FuncData} (bW:Fun K "plains" "plains" fC bQ bO) (bV:FnOk P w K mg base CX0 34 bQ bO ["names"] (jG K)) (bU:Binds K bO ["names"] []) (bR:mg "plains"=some (.ref bQ))
  (F:Fun K "by_sort" "by_sort" pX f fd):FnOk P w K mg base CX0 35 f fd [] (jY K (cF 8)):=by
 refine okQ F wX (fun vs H Q E h=>?_) (fun cdv A outer s H vs Q E hr h=>?_)
 ·obtain⟨rfl,_⟩:=h
  rfl
 obtain⟨rfl,q⟩:=h
 refine⟨_,(aA (bN (i:=0) wX.nd rfl (Or.inl rfl) (bA (aj (aF wz hr rfl vX wA.kp wj .nil pass0 (aj (lN Qc hr rfl Pj Qi.kp PJ .nil pass0) (aj (lN Yk hr rfl Ww Yp.kp X3 .nil pass0) ak))) ak)))
   (aA (BR PassesOwn.never rfl (agk rfl gK rfl nH (aj (bC (v:=.int 8) rfl gA eX) ak)) (uI (i:=1) wX.nd rfl (Or.inl rfl)) (aD (bN (i:=0) wX.nd rfl (Or.inl rfl) (bA (aj (aF wz hr rfl vX wA.kp wj .nil pass0 (aj (aW bH (aF bV hr rfl bR bW.kp bU .nil pass0 (aj eO ak)) (qv 0)) (aj (aF ad_ hr rfl ady aei.kp adW .nil pass0 (aj (qv 1) ak)) ak))) ak)))))
   (aD (aV (qv 0))))),?_⟩
 refine⟨rfl,fun y1 H1 S1 t1=>⟨rfl,fun y2 H2 S2 t2=>⟨_,_,_,_,rfl,t1.mono (.of S2),t2,⟨by decide,by decide⟩,⟨by decide,by decide⟩,fun y3 H3 S3 t3=>⟨(by show 1≤sizeLine; decide),fun p4 g4=>?_⟩⟩⟩⟩
 obtain⟨S4,t4⟩:=cA (K:=K) g4 (fj t3)
 refine⟨rfl,?_⟩
 refine afq (fun i σ' H'=>∃ v o,σ'=[some v,o]∧Same H H'∧TR K H' (.node (cF i)) v) ?_ ?_ ?_
 ·exact⟨_,_,rfl,S1.trans (S2.trans (S3.trans S4)),t4⟩
 ·rintro i σ' H' hi ⟨v,o,rfl,S,ht⟩
  dsimp only [gName]
  have hl1:(cF i).length=1:=by cases i <;> rfl
  refine⟨_,[5,3],rfl,by decide +kernel,by decide +kernel,by decide +kernel,by decide,fun y5 H5 S5 t5=>⟨_,rfl,cG t5 (ht.mono (.of S5)) (small (by rw [hl1]; decide)) (fun y6 H6 S6 t6=>?_)⟩⟩
  refine⟨_,rfl,7 - i,(by show [V.int (7 - (i:Int))]=_; rw [show (((7 - i:Nat):Int))=7 - (i:Int) by lia]),by lia,fun y7 H7 S7 t7=>?_⟩
  have bi:=ahB i (by lia)
  have bg:=aiO (7 - i) (by lia)
  refine⟨_,_,_,_,rfl,t6.mono (.of S7),t7,bi,bg,fun y8 H8 S8 t8=>⟨(by show 1≤sizeLine; decide),fun p9 g9=>?_⟩⟩
  obtain⟨S9,t9⟩:=cA (K:=K) g9 (fj t8)
  exact⟨_,_,rfl,S.trans (S5.trans (S6.trans (S7.trans (S8.trans S9)))),t9⟩
 ·rintro σ' H' ⟨v,o,rfl,S,ht⟩
  exact⟨_,rfl,q _ _ S ht⟩
theorem aa4
  {bQ:Addr}{bO:FuncData} (bW:Fun K "plains" "plains" fC bQ bO) (bV:FnOk P w K mg base CX0 35 bQ bO ["names"] (jG K)) (bU:Binds K bO ["names"] []) (bR:mg "plains"=some (.ref bQ))
  {Je:Addr}{Ii:FuncData} (aej:Fun K "by_sort" "by_sort" pX Je Ii) (aea:FnOk P w K mg base CX0 35 Je Ii [] (jY K (cF 8))) (adX:Binds K Ii [] []) (adz:mg "by_sort"=some (.ref Je))
  {jU:Addr}{jP:FuncData} (wA:Fun K "fork" "fork" qZ jU jP) (wz:FnOk P w K mg base CX0 35 jU jP ["yes","no"] (Gy K)) (wj:Binds K jP ["yes","no"] []) (vX:mg "fork"=some (.ref jU))
  (F:Fun K "stepped" "stepped" pO f fd):FnOk P w K mg base CX0 36 f fd [] (jY K eY):=by
 refine okQ F Dd (fun vs H Q E h=>?_) (fun cdv A outer s H vs Q E hr h=>?_)
 ·obtain⟨rfl,_⟩:=h
  rfl
 obtain⟨rfl,q⟩:=h
 refine⟨_,(aA (bN (i:=0) Dd.nd rfl (Or.inl rfl) (aW bH (aF bV hr rfl bR bW.kp bU .nil pass0 (aj eO ak)) (lN aea hr rfl adz aej.kp adX .nil pass0)))
   (aA (bN (i:=1) Dd.nd rfl (Or.inl rfl) (aF bV hr rfl bR bW.kp bU .nil pass0 (aj eO ak)))
   (aD (aV (aW bH (aF bV hr rfl bR bW.kp bU .nil pass0 (aj eO ak)) (bA (aj (aF wz hr rfl vX wA.kp wj .nil pass0 (aj (qv 0) (aj (qv 1) ak))) ak))))))),?_⟩
 refine⟨_,[5,5],rfl,by decide +kernel,by decide +kernel,by decide +kernel,by decide,fun y1 H1 S1 t1=>⟨rfl,fun y2 H2 S2 t2=>cG (t1.mono (.of S2)) t2 (small (by decide)) (fun y3 H3 S3 t3=>?_)⟩⟩
 have S13:=S1.trans (S2.trans S3)
 refine⟨_,[1],rfl,by decide +kernel,by decide +kernel,by decide +kernel,by decide,fun y4 H4 S4 t4=>?_⟩
 refine⟨_,[5],rfl,by decide +kernel,by decide +kernel,by decide +kernel,by decide,fun y5 H5 S5 t5=>⟨_,rfl,_,rfl,_,_,_,_,rfl,t3.mono (.of (S4.trans S5)),t4.mono (.of S5),⟨by decide +kernel,by decide +kernel⟩,⟨by decide,by decide⟩,fun y6 H6 S6 t6=>⟨(by show 1≤sizeLine; decide),fun p7 g7=>?_⟩⟩⟩
 obtain⟨S7,t7⟩:=cA (K:=K) g7 (fj t6)
 exact cG (t5.mono (.of (S6.trans S7))) t7 (small (by decide)) (fun y8 H8 S8 t8=>q _ _ (S13.trans (S4.trans (S5.trans (S6.trans (S7.trans S8))))) t8)
theorem Wb
  {Yb:Addr}{XD:FuncData} (ajP:Fun K "loop" "loop" yq Yb XD) (ajM:FnOk P w K mg base CX0 36 Yb XD ["body"] (acP K)) (ajF:Binds K XD ["body"] []) (aiy:mg "loop"=some (.ref Yb))
  {IW:Addr}{H_:FuncData} (aec:Fun K "stepped" "stepped" pO IW H_) (ad4:FnOk P w K mg base CX0 36 IW H_ [] (jY K eY)) (adQ:Binds K H_ [] []) (adq:mg "stepped"=some (.ref IW))
  {bQ:Addr}{bO:FuncData} (bW:Fun K "plains" "plains" fC bQ bO) (bV:FnOk P w K mg base CX0 36 bQ bO ["names"] (jG K)) (bU:Binds K bO ["names"] []) (bR:mg "plains"=some (.ref bQ))
  (F:Fun K "from_head" "from_head" lK f fd):FnOk P w K mg base CX0 37 f fd [] (jY K bK):=by
 refine okQ F VD (fun vs H Q E h=>?_) (fun cdv A outer s H vs Q E hr h=>?_)
 ·obtain⟨rfl,_⟩:=h
  rfl
 obtain⟨rfl,q⟩:=h
 refine⟨_,(aD (aV (aW bH (bA (aj (aF ajM hr rfl aiy ajP.kp ajF .nil pass0 (aj (lN ad4 hr rfl adq aec.kp adQ .nil pass0) ak)) ak)) (aF bV hr rfl bR bW.kp bU .nil pass0 (aj eO ak))))),?_⟩
 refine⟨rfl,fun y1 H1 S1 t1=>⟨_,_,rfl,t1,by decide +kernel,by decide +kernel,fun y2 H2 S2 t2=>⟨(by show 1≤sizeLine; decide),fun p3 g3=>?_⟩⟩⟩
 obtain⟨S3,t3⟩:=cA (K:=K) g3 (fj t2)
 refine⟨_,[1,5,3,1],rfl,by decide +kernel,by decide +kernel,by decide +kernel,by decide,fun y4 H4 S4 t4=>cG (t3.mono (.of S4)) t4 (small (by decide)) (fun y5 H5 S5 t5=>q _ _ (S1.trans (S2.trans (S3.trans (S4.trans S5)))) t5)⟩
theorem Uk
  {Jb:Addr}{Ie:FuncData} (aef:Fun K "opening" "opening" pR Jb Ie) (ad7:FnOk P w K mg base CX0 37 Jb Ie [] (jY K afQ)) (adT:Binds K Ie [] []) (adv:mg "opening"=some (.ref Jb))
  {Bh:Addr}{Aw:FuncData} (ZF:Fun K "from_head" "from_head" lK Bh Aw) (Zu:FnOk P w K mg base CX0 37 Bh Aw [] (jY K bK)) (Zj:Binds K Aw [] []) (Y8:mg "from_head"=some (.ref Bh))
  (F:Fun K "selfrunner" "selfrunner" jJ f fd):FnOk P w K mg base CX0 38 f fd [] (jY K cT):=by
 refine okQ F Uc (fun vs H Q E h=>?_) (fun cdv A outer s H vs Q E hr h=>?_)
 ·obtain⟨rfl,_⟩:=h
  rfl
 obtain⟨rfl,q⟩:=h
 refine⟨_,(aD (aV (aW bH (lN ad7 hr rfl adv aef.kp adT .nil pass0) (lN Zu hr rfl Y8 ZF.kp Zj .nil pass0)))),?_⟩
 exact⟨rfl,fun y1 H1 S1 t1=>⟨rfl,fun y2 H2 S2 t2=>cG (t1.mono (.of S2)) t2 (small (by decide)) (fun y3 H3 S3 t3=>q _ _ (S1.trans (S2.trans S3)) t3)⟩⟩
theorem YS
  {n8:Addr}{nP:FuncData} (Fo:Fun K "lay" "lay" vA n8 nP) (Fi:FnOk P w K mg base CX0 32 n8 nP ["tree"] (Oh K)) (Ep:Binds K nP ["tree"] []) (Dy:mg "lay"=some (.ref n8))
  {bQ:Addr}{bO:FuncData} (bW:Fun K "plains" "plains" fC bQ bO) (bV:FnOk P w K mg base CX0 32 bQ bO ["names"] (jG K)) (bU:Binds K bO ["names"] []) (bR:mg "plains"=some (.ref bQ))
  (F:Fun K "lay_made" "lay_made" nj f fd):FnOk P w K mg base CX0 33 f fd [] (jY K (Dc [])):=by
 refine okQ F YB (fun vs H Q E h=>?_) (fun cdv A outer s H vs Q E hr h=>?_)
 ·obtain⟨rfl,_⟩:=h
  rfl
 obtain⟨rfl,q⟩:=h
 refine⟨_,(aD (aV (aW bH (bA (aj (aF Fi hr rfl Dy Fo.kp Ep .nil pass0 (aj (bA ak) ak)) ak)) (aF bV hr rfl bR bW.kp bU .nil pass0 (aj eO ak))))),?_⟩
 refine⟨Nat.zero_le _,fun p1 g1=>?_⟩
 obtain⟨S1,t1⟩:=cA (K:=K) (ts:=[]) g1 (bJ.mpr rfl)
 refine⟨_,leaf,rfl,t1,by decide,by decide,fun y2 H2 S2 t2=>⟨(by show 1≤sizeLine; decide),fun p3 g3=>?_⟩⟩
 obtain⟨S3,t3⟩:=cA (K:=K) g3 (fj t2)
 refine⟨_,[4],rfl,by decide +kernel,by decide +kernel,by decide +kernel,by decide,fun y4 H4 S4 t4=>cG (t3.mono (.of S4)) t4 (small (by decide)) (fun y5 H5 S5 t5=>q _ _ (S1.trans (S2.trans (S3.trans (S4.trans S5)))) t5)⟩
theorem V_
  {bQ:Addr}{bO:FuncData} (bW:Fun K "plains" "plains" fC bQ bO) (bV:FnOk P w K mg base CX0 33 bQ bO ["names"] (jG K)) (bU:Binds K bO ["names"] []) (bR:mg "plains"=some (.ref bQ))
  {Ey:Addr}{Ek:FuncData} (acq:Fun K "lay_made" "lay_made" nj Ey Ek) (aci:FnOk P w K mg base CX0 33 Ey Ek [] (jY K (Dc []))) (ab5:Binds K Ek [] []) (abl:mg "lay_made"=some (.ref Ey))
  (F:Fun K "selfmaker" "selfmaker" lH f fd):FnOk P w K mg base CX0 34 f fd [] (jY K (xY [])):=by
 refine okQ F Vy (fun vs H Q E h=>?_) (fun cdv A outer s H vs Q E hr h=>?_)
 ·obtain⟨rfl,_⟩:=h
  rfl
 obtain⟨rfl,q⟩:=h
 refine⟨_,(aD (aV (aW bH (aW bH (aF bV hr rfl bR bW.kp bU .nil pass0 (aj eO ak)) (lN aci hr rfl abl acq.kp ab5 .nil pass0)) (aF bV hr rfl bR bW.kp bU .nil pass0 (aj eO ak))))),?_⟩
 refine⟨_,[2],rfl,by decide +kernel,by decide +kernel,by decide +kernel,by decide,fun y1 H1 S1 t1=>⟨rfl,fun y2 H2 S2 t2=>cG (t1.mono (.of S2)) t2 (small (by decide)) (fun y3 H3 S3 t3=>?_)⟩⟩
 refine⟨_,[4],rfl,by decide +kernel,by decide +kernel,by decide +kernel,by decide,fun y4 H4 S4 t4=>cG (t3.mono (.of S4)) t4 (small (by decide)) (fun y5 H5 S5 t5=>q _ _ (S1.trans (S2.trans (S3.trans (S4.trans S5)))) t5)⟩
theorem YM
  {n8:Addr}{nP:FuncData} (Fo:Fun K "lay" "lay" vA n8 nP) (Fi:FnOk P w K mg base CX0 31 n8 nP ["tree"] (Oh K)) (Ep:Binds K nP ["tree"] []) (Dy:mg "lay"=some (.ref n8))
  (F:Fun K "selfmade" "selfmade" ni f fd):FnOk P w K mg base CX0 32 f fd ["body"] (Og K):=by
 refine okQ F Yy (fun vs H Q E h=>?_) (fun cdv A outer s H vs Q E hr h=>?_)
 ·obtain⟨x,b,rfl,_⟩:=h
  rfl
 obtain⟨x,b,rfl,hx,hb,q⟩:=h
 refine⟨_,(aD (aV (aW bH (bA (aj (aF Fi hr rfl Dy Fo.kp Ep .nil pass0 (aj (qv 0) ak)) ak)) (qv 0)))),?_⟩
 have hl:=hb.len
 refine⟨_,rfl,x,.node b,rfl,hx,by have:=hb.1; lia,by have:=hb.2; lia,fun y1 H1 S1 t1=>⟨(by show 1≤sizeLine; decide),fun p2 g2=>?_⟩⟩
 obtain⟨S2,t2⟩:=cA (K:=K) g2 (fj t1)
 exact⟨_,rfl,cG t2 (hx.mono (.of (S1.trans S2))) (small (by rw [List.length_singleton]; lia)) (fun y3 H3 S3 t3=>q _ _ (S1.trans (S2.trans S3)) t3)⟩
theorem YW
  {bQ:Addr}{bO:FuncData} (bW:Fun K "plains" "plains" fC bQ bO) (bV:FnOk P w K mg base CX0 38 bQ bO ["names"] (jG K)) (bU:Binds K bO ["names"] []) (bR:mg "plains"=some (.ref bQ))
  {zj:Addr}{yO:FuncData} (Jo:Fun K "selfrunner" "selfrunner" jJ zj yO) (Jk:FnOk P w K mg base CX0 38 zj yO [] (jY K cT)) (Iw:Binds K yO [] []) (Hr:mg "selfrunner"=some (.ref zj))
  (F:Fun K "both_run" "both_run" nu f fd):FnOk P w K mg base CX0 39 f fd ["own_made"] (TJ K):=by
 refine okQ F YD (fun vs H Q E h=>?_) (fun cdv A outer s H vs Q E hr h=>?_)
 ·obtain⟨x,m,rfl,_⟩:=h
  rfl
 obtain⟨x,m,rfl,hx,hm,q⟩:=h
 refine⟨_,(aD (aV (aW bH (aW bH (aW bH (aW bH (aW bH (aF bV hr rfl bR bW.kp bU .nil pass0 (aj eO ak)) (qv 0)) (aF bV hr rfl bR bW.kp bU .nil pass0 (aj eO ak))) (lN Jk hr rfl Hr Jo.kp Iw .nil pass0)) (aF bV hr rfl bR bW.kp bU .nil pass0 (aj eO ak))) (lN Jk hr rfl Hr Jo.kp Iw .nil pass0)))),?_⟩
 have e1:(cT:List T).length=12:=by decide
 refine⟨_,[3],rfl,by decide +kernel,by decide +kernel,by decide +kernel,by decide,fun y1 H1 S1 t1=>⟨_,rfl,cG t1 (hx.mono (.of S1)) (small (by show 1+_≤_; lia)) (fun y2 H2 S2 t2=>?_)⟩⟩
 refine⟨_,[3,4],rfl,by decide +kernel,by decide +kernel,by decide +kernel,by decide,fun y3 H3 S3 t3=>cG (t2.mono (.of S3)) t3 (small (by rw [List.length_append]; show 1+_+2≤_; lia)) (fun y4 H4 S4 t4=>?_)⟩
 refine⟨rfl,fun y5 H5 S5 t5=>cG (t4.mono (.of S5)) t5 (small (by rw [List.length_append,List.length_append,e1]; show 1+_+2+_≤_; lia)) (fun y6 H6 S6 t6=>?_)⟩
 refine⟨_,[4],rfl,by decide +kernel,by decide +kernel,by decide +kernel,by decide,fun y7 H7 S7 t7=>cG (t6.mono (.of S7)) t7 (small (by rw [List.length_append,List.length_append,List.length_append,e1]; show 1+_+2+_+1≤_; lia)) (fun y8 H8 S8 t8=>?_)⟩
 refine⟨rfl,fun y9 H9 S9 t9=>cG (t8.mono (.of S9)) t9 (small (by rw [List.length_append,List.length_append,List.length_append,List.length_append,e1]; show 1+_+2+_+1+_≤_; lia)) (fun y10 H10 S10 t10=>?_)⟩
 refine q _ _ (S1.trans (S2.trans (S3.trans (S4.trans (S5.trans (S6.trans (S7.trans (S8.trans (S9.trans S10))))))))) ?_
 rw [List.append_assoc,List.append_assoc,List.append_assoc,List.append_assoc] at t10
 exact t10
theorem Wa
  {n8:Addr}{nP:FuncData} (Fo:Fun K "lay" "lay" vA n8 nP) (Fi:FnOk P w K mg base CX0 39 n8 nP ["tree"] (Oh K)) (Ep:Binds K nP ["tree"] []) (Dy:mg "lay"=some (.ref n8))
  {EY:Addr}{Em:FuncData} (acs:Fun K "both_run" "both_run" nu EY Em) (acn:FnOk P w K mg base CX0 39 EY Em ["own_made"] (TJ K)) (ab7:Binds K Em ["own_made"] []) (abo:mg "both_run"=some (.ref EY))
  {Bf:Addr}{Ar:FuncData} (ZC:Fun K "selfmaker" "selfmaker" lH Bf Ar) (Zr:FnOk P w K mg base CX0 39 Bf Ar [] (jY K (xY []))) (Zh:Binds K Ar [] []) (Y6:mg "selfmaker"=some (.ref Bf))
  (F:Fun K "knot_body" "knot_body" lJ f fd):FnOk P w K mg base CX0 40 f fd ["text"] (Z2 K):=by
 refine okQ F VB (fun vs H Q E h=>?_) (fun cdv A outer s H vs Q E hr h=>?_)
 ·obtain⟨x,f,rfl,_⟩:=h
  rfl
 obtain⟨x,f,rfl,hx,hf,q⟩:=h
 refine⟨_,(aD (aV (aW bH (bA (aj (aF Fi hr rfl Dy Fo.kp Ep .nil pass0 (aj (qv 0) ak)) ak)) (aF acn hr rfl abo acs.kp ab7 .nil pass0 (aj (lN Zr hr rfl Y6 ZC.kp Zh .nil pass0) ak))))),?_⟩
 refine⟨_,rfl,x,.node f,rfl,hx,by have:=hf.1; lia,by have:=hf.2; lia,fun y1 H1 S1 t1=>⟨(by show 1≤sizeLine; decide),fun p2 g2=>?_⟩⟩
 obtain⟨S2,t2⟩:=cA (K:=K) g2 (fj t1)
 refine⟨rfl,fun y3 H3 S3 t3=>⟨y3,xY [],rfl,t3,by decide,fun y4 H4 S4 t4=>?_⟩⟩
 have S24:=S3.trans S4
 exact cG (t2.mono (.of S24)) t4 (small (by show 1+(bothW (xY [])).length≤_; decide)) (fun y5 H5 S5 t5=>q _ _ (S1.trans (S2.trans (S24.trans S5))) t5)
theorem agE
  {Et:Addr}{Eh:FuncData} (aco:Fun K "selfmade" "selfmade" ni Et Eh) (acg:FnOk P w K mg base CX0 40 Et Eh ["body"] (Og K)) (ab3:Binds K Eh ["body"] []) (abj:mg "selfmade"=some (.ref Et))
  {Bg:Addr}{Av:FuncData} (ZD:Fun K "knot_body" "knot_body" lJ Bg Av) (Zt:FnOk P w K mg base CX0 40 Bg Av ["text"] (Z2 K)) (Zi:Binds K Av ["text"] []) (Y7:mg "knot_body"=some (.ref Bg))
  (F:Fun K "knot" "knot" yt f fd):FnOk P w K mg base CX0 41 f fd ["text"] (acQ K):=by
 refine okQ F aga (fun vs H Q E h=>?_) (fun cdv A outer s H vs Q E hr h=>?_)
 ·obtain⟨x,f,rfl,_⟩:=h
  rfl
 obtain⟨x,f,rfl,hx,hf,q⟩:=h
 refine⟨_,(aD (aV (aF acg hr rfl abj aco.kp ab3 .nil pass0 (aj (aF Zt hr rfl Y7 ZD.kp Zi .nil pass0 (aj (qv 0) ak)) ak)))),?_⟩
 exact⟨_,rfl,x,f,rfl,hx,hf,fun y1 H1 S1 t1=>⟨y1,gQ f,rfl,t1,ajQ hf,fun y2 H2 S2 t2=>q _ _ (S1.trans S2) t2⟩⟩
theorem ae2 (cW:mg "tuple"=none) (JL:mg "zip"=none)
  (F:Fun K "added" "added" sO f fd):FnOk P w K mg base CX0 31 f fd ["one","other"] (Z4 K):=by
 refine okQ F aeH (fun vs H Q E h=>?_) (fun cdv A outer s H vs Q E hr h=>?_)
 ·obtain⟨a,b,ns,ms,rfl,_⟩:=h
  rfl
 obtain⟨a,b,ns,ms,rfl,ha,hb,hn,hm,q⟩:=h
 refine⟨_,(aD (aV (jw gD rfl cW nU (aj (ahQ rfl (uM (fr:=[]) (js:=[]) (sc:=defScope sO) rfl rfl rfl (by decide +kernel) (by decide +kernel) (by decide +kernel) (by decide +kernel) (by exact trivial) (by decide +kernel) (fun y hy=>cell_has hy)) rfl (by decide) (ac1 rfl JL (aj (qv 0) (aj (qv 1) ak))) (fun _ _ _ _ _=>(aW op_add (qv 0) (qv 1)))) ak)))),?_⟩
 refine⟨_,rfl,_,rfl,a,b,_,_,rfl,ha,hb,aiC (K:=K) (by lia) (by lia) ha hb (fun i j H' R r=>⟨_,rfl,_,rfl,_,_,rfl,rfl,r⟩) (fun D H' S hD=>?_)⟩
 exact⟨D,_,rfl,.inl ⟨SqL.of hD,fun l hl=>q _ _ (S.trans (same_new hl _)) (SqT.of upd_same)⟩⟩
theorem ade (JL:mg "zip"=none) (cW:mg "tuple"=none) {qC:Addr} (Mt:mg "ALWAYS"=some (.ref qC)) (Ld:∀ H,SqT K H qC [.int 2,.int 2,.int 0,.int 1,.int 2,.int 2,.int 2,.int 0,.int 0,.int 0,.int 1,.int 0,.int 1,.int 0,.int 0]) {wu:Addr} (WW:mg "EACH"=some (.ref wu)) (G_:∀ H,af2 K H wu xq)
  {SX:Addr}{R_:FuncData} (ahm:Fun K "added" "added" sO SX R_) (ahj:FnOk P w K mg base CX0 31 SX R_ ["one","other"] (Z4 K)) (ahd:Binds K R_ ["one","other"] []) (agO:mg "added"=some (.ref SX))
  (F:Fun K "turned" "turned" pN f fd):FnOk P w K mg base CX0 32 f fd ["tally"] (Vg K):=by
 refine okQ F vN (fun vs H Q E h=>?_) (fun cdv A outer s H vs Q E hr h=>?_)
 ·obtain⟨a,ns,rfl,_⟩:=h
  rfl
 obtain⟨a,ns,rfl,ha,hn,q⟩:=h
 refine⟨_,(aA (bN (i:=1) vN.nd rfl (Or.inl rfl) (bC (v:=.ref qC) rfl Mt rfl))
   (aA (BR PassesOwn.never rfl (ac1 rfl JL (aj (qv 0) (aj (bC (v:=.ref wu) rfl WW rfl) ak))) (ahN rfl (V1 (uI (i:=2) vN.nd rfl (Or.inr rfl)) (V1 (uI (i:=3) vN.nd rfl (Or.inl rfl)) agl))) (aD (bN (i:=1) vN.nd rfl (Or.inl rfl) (aF ahj hr rfl agO ahm.kp ahd .nil pass0 (aj (qv 1) (aj (jw gD rfl cW nU (aj (JC rfl (uM (fr:=["times"]) (js:=[2]) (sc:=defScope pN) rfl rfl rfl (by decide +kernel) (by decide +kernel) (by decide +kernel) (by decide +kernel) (by exact⟨⟨rfl,rfl,rfl⟩,trivial⟩) (by decide +kernel) (fun y hy=>cell_has hy)) (ac2 (qv 3)) (fun _ _ _ _ _=>(aW tM (qv 1) (qv 0)))) ak)) ak))))))
   (aD (aV (qv 1))))),?_⟩
 obtain⟨ys,hy,hr2⟩:=G_ H
 have hyl:=hr2.length
 have e15:xq.length=15:=rfl
 refine⟨_,rfl,a,wu,_,_,rfl,ha,hy,?_⟩
 refine agY (K:=K) (xs:=ns.map nv) (ys:=ys) (fun i σ' H'=>∃ p o2 o3,σ'=[some (.ref a),some (.ref p),o2,o3]∧Same H H'∧SqT K H' p ((zY (ns.take i) xq xR).map nv)) ?_ (by rw [List.length_map]; lia) ?_ ?_ ?_
 ·exact⟨qC,_,_,rfl,Same.refl _,(show SqT K H qC (xR.map nv) from Ld _)⟩
 ·rintro i σ' H' _ ⟨p,o2,o3,rfl,S,hp⟩
  exact⟨dM (.of S) ha,dM (.of S) hy⟩
 ·rintro i x y σ' H' p2 hx hyi ⟨p,o2,o3,rfl,S,hp⟩ g2
  have S2:=same_new g2 (.tup [x,y])
  have hi:i<ns.length:=by have:=(List.getElem?_eq_some_iff.mp hx).1; rw [List.length_map] at this; exact this
  have en:ns[i]?=some ns[i]:=List.getElem?_eq_getElem hi
  rw [List.getElem?_map,en] at hx
  cases hx
  obtain⟨r,er,b,rfl,hb⟩:=hr2.get hyi
  refine⟨p2,_,rfl,SqT.of upd_same,rfl,_,_,rfl,_,_,rfl,rfl,?_⟩
  have hrl:=DY r (List.mem_of_getElem? er)
  have hb':=dM (.of (S.trans S2)) hb
  refine⟨_,rfl,_,rfl,b,rfl,⟨_,hb'⟩,aiB (K:=K) (ns:=r) (f:=(ns[i] * ·)) (by lia) hb' (fun j H3 R hj r1=>?_) (fun D H3 S3 hD=>?_)⟩
  ·have hle:=ag3 r (List.mem_of_getElem? er) j hj
   have big:(2 ^ 64:Int)=18446744073709551616:=by decide
   refine⟨_,rfl,_,rfl,_,_,rfl,rfl,.inr ⟨by lia,by lia⟩,?_⟩
   show R (V.int ((ns[i]:Int) * (j:Int))) H3
   rw [show V.int ((ns[i]:Int) * (j:Int))=nv (ns[i] * j) from congrArg V.int (Int.natCast_mul _ _).symm]
   exact r1
  ·refine⟨D,_,rfl,.inl ⟨SqL.of hD,fun l hl=>⟨p,l,_,_,rfl,dM (.of (S2.trans (S3.trans (same_new hl _)))) hp,SqT.of upd_same,KR DY rfl,by rw [List.length_map]; exact hrl,fun p4 H4 S4 hp4=>?_⟩⟩⟩
   exact⟨p4,_,_,rfl,S.trans (S2.trans (S3.trans ((same_new hl _).trans S4))),by rw [Tw en er]; exact hp4⟩
 ·rintro σ' H' ⟨p,o2,o3,rfl,S,hp⟩
  rw [List.length_map,List.take_of_length_le (Nat.le_refl _)] at hp
  exact⟨_,rfl,q p H' S hp⟩
end
end fY
namespace fY
open PySem PySem.Spec PyProof.Rows L2 Sw
section
variable {P:Program}{w:World}{K:PySem.W.Frag}{mg:Str→Option Value}{base:Heap}{f:Addr}{fd:FuncData}
theorem ahu {t u:TT}{σ:Sg}{H:Hp}{Q:Bool→Hp→Prop}{b1 b2:Bool} (h1:∀ R:Bool→Hp→Prop,R b1 H→t σ H R) (h2:b1=true→∀ R:Bool→Hp→Prop,R b2 H→u σ H R) (q:∀ b,Q b H):U9 t u σ H Q:=by
 refine h1 _ ?_
 cases b1 with
 | false=>exact iteF (q false)
 | true=>exact iteT (h2 rfl _ (q b2))
theorem afN {t u:TT}{σ:Sg}{H:Hp}{Q:Bool→Hp→Prop}{b1 b2:Bool} (h1:∀ R:Bool→Hp→Prop,R b1 H→t σ H R) (h2:∀ R:Bool→Hp→Prop,R b2 H→u σ H R) (q:∀ b,Q b H):tOr t u σ H Q:=by
 refine h1 _ ?_
 cases b1 with
 | true=>exact iteT (q true)
 | false=>exact iteF (h2 _ (q b2))
theorem Hy {c:Bool}{A B:Prop} (h:c=false) (k:B):if c=true then A else B:=by subst h; exact k
theorem MN {c:Bool}{A B:Prop} (h:c=true) (k:A):if c=true then A else B:=by subst h; exact k
theorem adD {tc:TT}{tb te:TS}{u:TS}{D:Ends}{σ:L2.St}{H:Hp} (P:L2.St→Hp→Prop) (k:∀ σ' H',P σ' H'→u D σ' H') (h:∀ N:L2.St→Hp→Prop,(∀ σ' H',P σ' H'→N σ' H')→tIfS tc tb te { D with nx:=N } σ H):tSeq (tIfS tc tb te) u D σ H:=h _ k
inductive Few:T→Prop
 | mk {t:T} (h:t.kids.length≤3) (g:∀ w∈t.kids,Few w):Few t
theorem Xe:Few (.node []):=.mk (by decide) fun w hw=>by cases hw
theorem Few.sort {t:T} (h:Few t):aJ t≤3:=by
 rw [Vt]
 cases h with
 | mk h1 g =>
  cases hk:t.kids with
  | nil=>show min 9 (leaf.kids.length)≤3; decide
  | cons a b =>
   have ga:=g a (by rw [hk]; exact List.mem_cons_self)
   cases ga with
   | mk h2 _=>show min 9 a.kids.length≤3; lia
def Wu (t:T):Prop:=aJ t≠7∧aJ t≠8
theorem Jx (c:Nat) (l:List T):aJ (.node ([dh c]++l))=min 9 c:=by
 show min 9 (dh c).kids.length=_
 unfold dh
 show min 9 (List.replicate c (T.node [])).length=_
 rw [List.length_replicate]
def ajJ (d:Nat) (t:T):Prop:=ShT d t∧Few t
def aqX (d:Nat) (t:T):Prop:=B (45+2 * d) (pbW d) t
def ajI (d:Nat) (t:T):Prop:=aqX d t∧(d=0→Wu t)
def aqW (d:Nat) (t:T):Prop:=B (46+2 * d) (1+4 * pbW d) t∧t.kids.length≤41
def aqV (d:Nat) (t:T):Prop:=aqW d t∧(d=0→t.kids.length≤4)∧(d=0→∀ w∈t.kids,Wu w∧B 50 100 w)
def QD (K:PySem.W.Frag) (n:Nat):Sp:=fun vs H Q _=>∃ (p:Addr) (d:Nat),vs=[.ref p,.int (d:Int)]∧d≤n∧vp H p∧∀ y t H',Dr p H H'→TR K H' t y→ajJ d t→Q y H'
def ZP (K:PySem.W.Frag) (n:Nat):Sp:=fun vs H Q _=>∃ (p:Addr) (d:Nat),vs=[.ref p,.int (d:Int)]∧d<n∧vp H p∧∀ y t H',Dr p H H'→TR K H' t y→ajI d t→Q y H'
def ZQ (K:PySem.W.Frag) (n:Nat):Sp:=fun vs H Q _=>∃ (p:Addr) (d:Nat),vs=[.ref p,.int (d:Int)]∧d<n∧vp H p∧∀ y t H',Dr p H H'→TR K H' t y→aqV d t→Q y H'
def aaR (K:PySem.W.Frag):Sp:=fun vs H Q _=>∃ p:Addr,vs=[.ref p]∧vp H p∧∀ y ts H',Dr p H H'→TR K H' (.node ts) y→B 41 41 (.node ts)→Q y H'
theorem Tt {K:PySem.W.Frag}{H:Hp}:∀ {ts:List T}{vs:List V} (k:Nat),TRs K H ts vs→TRs K H (ts.take k) (vs.take k)
 | [],_,k,h=>by rw [bJ.mp h]; rw [List.take_nil,List.take_nil]; exact bJ.mpr rfl
 | t::ts,_,0,h=>by rw [List.take_zero,List.take_zero]; exact bJ.mpr rfl
 | t::ts,_,k+1,h=>by
  obtain⟨v,ws,rfl,h1,h2⟩:=cH.mp h
  rw [List.take_succ_cons,List.take_succ_cons]
  exact cH.mpr ⟨v,_,rfl,h1,Tt k h2⟩
theorem Tv {K:PySem.W.Frag}{H:Hp}:∀ {ts:List T}{vs:List V} (k:Nat),TRs K H ts vs→TRs K H (ts.drop k) (vs.drop k)
 | [],_,k,h=>by rw [bJ.mp h]; rw [List.drop_nil,List.drop_nil]; exact bJ.mpr rfl
 | t::ts,_,0,h=>h
 | t::ts,_,k+1,h=>by
  obtain⟨v,ws,rfl,h1,h2⟩:=cH.mp h
  rw [List.drop_succ_cons,List.drop_succ_cons]
  exact Tv k h2
def Vm (K:PySem.W.Frag):Sp:=fun vs H Q _=>∃ x us,vs=[x]∧TR K H (.node us) x∧us.length≤100000∧∀ y H',Same H H'→TR K H' (aU 0 us) y→Q y H'
def Vi (K:PySem.W.Frag):Sp:=fun vs H Q _=>∃ n:Nat,vs=[.int (n:Int)]∧n≤100∧∀ y H',Same H H'→TR K H' (W n) y→Q y H'
def Vp (K:PySem.W.Frag):Sp:=fun vs H Q _=>∃ x ws,vs=[x]∧TR K H (.node ws) x∧ws.length≤1000∧∀ y H',Same H H'→TR K H' (.node (cj ws)) y→Q y H'
def Mk2 (way:Int) (ts:List T):Prop:=(way=0→∃ ws,ts=cj ws∧(∀ w∈ws,Wu w∧B 50 100 w)∧ws.length≤4)∧(way=1→∃ ws,ts=[aU 0 (cj ws)]∧(∀ w∈ws,Wu w∧B 50 100 w)∧ws.length≤4)∧(way=2→ts=cD)∧(3≤way→(∀ w∈ts,w.parts≤2200)∨∃ t1 t2,ts=[.node [dh 7,.node [aU 0 t1],aU 0 t2]]∧B 48 2169 (.node t1)∧B 48 2169 (.node t2))
def Vl (K:PySem.W.Frag):Sp:=fun vs H Q _=>∃ (p:Addr) (way:Int),vs=[.ref p,.int way]∧0≤way∧way≤10∧vp H p∧∀ y ts H',Dr p H H'→TR K H' (.node ts) y→B 60 4400 (.node ts)→Mk2 way ts→Q y H'
theorem zX {a b:Nat}{us:List T} (h:B a b (.node us)):B (max 2 a) (1+b) (aU 0 us):=(cR (qH 0) h).le (by lia) (by lia)
theorem B_W (n:Nat):B 2 (2+n) (W n):=(jo (qH n)).le (by lia) (by lia)
theorem ael {a b:Nat}{ws:List T} (h:B a b (.node ws)):B (max a 3) (b+14) (.node (cj ws)):=(rK (show B 3 14 (.node [aU 0 [leaf],aU 8 []]) from ⟨by decide,by decide⟩) h).le (by lia) (by lia)
theorem Wd (gj:mg "len"=none) (gK:mg "range"=none) (wZ:mg "min"=none)
  (F:Fun K "_law_deck" "_law_deck" lM f fd):FnOk P w K mg base CX0 32 f fd ["_law_script"] (acR K):=by
 refine okQ F fB (fun vs H Q E h=>?_) (fun cdv A outer s H vs Q E hr h=>?_)
 ·obtain⟨a,ns,rfl,_⟩:=h
  rfl
 obtain⟨a,ns,rfl,hl,h63,q⟩:=h
 refine⟨_,(aA (bN (i:=1) fB.nd rfl (Or.inl rfl) (oH ak))
   (aA (cg (QW.pt (BP (aZ wY (cO call_len_seq rfl gj oN (aj (qv 0) ak)) aH (nomark _)) (xM (aZ op_eq (aW op_mod (gB ix_list (qv 0) aH (fun _ _=>rfl)) aH) aH (nomark _))))) (aA (BR PassesOwn.never rfl (aac (nD Jz (qv 0) (oY aH) (oY aH))) (uI (i:=2) fB.nd rfl (Or.inl rfl)) (aA (bN (i:=3) fB.nd rfl (Or.inl rfl) (aW op_mod (qv 2) (aW ah_ aH aH)))
   (aD (BR PassesOwn.never rfl (vW rfl gK (aj aH ak)) (uI (i:=4) fB.nd rfl (Or.inl rfl)) (aD (cg (QW.pt (aaY (aZ op_eq (qv 4) aH (nomark _)) (VR (aZ wY (qv 3) aH (nomark _))))) (aA (cU (gC PySem.F.plainAttrs_list PySem.F.slot_list_append PySem.F.type_list_append cV (qv 1) (aj (aW op_mod (qv 3) aH) ak)))
   (aD (bN (i:=3) fB.nd rfl (Or.inl rfl) (aW aeW (qv 3) aH)))) bL))))))
   (aD (aV (nD Jz (qv 1) sS (oY aH))))) bL)
   (aA (BR PassesOwn.never rfl (vW rfl gK (aj aH ak)) (uI (i:=4) fB.nd rfl (Or.inl rfl)) (aA (bN (i:=2) fB.nd rfl (Or.inl rfl) (aW tM aH (qv 4)))
   (aA (cg (aZ wY (cO call_len_seq rfl gj oN (aj (qv 0) ak)) aH (nomark _)) (aD (bN (i:=2) fB.nd rfl (Or.inl rfl) (aW op_mod (gB ix_list (qv 0) (aW op_mod (qv 4) (cO (Ir rfl) rfl wZ XR (aj aH (aj (cO call_len_seq rfl gj oN (aj (qv 0) ak)) ak)))) (fun _ _=>rfl)) aH))) bL)
   (aA (bN (i:=3) fB.nd rfl (Or.inl rfl) (aW op_mod (aW op_add (aW op_add (aW tM (qv 2) aH) (aW tM aH (qv 4))) aH) aH))
   (aA (bN (i:=3) fB.nd rfl (Or.inl rfl) (aW op_mod (aW op_add (aW tM (qv 3) (aW op_add (aW op_fdiv (qv 3) aH) (qv 4))) (aW tM aH (qv 4))) aH))
   (aD (cU (gC PySem.F.plainAttrs_list PySem.F.slot_list_append PySem.F.type_list_append cV (qv 1) (aj (aW op_mod (aW op_add (aW tM (qv 3) aH) (aW op_fdiv (qv 3) aH)) aH) ak)))))))))
   (aD (aV (qv 1)))))),?_⟩
 have big:(2 ^ 64:Int)=18446744073709551616:=by decide
 refine⟨Nat.zero_le _,fun p1 g1=>?_⟩
 have S1:=same_new g1 (.lst [])
 have hl1:=S1.seq hl
 have hlen:(ns.map V.int).length=ns.length:=List.length_map ..
 dsimp only [tNext,tSeq,tIfS]
 refine ahu (b1:=decide ((1:Int)<((ns.map V.int).length:Int))) (b2:=decide (V.int ((ns.getD 0 0) % 2)=V.int 1)) (fun R r=>⟨_,rfl,a,_,rfl,.inl hl1,_,_,rfl,rfl,_,rfl,r⟩) (fun h2 R r=>?_) (fun bb=>ite2 (fun _=>?_) (fun _=>?_))
 ·have h3:1<ns.length:=by have:=of_decide_eq_true h2; rw [hlen] at this; lia
  have e0:atI (ns.map V.int) 0=some (.int (ns.getD 0 0)):=atI_nat (j:=0) (by rw [List.getElem?_map,List.getElem?_eq_getElem (by lia),List.getD_eq_getElem?_getD,List.getElem?_eq_getElem (by lia)]; rfl)
  exact⟨_,rfl,a,_,_,_,rfl,rfl,hl1,e0,_,_,rfl,rfl,(by show (0:Int)<2; decide),rfl,_,rfl,r⟩
 ·refine⟨_,rfl,1,rfl,63,rfl,a,_,rfl,hl1,fun p2 g2=>?_⟩
  obtain⟨k,ek⟩:=ag5 (ns.map V.int) 1 63
  have ek':iK (ns.map V.int) (some 1) (some 63)=((ns.map V.int).drop (min 1 (ns.map V.int).length)).take k:=ek
  have hint:∀ x∈iK (ns.map V.int) (some 1) (some 63),∃ z,x=.int z:=fun x hx=>by
   rw [ek'] at hx
   have hx:=List.mem_of_mem_drop (List.mem_of_mem_take hx)
   obtain⟨z,_,rfl⟩:=List.mem_map.mp hx
   exact⟨z,rfl⟩
  have akt:(iK (ns.map V.int) (some 1) (some 63)).length≤63:=by
   rw [ek',List.length_take,List.length_drop,hlen]
   lia
  have n12:p2≠p1:=fun z=>by rw [z,upd_same] at g2; cases g2
  have gH1:H p1=none:=g1
  generalize iK (ns.map V.int) (some 1) (some 63)=cs at hint akt
  refine⟨p2,rfl,⟨_,SqL.of upd_same⟩,?_⟩
  refine for_list (xs:=cs) (fun i σ' H'=>∃ (ds:List Int) (o2 o3 o4:Option V),σ'=[some (.ref a),some (.ref p1),o2,o3,o4]∧Same H H'∧H' p1=some (.lst (ds.map V.int))∧H' p2=some (.lst cs)∧ds.length≤60 * i) ?_ ?_ ?_ ?_
  ·exact⟨[],_,_,_,rfl,S1.trans (same_new g2 _),by rw [upd_ne n12.symm]; exact upd_same,upd_same,Nat.zero_le _⟩
  ·rintro i σ' H' _ ⟨ds,o2,o3,o4,rfl,S,h1,h2,_⟩
   exact SqL.of h2
  ·rintro i x σ' H' hx ⟨ds,o2,o3,o4,rfl,S,h1,h2,hd⟩
   obtain⟨z,rfl⟩:=hint x (List.mem_of_getElem? hx)
   have hi:i<cs.length:=(List.getElem?_eq_some_iff.mp hx).1
   refine⟨_,rfl,_,_,rfl,rfl,⟨by decide,by decide,by decide⟩,_,_,rfl,rfl,(by show (0:Int)<2147483647 ^ 60; decide),?_⟩
   refine⟨60,rfl,by decide,by decide,?_⟩
   refine HD (n:=60) (fun j σ'' H''=>∃ (es:List Int) (m:Int) (o4:Option V),σ''=[some (.ref a),some (.ref p1),some (.int z),some (.int m),o4]∧Same H H''∧H'' p1=some (.lst (es.map V.int))∧H'' p2=some (.lst cs)∧es.length≤60 * i+j) ?_ ?_ ?_
   ·exact⟨ds,_,_,rfl,S,h1,h2,hd⟩
   ·rintro j σ'' H'' hj ⟨es,m,o5,rfl,S',h1',h2',he⟩
    dsimp only [gName,tNext,tSeq,tIfS]
    refine afN (fun R r=>⟨_,rfl,rfl,_,rfl,r⟩) (fun R r=>⟨_,rfl,_,_,rfl,rfl,_,rfl,r⟩) (fun bb=>ite2 (fun _=>?_) (fun _=>?_))
    ·refine⟨_,rfl,.inl ⟨rfl,_,SqL.of h1'⟩,_,rfl,_,_,rfl,rfl,(by show (0:Int)<2147483647; decide),p1,_,_,rfl,rfl,h1',acS (by rw [List.length_map]; lia),?_⟩
     refine⟨_,rfl,_,_,rfl,rfl,⟨by decide,by decide +kernel⟩,es++[m % 2147483647],_,_,rfl,eG S' gH1,by rw [upd_same,List.map_append]; rfl,by rw [upd_ne n12]; exact h2',by rw [List.length_append]; show es.length+1≤_; lia⟩
    ·exact⟨es,m,_,rfl,S',h1',h2',by lia⟩
   ·rintro σ'' H'' ⟨es,m,o5,rfl,S',h1',h2',he⟩
    exact⟨es,_,_,_,rfl,S',h1',h2',by lia⟩
  ·rintro σ' H' ⟨ds,o2,o3,o4,rfl,S,h1,h2,hd⟩
   refine⟨_,rfl,150,rfl,p1,_,rfl,SqL.of h1,fun p3 g3=>q p3 _ (S.trans (same_new g3 _)) (S.free g3) ⟨ds.take 150,?_⟩⟩
   rw [upd_same,show (some (150:Int))=some ((150:Nat):Int) from rfl,XH,List.map_take]
 ·have gH1:H p1=none:=g1
  dsimp only [tNext]
  refine⟨150,rfl,by decide,by decide,?_⟩
  refine HD (n:=150) (fun i σ' H'=>∃ (ds:List Int) (o2 o3 o4:Option V),σ'=[some (.ref a),some (.ref p1),o2,o3,o4]∧Same H H'∧H' p1=some (.lst (ds.map V.int))∧ds.length=i) ?_ ?_ ?_
  ·exact⟨[],_,_,_,rfl,S1,upd_same,rfl⟩
  ·rintro i σ' H' hi ⟨ds,o2,o3,o4,rfl,S,h1,hd⟩
   have hi2:(0:Int)+(i:Int)<150:=by lia
   have hlH:=S.seq hl
   refine ji (fun v=>[some (.ref a),some (.ref p1),some v,o3,some (.int (0+(i:Int)))]) (fun _=>rfl) (fun v H''=>v=.int (3 * (0+(i:Int)))∧H''=H') (fun R r=>⟨_,rfl,_,_,rfl,rfl,.inl ⟨by decide,by decide⟩,r _ _ ⟨rfl,rfl⟩⟩) (fun v2 H2 h2=>?_)
   obtain⟨rfl,rfl⟩:=h2
   refine aiG (fun v=>[some (.ref a),some (.ref p1),some v,o3,some (.int (0+(i:Int)))]) (fun _=>rfl) (fun v H''=>∃ z:Int,v=.int z∧0≤z∧z<2147483647∧H''=H2) (.int (3 * (0+(i:Int)))) rfl (fun v3 H3 h3=>?_) (fun A B' hA hB=>⟨_,rfl,a,_,rfl,.inl hlH,_,_,rfl,rfl,_,rfl,ite2 (fun hb=>hA _ fun R r=>?_) (fun _=>hB _ ⟨_,rfl,by lia,by lia,rfl⟩)⟩)
   rotate_left
   ·have hpos:0<ns.length:=by have:=of_decide_eq_true hb; rw [hlen] at this; lia
    have hmn:(0:Int)<(if ((ns.map V.int).length:Int)<63 then ((ns.map V.int).length:Int) else 63):=by rw [hlen]; split <;> lia
    have hmx:(if ((ns.map V.int).length:Int)<63 then ((ns.map V.int).length:Int) else 63)≤(ns.length:Int):=by rw [hlen]; split <;> lia
    refine⟨_,rfl,_,rfl,_,rfl,a,_,rfl,.inl hlH,_,_,rfl,?_⟩
    generalize (if ((ns.map V.int).length:Int)<63 then ((ns.map V.int).length:Int) else 63)=mm at hmn hmx ⊢
    refine⟨_,_,rfl,rfl,hmn,?_⟩
    have j0:0≤(0+(i:Int)) % mm:=Int.emod_nonneg _ (by lia)
    have j1:(0+(i:Int)) % mm<mm:=Int.emod_lt_of_pos _ hmn
    obtain⟨z,_,ez⟩:=ajG (ns:=ns) (k:=(0+(i:Int)) % mm) j0 (by lia)
    exact⟨a,_,_,_,rfl,rfl,hlH,ez,_,_,rfl,rfl,(by show (0:Int)<2147483629; decide),r _ _ ⟨_,rfl,Int.emod_nonneg _ (by decide),Int.lt_trans (Int.emod_lt_of_pos _ (by decide)) (by decide),rfl⟩⟩
   obtain⟨z,rfl,z0,z1,rfl⟩:=h3
   refine ji (fun v=>[some (.ref a),some (.ref p1),some (.int z),some v,some (.int (0+(i:Int)))]) (fun _=>rfl) (fun v H''=>∃ m:Int,v=.int m∧0≤m∧m<2147483647∧H''=H3) (fun R r=>⟨_,rfl,_,_,rfl,rfl,.inl ⟨by lia,by lia⟩,_,rfl,_,_,rfl,rfl,.inl ⟨by decide,by decide⟩,_,_,rfl,rfl,_,_,rfl,rfl,_,_,rfl,rfl,(by show (0:Int)<2147483629; decide),r _ _ ⟨_,rfl,Int.emod_nonneg _ (by decide),Int.lt_trans (Int.emod_lt_of_pos _ (by decide)) (by decide),rfl⟩⟩) (fun v4 H4 h4=>?_)
   obtain⟨m4,rfl,m0,m1,rfl⟩:=h4
   refine ji (fun v=>[some (.ref a),some (.ref p1),some (.int z),some v,some (.int (0+(i:Int)))]) (fun _=>rfl) (fun v H''=>∃ m:Int,v=.int m∧0≤m∧m<2147483647∧H''=H4) (fun R r=>⟨_,rfl,_,rfl,_,_,rfl,rfl,⟨by decide,by decide⟩,_,rfl,_,_,rfl,rfl,_,_,rfl,rfl,.inl ⟨by lia,by lia⟩,_,rfl,_,_,rfl,rfl,.inl ⟨by decide,by decide⟩,_,_,rfl,rfl,_,_,rfl,rfl,(by show (0:Int)<2147483587; decide),r _ _ ⟨_,rfl,Int.emod_nonneg _ (by decide),Int.lt_trans (Int.emod_lt_of_pos _ (by decide)) (by decide),rfl⟩⟩) (fun v5 H5 h5=>?_)
   obtain⟨m5,rfl,n0,n1,rfl⟩:=h5
   refine⟨_,rfl,.inl ⟨rfl,_,SqL.of h1⟩,_,rfl,_,_,rfl,rfl,.inl ⟨by lia,by lia⟩,_,rfl,_,_,rfl,rfl,⟨by decide,by decide⟩,_,_,rfl,rfl,_,_,rfl,rfl,(by show (0:Int)<2147483647; decide),p1,_,_,rfl,rfl,h1,acS (by rw [List.length_map]; lia),?_⟩
   exact⟨ds++[(m5 * 69621+m5 / 127) % 2147483647],_,_,_,rfl,eG S gH1,by rw [upd_same,List.map_append]; rfl,by rw [List.length_append,hd]; rfl⟩
  ·rintro σ' H' ⟨ds,o2,o3,o4,rfl,S,h1,hd⟩
   exact⟨_,rfl,q p1 H' S gH1 ⟨ds,h1⟩⟩
theorem Wc (gj:mg "len"=none)
  (F:Fun K "_law_next" "_law_next" gR f fd):FnOk P w K mg base CX0 31 f fd ["_law_deck_here","_law_many"] Gw:=by
 refine okQ F VF (fun vs H Q E h=>?_) (fun cdv A outer s H vs Q E hr h=>?_)
 ·obtain⟨p,m,rfl,_⟩:=h
  rfl
 obtain⟨p,m,rfl,hm,hd,q⟩:=h
 refine⟨_,(aA (cg (aZ op_eq (cO call_len_seq rfl gj oN (aj (qv 0) ak)) aH (nomark _)) (aD (aV aH)) bL)
   (aD (aV (aW op_mod (gC PySem.F.plainAttrs_list PySem.F.slot_list_pop PySem.F.type_list_pop Mh (qv 0) (aj aH ak)) (qv 1))))),?_⟩
 obtain⟨ns,hp⟩:=hd
 refine⟨_,rfl,p,_,rfl,.inl (SqL.of hp),rfl,_,rfl,?_⟩
 refine ite2 (fun _=>?_) (fun hb=>?_)
 ·exact q 0 H (by lia) hm (Dr.refl ⟨ns,hp⟩)
 ·cases ns with
  | nil=>exact absurd (decide_eq_true rfl) hb
  | cons n ns =>
   refine⟨_,rfl,.inl ⟨rfl,_,SqL.of hp⟩,p,_,0,0,_,rfl,rfl,hp,by decide,by decide,?_,rfl,?_⟩
   ·rw [seqIndex_of (by decide) (by rw [List.length_map,List.length_cons]; lia)]
    rfl
   ·refine⟨_,rfl,_,_,rfl,rfl,hm,q _ _ (Int.emod_nonneg _ (by lia)) (Int.emod_lt_of_pos _ hm) ⟨fun b o nb e=>?_,⟨ns,?_⟩⟩⟩
    ·rw [upd_ne nb]; exact e
    ·rw [upd_same]; rfl
theorem Rn
  (F:Fun K "_law_leaves" "_law_leaves" fU f fd):FnOk P w K mg base CX0 31 f fd ["_law_many"] (yd K):=by
 refine okQ F QX (fun vs H Q E h=>?_) (fun cdv A outer s H vs Q E hr h=>?_)
 ·obtain⟨n,rfl,_⟩:=h
  rfl
 obtain⟨n,rfl,hn,q⟩:=h
 refine⟨_,(aD (aV (aW qd (bA (aj (bA ak) ak)) (qv 0)))),?_⟩
 refine⟨Nat.zero_le _,fun p1 hp1=>⟨(by show 1≤sizeLine; decide),fun p2 hp2=>?_⟩⟩
 have k1:upd (upd H p1 (.tup [])) p2 (.tup [.ref p1]) p1=some (.tup []):=(same_new hp2 _) _ _ upd_same
 have hbig:(2:Int) ^ 62=4611686018427387904:=by decide
 refine⟨_,rfl,p2,_,_,rfl,rfl,SqT.of upd_same,by lia,by lia,?_,fun p3 H3 S3 h3=>?_⟩
 ·rw [Int.toNat_natCast,List.length_singleton]
  exact small (by lia)
 ·rw [agf] at h3
  exact q _ _ (((same_new hp1 _).trans (same_new hp2 _)).trans S3) (vH h3 (Qt (Ci (S3 _ _ k1)) n))
theorem YZ (gK:mg "range"=none) (wZ:mg "min"=none) (gj:mg "len"=none) (cW:mg "tuple"=none)
  {cZ:Addr}{cY:FuncData} (eF:Fun K "_law_next" "_law_next" gR cZ cY) (dI:FnOk P w K mg base CX0 32 cZ cY ["_law_deck_here","_law_many"] Gw) (eE:Binds K cY ["_law_deck_here","_law_many"] []) (d8:mg "_law_next"=some (.ref cZ))
  (F:Fun K "_law_any" "_law_any" kW f fd):FnOk P w K mg base CX0 33 f fd ["_law_deck_here"] (aaR K):=by
 refine okQ F qY (fun vs H Q E h=>?_) (fun cdv A outer s H vs Q E hr h=>?_)
 ·obtain⟨p,rfl,_⟩:=h
  rfl
 obtain⟨p,rfl,hk,q⟩:=h
 refine⟨_,(aA (bN (i:=1) qY.nd rfl (Or.inl rfl) (oH ak))
   (aA (BR PassesOwn.never rfl (vW rfl gK (aj (aF dI hr rfl d8 eF.kp eE .nil pass0 (aj (qv 0) (aj aH ak))) ak)) (uI (i:=2) qY.nd rfl (Or.inl rfl)) (aA (bN (i:=3) qY.nd rfl (Or.inl rfl) (cO (Ir rfl) rfl wZ XR (aj (aF dI hr rfl d8 eF.kp eE .nil pass0 (aj (qv 0) (aj aH ak))) (aj (cO call_len_seq rfl gj oN (aj (qv 1) ak)) ak))))
   (aD (bN (i:=1) qY.nd rfl (Or.inl rfl) (aW op_cat (nD Jz (qv 1) sS (oY (aW op_sub (cO call_len_seq rfl gj oN (aj (qv 1) ak)) (qv 3)))) (oH (aj (jw gD rfl cW nU (aj (nD Jz (qv 1) (oY (aW op_sub (cO call_len_seq rfl gj oN (aj (qv 1) ak)) (qv 3))) sS) ak)) ak)))))))
   (aD (aV (jw gD rfl cW nU (aj (qv 1) ak)))))),?_⟩
 refine ji (fun v=>[some (.ref p),some v,none,none]) (fun _=>rfl) (fun v H'=>∃ l,v=.ref l∧Dr p H H'∧l≠p∧H' l=some (.lst [])) (fun R r=>⟨Nat.zero_le _,fun l g=>r _ _ ⟨l,rfl,(Dr.refl hk).upd g (abN hk g),abN hk g,upd_same⟩⟩) (fun v1 H1 h1=>?_)
 obtain⟨l0,rfl,D1,n0,hl0⟩:=h1
 refine⟨_,rfl,p,41,rfl,by decide,D1.dH,fun m H2 m0 m1 D2=>?_⟩
 obtain⟨n,rfl⟩:∃ n:Nat,m=(n:Int):=⟨m.toNat,by lia⟩
 refine⟨(n:Int),rfl,by lia,by lia,?_⟩
 refine HD (n:=n) (fun i σ' H'=>∃ (l:Addr) (vs:List V) (ts:List T) (o2 o3:Option V),σ'=[some (.ref p),some (.ref l),o2,o3]∧Dr p H H'∧l≠p∧H' l=some (.lst vs)∧TRs K H' ts vs∧T.au ts≤i∧T.bM ts≤i) ?_ ?_ ?_
 ·exact⟨l0,[],[],_,_,rfl,D1.trans D2,n0,D2.keep _ _ n0 hl0,bJ.mpr rfl,by rw [T.aR]; lia,by rw [T.aY]; lia⟩
 ·rintro i σ' H' hi ⟨l,vs,ts,o2,o3,rfl,D,nl,hl,tr,hp,hd⟩
  have hlen:=tr.length
  have hlp:=T.cQ ts
  dsimp only [gName]
  refine ji (fun v=>[some (.ref p),some (.ref l),some (.int (0+(i:Int))),some v]) (fun _=>rfl) (fun v H3=>∃ j:Nat,v=.int (j:Int)∧j≤vs.length∧Dr p H' H3) (fun R r=>⟨_,rfl,p,13,rfl,by decide,D.dH,fun f3 H3 f30 f31 D3=>⟨_,rfl,l,_,rfl,.inl (SqL.of (D3.keep _ _ nl hl)),_,_,rfl,?_⟩⟩) (fun v3 H3 h3=>?_)
  ·obtain⟨j,ej,hj⟩:∃ j:Nat,(if (vs.length:Int)<f3 then (vs.length:Int) else f3)=(j:Int)∧j≤vs.length:=by
    split
    ·exact⟨vs.length,rfl,Nat.le_refl _⟩
    ·exact⟨f3.toNat,by lia,by lia⟩
   have:=r (.int (j:Int)) H3 ⟨j,rfl,hj,D3⟩
   rw [← ej] at this
   exact this
  obtain⟨j,rfl,hj,D3⟩:=h3
  have hl3:=D3.keep _ _ nl hl
  have tr3:=tr.mono (D3.kt D.dH)
  have aiS:((vs.length:Int) - (j:Int))=((vs.length - j:Nat):Int):=by lia
  have nl3:l≠p:=nl
  refine⟨_,rfl,_,rfl,l,_,rfl,.inl (SqL.of hl3),_,rfl,_,_,rfl,rfl,_,rfl,l,_,rfl,SqL.of hl3,fun p2 g2=>?_⟩
  have e2:iK vs none (some ((vs.length:Int) - (j:Int)))=vs.take (vs.length - j):=by rw [aiS,XH]
  have e3:iK vs (some ((vs.length:Int) - (j:Int))) none=vs.drop (vs.length - j):=by rw [aiS,Nq]
  have h2:upd H3 p2 (.lst (iK vs none (some ((vs.length:Int) - (j:Int))))) p2=some (.lst (vs.take (vs.length - j))):=by rw [upd_same,e2]
  have S2:=same_new g2 (.lst (iK vs none (some ((vs.length:Int) - (j:Int)))))
  generalize upd H3 p2 (.lst (iK vs none (some ((vs.length:Int) - (j:Int)))))=H4 at h2 S2
  have hl4:=S2 _ _ hl3
  refine⟨_,rfl,_,rfl,l,_,rfl,.inl (SqL.of hl4),_,rfl,_,_,rfl,rfl,_,rfl,l,_,rfl,SqL.of hl4,fun p3 g3=>?_⟩
  have h3:upd H4 p3 (.lst (iK vs (some ((vs.length:Int) - (j:Int))) none)) p3=some (.lst (vs.drop (vs.length - j))):=by rw [upd_same,e3]
  have S3:=same_new g3 (.lst (iK vs (some ((vs.length:Int) - (j:Int))) none))
  generalize upd H4 p3 (.lst (iK vs (some ((vs.length:Int) - (j:Int))) none))=H5 at h3 S3
  refine⟨p3,_,rfl,.inl ⟨SqL.of h3,fun p4 g4=>⟨(by show 1≤sizeLine; decide),fun p5 g5=>?_⟩⟩⟩
  have tr5:TRs K H5 ts vs:=tr3.mono (.of (S2.trans S3))
  obtain⟨S4,t4⟩:=cA (K:=K) g4 (Tv (vs.length - j) tr5)
  have S5:=same_new g5 (.lst [.ref p4])
  have S25:=S3.trans (S4.trans S5)
  refine⟨p2,p5,_,_,rfl,rfl,S25 _ _ h2,upd_same,small (by rw [List.length_take]; show _+1≤_; lia),fun p6 g6=>?_⟩
  have S6:=same_new g6 (.lst (vs.take (vs.length - j)++[.ref p4]))
  have S36:=S2.trans (S25.trans S6)
  have D6:=D3.same S36
  have eL:ts.length=vs.length:=hlen.symm
  have n6:p6≠p:=abN (D3.same (S2.trans S25)).dH g6
  have ep:=T.cB (ts.take (vs.length - j)) (ts.drop (vs.length - j))
  have ed:=T.dX (ts.take (vs.length - j)) (ts.drop (vs.length - j))
  rw [List.take_append_drop] at ep ed
  refine⟨p6,_,ts.take (vs.length - j)++[.node (ts.drop (vs.length - j))],_,_,rfl,D.trans D6,n6,upd_same,?_,?_,?_⟩
  ·exact TRs.append ((Tt (vs.length - j) tr5).mono (.of (S4.trans (S5.trans S6)))) (fj (t4.mono (.of (S5.trans S6))))
  ·rw [T.cB,T.aq,T.aR,T.aL]; lia
  ·rw [T.dX,T.aK,T.aY,T.aO]; lia
 ·rintro σ' H' ⟨l,vs,ts,o2,o3,rfl,D,nl,hl,tr,hp,hd⟩
  refine⟨_,rfl,l,_,rfl,.inl ⟨SqL.of hl,fun p9 g9=>q _ ts _ (D.same (same_new g9 _)) (vH (SqT.of upd_same) (tr.mono (Kt.new g9))) ⟨by rw [T.aO]; lia,by rw [T.aL]; lia⟩⟩⟩
theorem ae3 (cW:mg "tuple"=none) (gK:mg "range"=none)
  {cZ:Addr}{cY:FuncData} (eF:Fun K "_law_next" "_law_next" gR cZ cY) (uy:FnOk P w K mg base CX0 31 cZ cY ["_law_deck_here","_law_many"] Gw) (eE:Binds K cY ["_law_deck_here","_law_many"] []) (d8:mg "_law_next"=some (.ref cZ))
  {a_t:Addr}{d_t:FuncData} (gU:Fun K "_law_tree" "_law_tree" iQ a_t d_t) (jy:Binds K d_t ["_law_deck_here","_law_deep"] []) (jx:mg "_law_tree"=some (.ref a_t)) :
  ∀ n:Nat,FnOk P w K mg base CX0 (32+n) a_t d_t ["_law_deck_here","_law_deep"] (QD K n):=by
 intro n
 induction n with
 | zero =>
  refine okQ (k:=31) gU GD (fun vs H Q E h=>?_) (fun cdv A outer s H vs Q E hr h=>?_)
  ·obtain⟨p,d,rfl,_⟩:=h
   rfl
  obtain⟨p,d,rfl,hd,hk,q⟩:=h
  refine⟨_,aA (cg (aZ op_eq (qv 1) aH (nomark _)) (aD (aV (bA ak))) bL) (aD aeL),?_⟩
  have e:d=0:=by lia
  subst e
  refine⟨_,rfl,rfl,_,rfl,ite2 (fun _=>⟨Nat.zero_le _,fun p1 hp1=>?_⟩) (fun hb=>absurd (decide_eq_true rfl) hb)⟩
  exact q _ _ _ ((Dr.refl hk).same (same_new hp1 _)) (Ci upd_same) ⟨⟨by rw [T.aO,T.aY]; lia,by rw [T.aL,T.aR]; decide⟩,Xe⟩
 | succ n ih =>
  have jz:=ih
  have dI:=uy.mono (show 31≤32+n by lia)
  refine okQ (k:=32+n) gU GD (fun vs H Q E h=>?_) (fun cdv A outer s H vs Q E hr h=>?_)
  ·obtain⟨p,d,rfl,_⟩:=h
   rfl
  obtain⟨p,d,rfl,hd,hk,q⟩:=h
  refine⟨_,(aA (cg (aZ op_eq (qv 1) aH (nomark _)) (aD (aV (bA ak))) bL)
   (aD (aV (jw gD rfl cW nU (aj (JC rfl (uM (fr:=["_law_deck_here","_law_deep"]) (js:=[0,1]) (sc:=defScope iQ) rfl rfl rfl (by decide +kernel) (by decide +kernel) (by decide +kernel) (by decide +kernel) (by exact⟨⟨rfl,rfl,rfl⟩,⟨⟨rfl,rfl,rfl⟩,trivial⟩⟩) (by decide +kernel) (fun y hy=>cell_has hy)) (vW rfl gK (aj (aF dI hr rfl d8 eF.kp eE .nil pass0 (aj (qv 0) (aj aH ak))) ak)) (fun _ _ _ _ _=>(aF jz hr rfl jx gU.kp jy .nil pass0 (aj (qv 1) (aj (aW op_sub (qv 2) aH) ak))))) ak))))),?_⟩
  refine⟨_,rfl,rfl,_,rfl,ite2 (fun hb=>?_) (fun hb=>?_)⟩
  ·have e:d=0:=by
    have:=of_decide_eq_true hb
    have:=V.int.inj this
    lia
   subst e
   refine⟨Nat.zero_le _,fun p1 hp1=>?_⟩
   exact q _ _ _ ((Dr.refl hk).same (same_new hp1 _)) (Ci upd_same) ⟨⟨by rw [T.aO,T.aY]; lia,by rw [T.aL,T.aR]; decide⟩,Xe⟩
  ·have hd0:d≠0:=fun z=>hb (by subst z; exact decide_eq_true rfl)
   obtain⟨e,rfl⟩:∃ e,d=e+1:=⟨d - 1,by lia⟩
   refine⟨_,rfl,p,4,rfl,by decide,hk,fun m H1 hm0 hm1 D1=>?_⟩
   refine⟨m,rfl,by lia,by lia,?_⟩
   have hk1:=D1.dH
   refine T3 (fun D i ys H'=>D≠p∧H1 D=none∧Dr p H1 H'∧H' D=some (.lst ys)∧ys.length=i∧∃ ts,TRs K H' ts ys∧∀ t∈ts,ajJ e t) (small (by lia)) (fun D hD=>?_) (fun D i ys H' j=>⟨j.2.2.2.1,j.2.2.2.2.1⟩) (fun D i ys H' R hi j hR=>?_) (fun D ys H' j=>?_)
   ·have hne:D≠p:=fun z=>by
     obtain⟨ns,e1⟩:=hk1
     rw [z,e1] at hD; cases hD
    exact⟨hne,hD,(Dr.refl hk1).upd hD hne,upd_same,rfl,[],bJ.mpr rfl,fun _ h=>by simp at h⟩
   ·obtain⟨hne,hD,Dh,h1,hl,ts,htr,hsh⟩:=j
    refine⟨_,rfl,_,rfl,_,_,rfl,rfl,p,e,(by show [V.ref p,V.int (((e+1:Nat):Int) - 1)]=_; rw [show ((e+1:Nat):Int) - 1=(e:Int) by lia]),by lia,Dh.dH,fun y t H3 D3 ht hs=>?_⟩
    have h3:=D3.keep D _ hne h1
    refine hR y H3 h3 ⟨hne,hD,(Dh.trans D3).upd hD hne,upd_same,by rw [List.length_append,hl]; rfl,ts++[t],?_,fun u hu=>?_⟩
    ·exact TRs.append ((htr.mono (D3.kt Dh.dH)).mono (Kt.lst h3)) (cH.mpr ⟨y,[],rfl,ht.mono (Kt.lst h3),bJ.mpr rfl⟩)
    ·rcases List.mem_append.mp hu with z | z
     ·exact hsh u z
     ·rw [List.mem_singleton.mp z]; exact hs
   ·obtain⟨hne,hD,Dh,h1,hl,ts,htr,hsh⟩:=j
    refine⟨D,ys,rfl,.inl ⟨SqL.of h1,fun p5 hp5=>?_⟩⟩
    have hlt:ts.length≤3:=by rw [← htr.length,hl]; lia
    refine q _ (.node ts) _ ((D1.trans Dh).same (same_new hp5 _)) (vH (SqT.of upd_same) (htr.mono (Kt.new hp5))) ⟨⟨?_,?_⟩,.mk (by show ts.length≤3; lia) fun w hw=>(hsh w hw).2⟩
    ·rw [T.aO]
     exact T.vG fun u hu=>by have:=(hsh u hu).1.1; lia
    ·rw [T.aL]
     have:=ac9 (b:=pbT e) hlt fun u hu=>(hsh u hu).1.2
     show _≤1+3 * pbT e
     lia
theorem adg (gK:mg "range"=none) (cW:mg "tuple"=none)
  {cZ:Addr}{cY:FuncData} (eF:Fun K "_law_next" "_law_next" gR cZ cY) (uy:FnOk P w K mg base CX0 31 cZ cY ["_law_deck_here","_law_many"] Gw) (eE:Binds K cY ["_law_deck_here","_law_many"] []) (d8:mg "_law_next"=some (.ref cZ))
  {lU:Addr}{lQ:FuncData} (gU:Fun K "_law_tree" "_law_tree" iQ lU lQ) (Yo:FnOk P w K mg base CX0 35 lU lQ ["_law_deck_here","_law_deep"] (QD K 3)) (jy:Binds K lQ ["_law_deck_here","_law_deep"] []) (jx:mg "_law_tree"=some (.ref lU))
  {cM:Addr}{cL:FuncData} (d7:Fun K "_law_leaves" "_law_leaves" fU cM cL) (Tp:FnOk P w K mg base CX0 35 cM cL ["_law_many"] (yd K)) (dY:Binds K cL ["_law_many"] []) (dW:mg "_law_leaves"=some (.ref cM))
  {oh:Addr}{nR:FuncData} (Fp:Fun K "_law_any" "_law_any" kW oh nR) (Zz:FnOk P w K mg base CX0 33 oh nR ["_law_deck_here"] (aaR K)) (Er:Binds K nR ["_law_deck_here"] []) (Dz:mg "_law_any"=some (.ref oh))
  {a_w:Addr}{d_w:FuncData} (Bq:Fun K "_law_word" "_law_word" oV a_w d_w) (Zk:Binds K d_w ["_law_deck_here","_law_deep"] []) (Y9:mg "_law_word"=some (.ref a_w))
  {a_x:Addr}{d_x:FuncData} (jA:Fun K "_law_text" "_law_text" ju a_x d_x) (o7:Binds K d_x ["_law_deck_here","_law_deep"] []) (oZ:mg "_law_text"=some (.ref a_x)) :
  ∀ n:Nat,n≤4→FnOk P w K mg base CX0 (2 * n+36) a_w d_w ["_law_deck_here","_law_deep"] (ZP K n)∧FnOk P w K mg base CX0 (2 * n+37) a_x d_x ["_law_deck_here","_law_deep"] (ZQ K n):=by
 intro n
 induction n with
 | zero =>
  intro _
  refine⟨okQ (k:=35) Bq yj (fun vs H Q E h=>?_) (fun cdv A outer s H vs Q E hr h=>?_),okQ (k:=36) jA GF (fun vs H Q E h=>?_) (fun cdv A outer s H vs Q E hr h=>?_)⟩
  ·obtain⟨p,d,rfl,_⟩:=h
   rfl
  ·obtain⟨p,d,rfl,hd,_⟩:=h
   exact absurd hd (Nat.not_lt_zero _)
  ·obtain⟨p,d,rfl,_⟩:=h
   rfl
  ·obtain⟨p,d,rfl,hd,_⟩:=h
   exact absurd hd (Nat.not_lt_zero _)
 | succ n ih =>
  intro hn4
  obtain⟨_,o_⟩:=ih (by lia)
  have p1:pbT 1=4:=rfl
  have p2:pbT 2=13:=rfl
  have p3:pbT 3=40:=rfl
  have wd:FnOk P w K mg base CX0 (2 * n+38) a_w d_w ["_law_deck_here","_law_deep"] (ZP K (n+1)):=by
   have dI:=uy.mono (show 31≤2 * n+37 by lia)
   have jz:=Yo.mono (show 35≤2 * n+37 by lia)
   have dZ:=Tp.mono (show 35≤2 * n+37 by lia)
   refine okQ (k:=2 * n+37) Bq yj (fun vs H Q E h=>?_) (fun cdv A outer s H vs Q E hr h=>?_)
   ·obtain⟨p,d,rfl,_⟩:=h
    rfl
   obtain⟨p,d,rfl,hd,hk,q⟩:=h
   refine⟨_,(aA (bN (i:=2) yj.nd rfl (Or.inl rfl) (aF dI hr rfl d8 eF.kp eE .nil pass0 (aj (qv 0) (aj aH ak))))
   (aA (cg (aZ Ow (qv 2) aH (nomark _)) (aD (aV (aW bH (bA (aj (bA ak) ak)) (aF jz hr rfl jx gU.kp jy .nil pass0 (aj (qv 0) (aj aH ak)))))) bL)
   (aA (cg (aZ Ow (qv 2) aH (nomark _)) (aD (aV (aW bH (bA (aj (aF dZ hr rfl dW d7.kp dY .nil pass0 (aj (gB ix_list (oH (aj aH (aj aH (aj aH (aj aH (aj aH (aj aH (aj aH (aj aH ak))))))))) (aW op_sub (qv 2) aH) (fun _ _=>rfl)) ak)) ak)) (aW qd (aF jz hr rfl jx gU.kp jy .nil pass0 (aj (qv 0) (aj aH ak))) (aW op_fdiv (aF dI hr rfl d8 eF.kp eE .nil pass0 (aj (qv 0) (aj aH ak))) aH))))) bL)
   (aA (cg (QW.pt (BP (aZ op_eq (qv 2) aH (nomark _)) (xM (aZ wY (qv 1) aH (nomark _))))) (aD (aV (aW bH (bA (aj (aF dZ hr rfl dW d7.kp dY .nil pass0 (aj aH ak)) (aj (aF o_ hr rfl oZ jA.kp o7 .nil pass0 (aj (qv 0) (aj (aW op_sub (qv 1) aH) ak))) ak))) (aF o_ hr rfl oZ jA.kp o7 .nil pass0 (aj (qv 0) (aj (aW op_sub (qv 1) aH) ak)))))) bL)
   (aA (cg (QW.pt (BP (aZ op_eq (qv 2) aH (nomark _)) (xM (aZ wY (qv 1) aH (nomark _))))) (aD (aV (aW bH (bA (aj (aF dZ hr rfl dW d7.kp dY .nil pass0 (aj aH ak)) (aj (bA (aj (aF dZ hr rfl dW d7.kp dY .nil pass0 (aj aH ak)) ak)) ak))) (aF o_ hr rfl oZ jA.kp o7 .nil pass0 (aj (qv 0) (aj (aW op_sub (qv 1) aH) ak)))))) bL)
   (aA (cg (aZ op_eq (qv 2) aH (nomark _)) (aD (aV (aW bH (bA (aj (aF dZ hr rfl dW d7.kp dY .nil pass0 (aj (aW op_add aH (aF dI hr rfl d8 eF.kp eE .nil pass0 (aj (qv 0) (aj aH ak)))) ak)) ak)) (aF jz hr rfl jx gU.kp jy .nil pass0 (aj (qv 0) (aj aH ak)))))) bL)
   (aD (aV (aF jz hr rfl jx gU.kp jy .nil pass0 (aj (qv 0) (aj aH ak))))))))))),?_⟩
   have pw:=ac7 d
   refine⟨_,rfl,p,17,rfl,by decide,hk,fun m H1 hm0 hm1 D1=>?_⟩
   have hk1:=D1.dH
   refine⟨_,rfl,_,_,rfl,rfl,_,rfl,ite2 (fun hb=>?_) (fun hb4=>?_)⟩
   ·refine⟨Nat.zero_le _,fun p1 hp1=>⟨(by show 1≤sizeLine; decide),fun p2' hp2=>?_⟩⟩
    obtain⟨S1,t1⟩:=cA (K:=K) (ts:=[]) hp1 (bJ.mpr rfl)
    obtain⟨S2,t2⟩:=cA (K:=K) hp2 (fj t1)
    have D2:=(D1.same S1).same S2
    refine⟨_,rfl,p,2,rfl,by decide,D2.dH,fun y t H3 D3 ht hs=>?_⟩
    cases t with
    | node us =>
     have b:=rK hs.1.b (jo zW)
     refine cG (t2.mono (D3.kt D2.dH)) ht (small (by have:=hs.1.b.len; rw [List.length_singleton]; lia)) (fun z H4 S4 t4=>?_)
     exact q _ _ _ ((D2.trans D3).same S4) t4 ⟨b.le (by lia) (by lia),fun _=>⟨by show 0≠7; decide,by show 0≠8; decide⟩⟩
   refine⟨_,rfl,_,_,rfl,rfl,_,rfl,ite2 (fun hb=>?_) (fun aq6=>?_)⟩
   ·have hm4:4≤m:=by
     have:¬ m<4:=fun z=>hb4 (decide_eq_true z)
     lia
    have aq5:m<12:=of_decide_eq_true hb
    refine⟨(by show 8≤sizeLine; decide),fun p3' hp3=>?_⟩
    obtain⟨c,hc,ec⟩:=aiA (ns:=[1,2,3,4,4,5,6,6]) (k:=(m - 4).toNat) (by show _<8; lia)
    rw [show (((m - 4).toNat:Nat):Int)=m - 4 by lia] at ec
    have hc6:c≤6:=(by decide:∀ c∈([1,2,3,4,4,5,6,6]:List Nat),c≤6) c hc
    refine⟨_,rfl,_,_,rfl,rfl,p3',_,_,_,rfl,rfl,SqL.of upd_same,ec,c,rfl,by lia,fun y H4 S4 t4=>⟨(by show 1≤sizeLine; decide),fun p5 hp5=>?_⟩⟩
    obtain⟨S5,t5⟩:=cA (K:=K) hp5 (fj t4)
    have D5:=((D1.same (same_new hp3 _)).same S4).same S5
    refine⟨_,rfl,p,1,rfl,by decide,D5.dH,fun y6 u6 H6 D6 t6 s6=>?_⟩
    refine⟨_,rfl,p,5,rfl,by decide,D6.dH,fun i7 H7 i70 i71 D7=>⟨_,_,rfl,rfl,⟨by decide,by decide⟩,?_⟩⟩
    have D67:=D6.trans D7
    cases u6 with
    | node us =>
     have b6:B 1 4 (.node us):=s6.1.b.le (by lia) (by lia)
     have hul:=b6.len
     obtain⟨j,ej,hj⟩:∃ j:Nat,i7 / 4=(j:Int)∧j≤1:=⟨(i7 / 4).toNat,by lia,by lia⟩
     refine Uz j (t6.mono (D7.kt D6.dH)) rfl ej (by lia) (fun z8 H8 S8 t8=>?_) (by lia)
     have b8:B 1 4 (.node (List.replicate j us).flatten):=by
      rcases (by lia:j=0∨j=1) with rfl | rfl
      ·exact zW.le (by lia) (by lia)
      ·rw [show (List.replicate 1 us).flatten=us by simp]; exact b6
     have b:=rK b8 (jo (qH c))
     refine cG (t5.mono ((D67.kt D5.dH).trans (.of S8))) t8 (small (by have:=b8.len; rw [List.length_singleton]; lia)) (fun z H9 S9 t9=>?_)
     exact q _ _ _ (((D5.trans D67).same S8).same S9) t9 ⟨b.le (by lia) (by lia),fun _=>⟨by rw [Jx]; lia,by rw [Jx]; lia⟩⟩
   try dsimp only [tNext,tSeq,tIfS]
   refine acL (fun R r=>⟨_,rfl,rfl,_,rfl,r⟩) (fun R r=>⟨_,rfl,_,_,rfl,rfl,_,rfl,r⟩) ?_
   refine ite2 (fun hb=>?_) (fun _=>?_)
   ·have hd0:0<d:=by
     have:=of_decide_eq_true (Bool.and_eq_true _ _ ▸ hb).2
     lia
    obtain⟨e,rfl⟩:∃ e,d=e+1:=⟨d - 1,by lia⟩
    have pe:pbW (e+1)=60+2 * (1+4 * pbW e):=rfl
    refine⟨7,rfl,by decide,fun y1 H2 S2 t2=>?_⟩
    have D2:=D1.same S2
    refine⟨_,rfl,_,rfl,_,_,rfl,rfl,p,e,Xx p e,by lia,D2.dH,fun y3 u3 H3 D3 t3 s3=>⟨(by show 2≤sizeLine; decide),fun p4 hp4=>?_⟩⟩
    obtain⟨S4,t4⟩:=cA (K:=K) hp4 (Gn (t2.mono (D3.kt D2.dH)) t3)
    have D4:=(D2.trans D3).same S4
    refine⟨_,rfl,_,rfl,_,_,rfl,rfl,p,e,Xx p e,by lia,D4.dH,fun y5 u5 H5 D5 t5 s5=>?_⟩
    cases u5 with
    | node us =>
     have b:=rK s5.1.1 (cR (qH 7) (jo s3.1.1))
     have hl:us.length≤41:=s5.1.2
     refine cG (t4.mono (D5.kt D4.dH)) t5 (small (by show 2+us.length≤_; lia)) (fun z H6 S6 t6=>?_)
     exact q _ _ _ ((D4.trans D5).same S6) t6 ⟨b.le (by lia) (by lia),fun z=>absurd z (by lia)⟩
   try dsimp only [tNext,tSeq,tIfS]
   refine acL (fun R r=>⟨_,rfl,rfl,_,rfl,r⟩) (fun R r=>⟨_,rfl,_,_,rfl,rfl,_,rfl,r⟩) ?_
   refine ite2 (fun hb=>?_) (fun _=>?_)
   ·have hd0:0<d:=by
     have:=of_decide_eq_true (Bool.and_eq_true _ _ ▸ hb).2
     lia
    obtain⟨e,rfl⟩:∃ e,d=e+1:=⟨d - 1,by lia⟩
    have pe:pbW (e+1)=60+2 * (1+4 * pbW e):=rfl
    refine⟨8,rfl,by decide,fun y1 H2 S2 t2=>⟨1,rfl,by decide,fun y3 H3 S3 t3=>⟨(by show 1≤sizeLine; decide),fun p4 hp4=>⟨(by show 2≤sizeLine; decide),fun p5 hp5=>?_⟩⟩⟩⟩
    obtain⟨S4,t4⟩:=cA (K:=K) hp4 (fj t3)
    obtain⟨S5,t5⟩:=cA (K:=K) hp5 (Gn (t2.mono (.of (S3.trans S4))) t4)
    have D5:=(((D1.same S2).same S3).same S4).same S5
    refine⟨_,rfl,_,rfl,_,_,rfl,rfl,p,e,Xx p e,by lia,D5.dH,fun y6 u6 H6 D6 t6 s6=>?_⟩
    cases u6 with
    | node us =>
     have b:=rK s6.1.1 (cR (qH 8) (jo (jo (qH 1))))
     have hl:us.length≤41:=s6.1.2
     refine cG (t5.mono (D6.kt D5.dH)) t6 (small (by show 2+us.length≤_; lia)) (fun z H7 S7 t7=>?_)
     exact q _ _ _ ((D5.trans D6).same S7) t7 ⟨b.le (by lia) (by lia),fun z=>absurd z (by lia)⟩
   refine⟨_,rfl,rfl,_,rfl,ite2 (fun hb=>?_) (fun _=>?_)⟩
   ·refine⟨_,rfl,p,4,rfl,by decide,hk1,fun i2 H2 i20 i21 D2=>⟨_,_,rfl,rfl,?_⟩⟩
    obtain⟨j,ej,hj⟩:∃ j:Nat,(9:Int)+i2=(j:Int)∧j≤12:=⟨(9+i2).toNat,by lia,by lia⟩
    refine⟨j,(by show [V.int ((9:Int)+i2)]=_; rw [ej]),by lia,fun y3 H3 S3 t3=>⟨(by show 1≤sizeLine; decide),fun p4 hp4=>?_⟩⟩
    obtain⟨S4,t4⟩:=cA (K:=K) hp4 (fj t3)
    have D4:=((D1.trans D2).same S3).same S4
    refine⟨_,rfl,p,1,rfl,by decide,D4.dH,fun y5 u5 H5 D5 t5 s5=>?_⟩
    cases u5 with
    | node us =>
     have b:=rK s5.1.b (jo (qH j))
     refine cG (t4.mono (D5.kt D4.dH)) t5 (small (by have:=s5.1.b.len; rw [List.length_singleton]; lia)) (fun z H6 S6 t6=>?_)
     exact q _ _ _ ((D4.trans D5).same S6) t6 ⟨b.le (by lia) (by lia),fun _=>⟨by rw [Jx]; lia,by rw [Jx]; lia⟩⟩
   exact⟨_,rfl,p,3,rfl,by decide,hk1,fun y t H3 D3 ht hs=>q _ _ _ (D1.trans D3) ht ⟨hs.1.b.le (by lia) (by lia),fun _=>⟨by have:=hs.2.sort; lia,by have:=hs.2.sort; lia⟩⟩⟩
  refine⟨wd,?_⟩
  have Zv:=wd
  have dI:=uy.mono (show 31≤2 * n+38 by lia)
  have Fj:=Zz.mono (show 33≤2 * n+38 by lia)
  refine okQ (k:=2 * n+38) jA GF (fun vs H Q E h=>?_) (fun cdv A outer s H vs Q E hr h=>?_)
  ·obtain⟨p,d,rfl,_⟩:=h
   rfl
  obtain⟨p,d,rfl,hd,hk,q⟩:=h
  refine⟨_,(aA (cg (QW.pt (BP (aZ wY (qv 1) aH (nomark _)) (xM (aZ op_eq (aF dI hr rfl d8 eF.kp eE .nil pass0 (aj (qv 0) (aj aH ak))) aH (nomark _))))) (aD (aV (aF Fj hr rfl Dz Fp.kp Er .nil pass0 (aj (qv 0) ak)))) bL)
   (aD (aV (jw gD rfl cW nU (aj (JC rfl (uM (fr:=["_law_deck_here","_law_deep"]) (js:=[0,1]) (sc:=defScope ju) rfl rfl rfl (by decide +kernel) (by decide +kernel) (by decide +kernel) (by decide +kernel) (by exact⟨⟨rfl,rfl,rfl⟩,⟨⟨rfl,rfl,rfl⟩,trivial⟩⟩) (by decide +kernel) (fun y hy=>cell_has hy)) (vW rfl gK (aj (aF dI hr rfl d8 eF.kp eE .nil pass0 (aj (qv 0) (aj aH ak))) ak)) (fun _ _ _ _ _=>(aF Zv hr rfl Y9 Bq.kp Zk .nil pass0 (aj (qv 1) (aj (qv 2) ak))))) ak))))),?_⟩
  have pw:=ac7 d
  refine adD (fun σ' H'=>σ'=[some (.ref p),some (.int (d:Int))]∧Dr p H H') (fun σ8 H8 h8=>?_) (fun N hN=>?_)
  rotate_left
  ·refine⟨_,rfl,_,_,rfl,rfl,_,rfl,ite2 (fun hd0=>?_) (fun _=>iteF (hN _ _ ⟨rfl,Dr.refl hk⟩))⟩
   have hd0:(0:Int)<(d:Int):=of_decide_eq_true hd0
   refine⟨_,rfl,p,4,rfl,by decide,hk,fun i9 H9 _ _ D9=>⟨rfl,_,rfl,ite2 (fun _=>?_) (fun _=>hN _ _ ⟨rfl,D9⟩)⟩⟩
   refine⟨_,rfl,p,rfl,D9.dH,fun y ts H10 D10 t10 b10=>q _ _ _ (D9.trans D10) t10 ⟨⟨b10.le (by lia) (by lia),?_⟩,fun z=>by lia,fun z=>by lia⟩⟩
   have:=b10.len
   show ts.length≤41
   lia
  obtain⟨rfl,D8⟩:=h8
  have hk:=D8.dH
  refine⟨_,rfl,p,5,rfl,by decide,hk,fun m H1 hm0 hm1 D1=>⟨m,rfl,by lia,by lia,?_⟩⟩
  refine agQ (K:=K) (ajI d) D1.dH (small (by lia)) (fun i H' R hi Dh hR=>?_) (fun D ys ts H' Dh hl hlen htr hsh=>?_)
  ·exact⟨_,rfl,_,rfl,p,d,rfl,hd,Dh.dH,fun y t H3 D3 ht hs=>hR y t H3 D3 ht hs⟩
  refine⟨D,ys,rfl,.inl ⟨SqL.of hl,fun p5 hp5=>?_⟩⟩
  obtain⟨S5,t5⟩:=cA (K:=K) hp5 htr
  exact q _ _ _ ((D8.trans (D1.trans Dh)).same S5) t5 ⟨⟨(U3 (n:=4) (fun t ht=>(hsh t ht).1) (by lia)).le (by lia) (by lia),by show ts.length≤41; lia⟩,fun _=>by show ts.length≤4; lia,fun z w hw=>⟨(hsh w hw).2 z,by subst z; exact (hsh w hw).1.le (by decide) (by decide)⟩⟩
def xZ (K:PySem.W.Frag) (n:Nat):Sp:=fun vs H Q _=>∃ x t,vs=[x]∧TR K H t x∧t.deep≤n∧t.parts≤1000000∧∀ H',Same H H'→Q (.int (t.parts:Nat)) H'
theorem ac8 (ts:List T):(ts.map fun t:T=>((t.parts:Nat):Int)).sum=(T.au ts:Nat):=by
 induction ts with
 | nil=>rfl
 | cons t ts ih=>rw [List.map_cons,List.sum_cons,ih,T.aq]; lia
theorem adh (JM:mg "sum"=none)
  {a_t:Addr}{d_t:FuncData} (jX:Fun K "_law_parts" "_law_parts" gZ a_t d_t) (qy:Binds K d_t ["_law_tree_here"] []) (qg:mg "_law_parts"=some (.ref a_t)) :
  ∀ n:Nat,FnOk P w K mg base CX0 (32+n) a_t d_t ["_law_tree_here"] (xZ K n):=by
 have step:∀ n:Nat,∀ (sp:Sp),FnOk P w K mg base CX0 (31+n) a_t d_t ["_law_tree_here"] sp→(∀ x t H Q E,TR K H t x→t.deep+1≤n→t.parts≤1000000→(∀ H',Same H H'→Q (.int (t.parts:Nat)) H')→sp [x] H Q E)→FnOk P w K mg base CX0 (32+n) a_t d_t ["_law_tree_here"] (xZ K n):=by
  intro n sp qG hsp
  have e32:32+n=(31+n)+1:=by lia
  rw [e32]
  refine okQ (k:=31+n) jX Fv (fun vs H Q E h=>?_) (fun cdv A outer s H vs Q E hr h=>?_)
  ·obtain⟨x,t,rfl,_⟩:=h
   rfl
  obtain⟨x,t,rfl,ht,hd,hp,q⟩:=h
  refine⟨_,(aD (aV (aW op_add aH (cO (afA rfl) rfl JM adO (aj (JC rfl (uM (fr:=[]) (js:=[]) (sc:=defScope gZ) rfl rfl rfl (by decide +kernel) (by decide +kernel) (by decide +kernel) (by decide +kernel) (by exact trivial) (by decide +kernel) (fun y hy=>cell_has hy)) (ac2 (qv 0)) (fun _ _ _ _ _=>(aF qG hr rfl qg jX.kp qy .nil pass0 (aj (qv 0) ak)))) ak))))),?_⟩
  cases t with
  | node ts =>
  obtain⟨a,xs,rfl,ha,ra⟩:=cN.mp ht
  have hl:=ra.length
  have hlp:=T.cQ ts
  rw [T.aL] at hp
  refine⟨_,rfl,a,rfl,⟨xs,ha⟩,?_⟩
  refine aan (K:=K) (xs:=xs) (fun D i ys H'=>H D=none∧Same H H'∧H' D=some (.lst ys)∧ys=((ts.take i).map fun t:T=>((t.parts:Nat):Int)).map V.int∧i≤ts.length) (small (by lia)) (fun D hD=>⟨hD,same_new hD _,upd_same,rfl,Nat.zero_le _⟩) (fun D i ys H' j=>⟨j.2.2.1,?_,dM (.of j.2.1) ha⟩) (fun D i x ys H' R hx j hR=>?_) (fun D ys H' j=>?_)
  ·rw [j.2.2.2.1,List.length_map,List.length_map,List.length_take]
   exact Nat.min_eq_left j.2.2.2.2
  ·obtain⟨hD,S,h1,h2,_⟩:=j
   obtain⟨u,hu,hxu⟩:=ra.get hx
   have hm:=List.mem_of_getElem? hu
   have hud:=T.jM hm
   have hup:=T.lq hm
   rw [T.aO] at hd
   refine⟨_,rfl,hsp x u H' _ _ (hxu.mono (.of S)) (by lia) (by lia) fun H3 S3=>?_⟩
   refine hR _ _ (S3 _ _ h1) ⟨hD,eG (S.trans S3) hD,upd_same,?_,(List.getElem?_eq_some_iff.mp hu).1⟩
   rw [h2,List.take_succ,hu,List.map_append,List.map_append]
   rfl
  ·obtain⟨hD,S,h1,h2,_⟩:=j
   rw [List.take_of_length_le (by lia)] at h2
   refine⟨D,_,rfl,SqL.of (by rw [h1,h2]),_,_,rfl,rfl,?_⟩
   rw [ac8]
   show Q (V.int ((1:Int)+((T.au ts:Nat):Int))) H'
   rw [show (1:Int)+((T.au ts:Nat):Int)=(((T.node ts).parts:Nat):Int) by rw [T.aL]; lia]
   exact q _ S
 intro n
 induction n with
 | zero =>
  refine step 0 (fun _ _ _ _=>False) ?_ (fun x t H Q E _ h=>absurd h (by lia))
  refine okQ (k:=30) jX Fv (fun vs H Q E h=>h.elim) (fun cdv A outer s H vs Q E hr h=>h.elim)
 | succ n ih =>
  refine step (n+1) (xZ K n) ?_ (fun x t H Q E h1 h2 h3 h4=>⟨x,t,rfl,h1,by lia,h3,h4⟩)
  have e:31+(n+1)=32+n:=by lia
  rw [e]
  exact ih
theorem YX
  (F:Fun K "_law_lay" "_law_lay" kO f fd):FnOk P w K mg base CX0 31 f fd ["_law_tree_here"] (Vm K):=by
 refine okQ F YF (fun vs H Q E h=>?_) (fun cdv A outer s H vs Q E hr h=>?_)
 ·obtain⟨x,us,rfl,_⟩:=h
  rfl
 obtain⟨x,us,rfl,hx,hu,q⟩:=h
 refine⟨_,(aD (aV (aW bH (bA (aj (bA ak) ak)) (qv 0)))),?_⟩
 refine⟨Nat.zero_le _,fun p1 g1=>⟨(by show 1≤sizeLine; decide),fun p2 g2=>?_⟩⟩
 obtain⟨S1,t1⟩:=cA (K:=K) (ts:=[]) g1 (bJ.mpr rfl)
 obtain⟨S2,t2⟩:=cA (K:=K) g2 (fj t1)
 exact⟨_,rfl,cG t2 (hx.mono (.of (S1.trans S2))) (small (by show 1+us.length≤_; lia)) (fun z H3 S3 t3=>q _ _ (S1.trans (S2.trans S3)) t3)⟩
theorem Ul
  {cM:Addr}{cL:FuncData} (d7:Fun K "_law_leaves" "_law_leaves" fU cM cL) (dZ:FnOk P w K mg base CX0 31 cM cL ["_law_many"] (yd K)) (dY:Binds K cL ["_law_many"] []) (dW:mg "_law_leaves"=some (.ref cM))
  (F:Fun K "_law_plain" "_law_plain" jK f fd):FnOk P w K mg base CX0 32 f fd ["_law_sort"] (Vi K):=by
 refine okQ F Ud (fun vs H Q E h=>?_) (fun cdv A outer s H vs Q E hr h=>?_)
 ·obtain⟨n,rfl,_⟩:=h
  rfl
 obtain⟨n,rfl,hn,q⟩:=h
 refine⟨_,(aD (aV (bA (aj (aF dZ hr rfl dW d7.kp dY .nil pass0 (aj (qv 0) ak)) ak)))),?_⟩
 refine⟨_,rfl,n,rfl,by lia,fun y1 H1 S1 t1=>⟨(by show 1≤sizeLine; decide),fun p2 g2=>?_⟩⟩
 obtain⟨S2,t2⟩:=cA (K:=K) g2 (fj t1)
 exact q _ _ (S1.trans S2) t2
theorem Oz
  {cM:Addr}{cL:FuncData} (d7:Fun K "_law_leaves" "_law_leaves" fU cM cL) (dZ:FnOk P w K mg base CX0 32 cM cL ["_law_many"] (yd K)) (dY:Binds K cL ["_law_many"] []) (dW:mg "_law_leaves"=some (.ref cM))
  {n_:Addr}{nQ:FuncData} (iV:Fun K "_law_lay" "_law_lay" kO n_ nQ) (iU:FnOk P w K mg base CX0 32 n_ nQ ["_law_tree_here"] (Vm K)) (iT:Binds K nQ ["_law_tree_here"] []) (iR:mg "_law_lay"=some (.ref n_))
  (F:Fun K "_law_goes_on" "_law_goes_on" iH f fd):FnOk P w K mg base CX0 33 f fd ["_law_words"] (Vp K):=by
 refine okQ F Oo (fun vs H Q E h=>?_) (fun cdv A outer s H vs Q E hr h=>?_)
 ·obtain⟨x,ws,rfl,_⟩:=h
  rfl
 obtain⟨x,ws,rfl,hx,hl,q⟩:=h
 refine⟨_,(aD (aV (aW bH (qv 0) (bA (aj (aF iU hr rfl iR iV.kp iT .nil pass0 (aj (bA (aj (bA ak) ak)) ak)) (aj (bA (aj (aF dZ hr rfl dW d7.kp dY .nil pass0 (aj aH ak)) ak)) ak)))))),?_⟩
 refine⟨_,rfl,Nat.zero_le _,fun p1 g1=>⟨(by show 1≤sizeLine; decide),fun p2 g2=>?_⟩⟩
 obtain⟨S1,t1⟩:=cA (K:=K) (ts:=[]) g1 (bJ.mpr rfl)
 obtain⟨S2,t2⟩:=cA (K:=K) g2 (fj t1)
 refine⟨_,_,rfl,t2,by show 1≤100000; decide,fun y3 H3 S3 t3=>⟨8,rfl,by decide,fun y4 H4 S4 t4=>⟨(by show 1≤sizeLine; decide),fun p5 g5=>⟨(by show 2≤sizeLine; decide),fun p6 g6=>?_⟩⟩⟩⟩
 obtain⟨S5,t5⟩:=cA (K:=K) g5 (fj t4)
 obtain⟨S6,t6⟩:=cA (K:=K) g6 (Gn (t3.mono (.of (S4.trans S5))) t5)
 have S16:=S1.trans (S2.trans (S3.trans (S4.trans (S5.trans S6))))
 exact cG (hx.mono (.of S16)) t6 (small (by show _+2≤_; lia)) (fun z H7 S7 t7=>q _ _ (S16.trans S7) t7)
theorem Um (abm:mg "int"=none)
  {Bj:Addr}{Ax:FuncData} (jA:Fun K "_law_text" "_law_text" ju Bj Ax) (o_:FnOk P w K mg base CX0 45 Bj Ax ["_law_deck_here","_law_deep"] (ZQ K 3)) (o7:Binds K Ax ["_law_deck_here","_law_deep"] []) (oZ:mg "_law_text"=some (.ref Bj))
  {zq:Addr}{yR:FuncData} (fQ:Fun K "_law_plain" "_law_plain" jK zq yR) (fO:FnOk P w K mg base CX0 45 zq yR ["_law_sort"] (Vi K)) (fK:Binds K yR ["_law_sort"] []) (fH:mg "_law_plain"=some (.ref zq))
  {n_:Addr}{nQ:FuncData} (iV:Fun K "_law_lay" "_law_lay" kO n_ nQ) (iU:FnOk P w K mg base CX0 45 n_ nQ ["_law_tree_here"] (Vm K)) (iT:Binds K nQ ["_law_tree_here"] []) (iR:mg "_law_lay"=some (.ref n_))
  {vg:Addr}{uV:FuncData} (Cz:Fun K "_law_goes_on" "_law_goes_on" iH vg uV) (Cv:FnOk P w K mg base CX0 45 vg uV ["_law_words"] (Vp K)) (Cq:Binds K uV ["_law_words"] []) (Ce:mg "_law_goes_on"=some (.ref vg))
  {cM:Addr}{cL:FuncData} (d7:Fun K "_law_leaves" "_law_leaves" fU cM cL) (dZ:FnOk P w K mg base CX0 45 cM cL ["_law_many"] (yd K)) (dY:Binds K cL ["_law_many"] []) (dW:mg "_law_leaves"=some (.ref cM))
  (F:Fun K "_law_maker" "_law_maker" jL f fd):FnOk P w K mg base CX0 46 f fd ["_law_deck_here","_law_way"] (Vl K):=by
 refine okQ F rH (fun vs H Q E h=>?_) (fun cdv A outer s H vs Q E hr h=>?_)
 ·obtain⟨p,way,rfl,_⟩:=h
  rfl
 obtain⟨p,way,rfl,hw0,hw9,hk,q⟩:=h
 refine⟨_,(aA (bN (i:=2) rH.nd rfl (Or.inl rfl) (aF o_ hr rfl oZ jA.kp o7 .nil pass0 (aj (qv 0) (aj (jw adM rfl abm ajD (aj (JD wY (qv 1) aH (nomark _)) ak)) ak))))
   (aA (bN (i:=3) rH.nd rfl (Or.inl rfl) (bA (aj (aF iU hr rfl iR iV.kp iT .nil pass0 (aj (bA ak) ak)) (aj (aF fO hr rfl fH fQ.kp fK .nil pass0 (aj aH ak)) ak))))
   (aA (cg (aZ op_eq (qv 1) aH (nomark _)) (aD (aV (aF Cv hr rfl Ce Cz.kp Cq .nil pass0 (aj (qv 2) ak)))) bL)
   (aA (cg (aZ op_eq (qv 1) aH (nomark _)) (aD (aV (bA (aj (aF iU hr rfl iR iV.kp iT .nil pass0 (aj (aF Cv hr rfl Ce Cz.kp Cq .nil pass0 (aj (qv 2) ak)) ak)) ak)))) bL)
   (aA (cg (aZ op_eq (qv 1) aH (nomark _)) (aA (bN (i:=4) rH.nd rfl (Or.inl rfl) (bA (aj (aF iU hr rfl iR iV.kp iT .nil pass0 (aj (bA ak) ak)) (aj (aF fO hr rfl fH fQ.kp fK .nil pass0 (aj aH ak)) (aj (aF fO hr rfl fH fQ.kp fK .nil pass0 (aj aH ak)) ak)))))
   (aD (aV (aW bH (aW bH (aW bH (qv 3) (bA (aj (aF fO hr rfl fH fQ.kp fK .nil pass0 (aj aH ak)) ak))) (qv 4)) (bA (aj (aF fO hr rfl fH fQ.kp fK .nil pass0 (aj aH ak)) (aj (aF fO hr rfl fH fQ.kp fK .nil pass0 (aj aH ak)) ak))))))) bL)
   (aA (cg (QW.pt (aaY (aZ op_eq (qv 1) aH (nomark _)) (VR (aZ op_eq (qv 1) aH (nomark _))))) (aD (aV (aW bH (qv 3) (bA (aj (aF iU hr rfl iR iV.kp iT .nil pass0 (aj (aW bH (bA (aj (aF fO hr rfl fH fQ.kp fK .nil pass0 (aj aH ak)) ak)) (qv 2)) ak)) (aj (aF fO hr rfl fH fQ.kp fK .nil pass0 (aj aH ak)) (aj (aF fO hr rfl fH fQ.kp fK .nil pass0 (aj aH ak)) ak))))))) bL)
   (aA (cg (aZ op_eq (qv 1) aH (nomark _)) (aD (aV (aW bH (qv 3) (bA (aj (aF iU hr rfl iR iV.kp iT .nil pass0 (aj (bA ak) ak)) (aj (aF fO hr rfl fH fQ.kp fK .nil pass0 (aj aH ak)) (aj (aF fO hr rfl fH fQ.kp fK .nil pass0 (aj aH ak)) ak))))))) bL)
   (aA (cg (aZ op_eq (qv 1) aH (nomark _)) (aD (aV (bA (aj (bA (aj (aF dZ hr rfl dW d7.kp dY .nil pass0 (aj aH ak)) (aj (bA (aj (aF iU hr rfl iR iV.kp iT .nil pass0 (aj (qv 2) ak)) ak)) (aj (aF iU hr rfl iR iV.kp iT .nil pass0 (aj (aF o_ hr rfl oZ jA.kp o7 .nil pass0 (aj (qv 0) (aj aH ak))) ak)) ak)))) ak)))) bL)
   (aA (cg (aZ op_eq (qv 1) aH (nomark _)) (aD (aV (qv 2))) bL)
   (aD (aV (bA (aj (aF iU hr rfl iR iV.kp iT .nil pass0 (aj (qv 2) ak)) ak))))))))))))),?_⟩
 have p0:pbW 0=60:=rfl
 have p1:pbW 1=542:=rfl
 refine ji (fun v=>[some (.ref p),some (.int way),some v,none,none]) (fun _=>rfl) (fun v H'=>∃ ts,Dr p H H'∧TR K H' (.node ts) v∧B 48 2169 (.node ts)∧(way<2→ts.length≤4∧∀ w∈ts,Wu w∧B 50 100 w)) (fun R r=>?_) (fun v2 H2 h2=>?_)
 ·refine⟨_,rfl,_,rfl,_,_,rfl,rfl,.inr ⟨_,rfl,?_⟩⟩
  by_cases hw2:1<way
  ·rw [if_pos (decide_eq_true hw2)]
   refine⟨p,1,rfl,by decide,hk,fun y t H2 D2 t2 s2=>r _ _ ?_⟩
   cases t with
   | node ts=>exact⟨ts,D2,t2,s2.1.1.le (by decide) (by decide),fun z=>by lia⟩
  ·rw [if_neg (by rw [decide_eq_true_eq]; exact hw2)]
   refine⟨p,0,rfl,by decide,hk,fun y t H2 D2 t2 s2=>r _ _ ?_⟩
   cases t with
   | node ts=>exact⟨ts,D2,t2,s2.1.1.le (by decide) (by decide),fun _=>⟨s2.2.1 rfl,fun w hw=>s2.2.2 rfl w hw⟩⟩
 obtain⟨ts,D2,t2,b2,g2⟩:=h2
 have hlt:=b2.len
 dsimp only [tNext]
 refine ji (fun v=>[some (.ref p),some (.int way),some v2,some v,none]) (fun _=>rfl) (fun v H'=>Dr p H H'∧TR K H' (.node ts) v2∧TR K H' (.node [aU 0 [],W 4]) v) (fun R r=>⟨Nat.zero_le _,fun p1 g1=>?_⟩) (fun v3 H3 h3=>?_)
 ·obtain⟨S1,t1⟩:=cA (K:=K) (ts:=[]) g1 (bJ.mpr rfl)
  refine⟨_,[],rfl,t1,by decide,fun y3 H3 S3 t3=>⟨4,rfl,by decide,fun y4 H4 S4 t4'=>⟨(by show 2≤sizeLine; decide),fun p5 g5=>?_⟩⟩⟩
  obtain⟨S5,t5⟩:=cA (K:=K) g5 (Gn (t3.mono (.of S4)) t4')
  have S15:=S1.trans (S3.trans (S4.trans S5))
  exact r _ _ ⟨D2.same S15,t2.mono (.of S15),t5⟩
 obtain⟨D3,t23,t3⟩:=h3
 by_cases w0:way=0
 ·obtain⟨l2,n2⟩:=g2 (by lia)
  refine⟨_,rfl,rfl,_,rfl,MN (decide_eq_true (congrArg V.int w0)) ?_⟩
  exact⟨_,rfl,v2,ts,rfl,t23,by lia,fun y4 H4 S4 t4=>q _ _ _ (D3.same S4) t4 ((ael b2).le (by lia) (by lia)) ⟨fun _=>⟨ts,rfl,n2,l2⟩,fun z=>by lia,fun z=>by lia,fun z=>by lia⟩⟩
 refine⟨_,rfl,rfl,_,rfl,Hy (decide_eq_false (fun z=>w0 (V.int.inj z))) ?_⟩
 by_cases w1:way=1
 ·obtain⟨l2,n2⟩:=g2 (by lia)
  refine⟨_,rfl,rfl,_,rfl,MN (decide_eq_true (congrArg V.int w1)) ?_⟩
  refine⟨_,rfl,v2,ts,rfl,t23,by lia,fun y4 H4 S4 t4=>⟨y4,_,rfl,t4,by unfold cj; rw [List.length_append]; show _+2≤_; lia,fun y5 H5 S5 t5=>⟨(by show 1≤sizeLine; decide),fun p6 g6=>?_⟩⟩⟩
  obtain⟨S6,t6⟩:=cA (K:=K) g6 (fj t5)
  exact q _ _ _ (((D3.same S4).same S5).same S6) t6 ((jo (zX (ael b2))).le (by lia) (by lia)) ⟨fun z=>absurd z w0,fun _=>⟨ts,rfl,n2,l2⟩,fun z=>by lia,fun z=>by lia⟩
 refine⟨_,rfl,rfl,_,rfl,Hy (decide_eq_false (fun z=>w1 (V.int.inj z))) ?_⟩
 by_cases w2:way=2
 ·refine⟨_,rfl,rfl,_,rfl,MN (decide_eq_true (congrArg V.int w2)) ?_⟩
  refine ji (fun v=>[some (.ref p),some (.int way),some v2,some v3,some v]) (fun _=>rfl) (fun v H'=>Dr p H H'∧TR K H' (.node [aU 0 [],W 4]) v3∧TR K H' (.node [aU 0 [],W 3,W 4]) v) (fun R r=>⟨Nat.zero_le _,fun p1 g1=>?_⟩) (fun v4 H4 h4=>?_)
  ·obtain⟨S1,t1⟩:=cA (K:=K) (ts:=[]) g1 (bJ.mpr rfl)
   refine⟨_,[],rfl,t1,by decide,fun y3 H3 S3 t3'=>⟨3,rfl,by decide,fun y4 H4 S4 t4=>⟨4,rfl,by decide,fun y5 H5 S5 t5=>⟨(by show 3≤sizeLine; decide),fun p6 g6=>?_⟩⟩⟩⟩
   obtain⟨S6,t6⟩:=cA (K:=K) g6 (aaJ (t3'.mono (.of (S4.trans S5))) (t4.mono (.of S5)) t5)
   have S16:=S1.trans (S3.trans (S4.trans (S5.trans S6)))
   exact r _ _ ⟨D3.same S16,t3.mono (.of S16),t6⟩
  obtain⟨D4,t34,t4⟩:=h4
  refine⟨_,rfl,2,rfl,by decide,fun y5 H5 S5 t5=>⟨(by show 1≤sizeLine; decide),fun p6 g6=>?_⟩⟩
  obtain⟨S6,t6⟩:=cA (K:=K) g6 (fj t5)
  have S56:=S5.trans S6
  refine cG (t34.mono (.of S56)) t6 (small (by decide)) (fun y7 H7 S7 t7=>⟨_,rfl,cG t7 (t4.mono (.of (S56.trans S7))) (small (by decide)) (fun y8 H8 S8 t8=>⟨3,rfl,by decide,fun y9 H9 S9 t9=>⟨4,rfl,by decide,fun y10 H10 S10 t10=>⟨(by show 2≤sizeLine; decide),fun p11 g11=>?_⟩⟩⟩)⟩)
  obtain⟨S11,t11⟩:=cA (K:=K) g11 (Gn (t9.mono (.of S10)) t10)
  have ajK:=S9.trans (S10.trans S11)
  have Sa:=S56.trans (S7.trans (S8.trans ajK))
  exact cG (t8.mono (.of ajK)) t11 (small (by decide)) (fun z H12 S12 t12=>q _ _ _ (D4.same (Sa.trans S12)) t12 ⟨by decide +kernel,by decide +kernel⟩ ⟨fun z=>absurd z w0,fun z=>absurd z w1,fun _=>rfl,fun z=>by lia⟩)
 refine⟨_,rfl,rfl,_,rfl,Hy (decide_eq_false (fun z=>w2 (V.int.inj z))) ?_⟩
 have mk:∀ us,((∀ w∈us,w.parts≤2200)∨∃ t1 t2,us=[.node [dh 7,.node [aU 0 t1],aU 0 t2]]∧B 48 2169 (.node t1)∧B 48 2169 (.node t2))→Mk2 way us:=fun us h=>⟨fun z=>absurd z w0,fun z=>absurd z w1,fun z=>absurd z w2,fun _=>h⟩
 have W3p:(W 3).parts≤2200:=by decide +kernel
 have W4p:(W 4).parts≤2200:=by decide +kernel
 have L0p:(aU 0 []).parts≤2200:=by decide +kernel
 have b5:B 3 10 (.node [aU 0 [],W 4]):=⟨by decide +kernel,by decide +kernel⟩
 try dsimp only [tNext,tSeq,tIfS]
 refine afN (fun R r=>⟨_,rfl,rfl,_,rfl,r⟩) (fun R r=>⟨_,rfl,rfl,_,rfl,r⟩) (fun bb=>ite2 (fun _=>?_) (fun _=>?_))
 ·refine⟨_,rfl,4,rfl,by decide,fun y6 H6 S6 t6=>⟨(by show 1≤sizeLine; decide),fun p7 g7=>?_⟩⟩
  obtain⟨S7,t7⟩:=cA (K:=K) g7 (fj t6)
  refine⟨_,rfl,cG t7 (t23.mono (.of (S6.trans S7))) (small (by show 1+ts.length≤_; lia)) (fun y8 H8 S8 t8=>⟨y8,_,rfl,t8,by show ts.length+1≤_; lia,fun y9 H9 S9 t9=>⟨3,rfl,by decide,fun y10 H10 S10 t10=>⟨4,rfl,by decide,fun y11 H11 S11 t11=>⟨(by show 3≤sizeLine; decide),fun p12 g12=>?_⟩⟩⟩⟩)⟩
  obtain⟨S12,t12⟩:=cA (K:=K) g12 (aaJ (t9.mono (.of (S10.trans S11))) (t10.mono (.of S11)) t11)
  have Yg:=S6.trans (S7.trans (S8.trans (S9.trans (S10.trans (S11.trans S12)))))
  refine cG (t3.mono (.of Yg)) t12 (small (by show 2+3≤1000000; decide)) (fun z H13 S13 t13=>q _ _ _ (D3.same (Yg.trans S13)) t13 ?_ (mk _ (.inl fun w hw=>?_)))
  ·exact (rK (cR (zX (rK b2 (jo (B_W 4)))) (cR (B_W 3) (jo (B_W 4)))) b5).le (by lia) (by lia)
  have hb:(aU 0 ([W 4]++ts)).parts≤2200:=Nat.le_trans (zX (rK b2 (jo (B_W 4)))).2 (by decide)
  rcases List.mem_append.mp hw with hw | hw
  ·rcases List.mem_cons.mp hw with rfl | hw
   ·exact L0p
   ·rw [List.mem_singleton.mp hw]; exact W4p
  ·rcases List.mem_cons.mp hw with rfl | hw
   ·exact hb
   rcases List.mem_cons.mp hw with rfl | hw
   ·exact W3p
   ·rw [List.mem_singleton.mp hw]; exact W4p
 refine⟨_,rfl,rfl,_,rfl,ite2 (fun _=>?_) (fun _=>?_)⟩
 ·refine⟨_,rfl,Nat.zero_le _,fun p6 g6=>?_⟩
  obtain⟨S6,t6⟩:=cA (K:=K) (ts:=[]) g6 (bJ.mpr rfl)
  refine⟨_,[],rfl,t6,by decide,fun y9 H9 S9 t9=>⟨3,rfl,by decide,fun y10 H10 S10 t10=>⟨4,rfl,by decide,fun y11 H11 S11 t11=>⟨(by show 3≤sizeLine; decide),fun p12 g12=>?_⟩⟩⟩⟩
  obtain⟨S12,t12⟩:=cA (K:=K) g12 (aaJ (t9.mono (.of (S10.trans S11))) (t10.mono (.of S11)) t11)
  have Yg:=S6.trans (S9.trans (S10.trans (S11.trans S12)))
  refine cG (t3.mono (.of Yg)) t12 (small (by show 2+3≤1000000; decide)) (fun z H13 S13 t13=>q _ _ _ (D3.same (Yg.trans S13)) t13 ?_ (mk _ (.inl fun w hw=>?_)))
  ·exact (rK (cR (zX zW) (cR (B_W 3) (jo (B_W 4)))) b5).le (by lia) (by lia)
  rcases List.mem_append.mp hw with hw | hw
  ·rcases List.mem_cons.mp hw with rfl | hw
   ·exact L0p
   ·rw [List.mem_singleton.mp hw]; exact W4p
  ·rcases List.mem_cons.mp hw with rfl | hw
   ·exact L0p
   rcases List.mem_cons.mp hw with rfl | hw
   ·exact W3p
   ·rw [List.mem_singleton.mp hw]; exact W4p
 refine⟨_,rfl,rfl,_,rfl,ite2 (fun _=>?_) (fun _=>?_)⟩
 ·refine⟨7,rfl,by decide,fun y4 H4 S4 t4=>⟨_,rfl,v2,ts,rfl,t23.mono (.of S4),by lia,fun y5 H5 S5 t5=>⟨(by show 1≤sizeLine; decide),fun p6 g6=>?_⟩⟩⟩
  obtain⟨S6,t6⟩:=cA (K:=K) g6 (fj t5)
  have D6:=((D3.same S4).same S5).same S6
  refine⟨_,rfl,p,1,rfl,by decide,D6.dH,fun y7 u H7 D7 t7 s7=>?_⟩
  cases u with
  | node us =>
   have lu:=s7.1.1.len
   have bu:B 48 2169 (.node us):=s7.1.1.le (by decide) (by decide)
   refine⟨y7,us,rfl,t7,by lia,fun y8 H8 S8 t8=>⟨(by show 3≤sizeLine; decide),fun p9 g9=>?_⟩⟩
   obtain⟨S9,t9⟩:=cA (K:=K) g9 (aaJ (((t4.mono (.of (S5.trans S6))).mono (D7.kt D6.dH)).mono (.of S8)) ((t6.mono (D7.kt D6.dH)).mono (.of S8)) t8)
   refine⟨(by show 1≤sizeLine; decide),fun p10 g10=>?_⟩
   obtain⟨S10,t10⟩:=cA (K:=K) g10 (fj t9)
   exact q _ _ _ ((((D6.trans D7).same S8).same S9).same S10) t10 ((jo (cR (qH 7) (cR (jo (zX b2)) (jo (zX bu))))).le (by lia) (by lia)) (mk _ (.inr ⟨ts,us,rfl,b2,bu⟩))
 refine⟨_,rfl,rfl,_,rfl,ite2 (fun _=>?_) (fun _=>?_)⟩
 ·exact⟨_,rfl,q _ _ _ D3 t23 (b2.le (by lia) (by lia)) (mk _ (.inl fun w hw=>by have h1:=T.lq hw; have h2:=b2.2; rw [T.aL] at h2; lia))⟩
 refine⟨_,rfl,v2,ts,rfl,t23,by lia,fun y6 H6 S6 t6=>⟨(by show 1≤sizeLine; decide),fun p7 g7=>?_⟩⟩
 obtain⟨S7,t7⟩:=cA (K:=K) g7 (fj t6)
 exact q _ _ _ ((D3.same S6).same S7) t7 ((jo (zX b2)).le (by lia) (by lia)) (mk _ (.inl fun w hw=>by rw [List.mem_singleton.mp hw]; exact Nat.le_trans (zX b2).2 (by decide)))
end
end fY
namespace fY
open PySem PySem.Spec PyProof.Rows L2 Sw
section
variable {P:Program}{w:World}{K:PySem.W.Frag}{mg:Str→Option Value}{base:Heap}{f:Addr}{fd:FuncData}
theorem U_ {ns:List Nat} (h:ns.length=15):nT (turnT ns)=((bB (aX dj) 0 ns+13:Nat):Int):=by
 rw [T9 (iC ns),Ec dj h,show jD dj=13 by decide]
theorem ae6 {way:Int}{ts:List T} (h:Mk2 way ts) (h3:3≤way):Jg ts:=h.2.2.2 h3
def Z0 (K:PySem.W.Frag):Sp:=fun vs H Q _=>∃ (vf vk vx:V) (f:List T) (x:T) (r:Nat),vs=[vf,vk,vx,.int (r:Int)]∧TR K H (.node f) vf∧TR K H (.node (aQ f)) vk∧TR K H x vx∧B 60 4400 (.node f)∧B 41 41 x∧Cw r f∧∀ H',Same H H'→Q (.bl true) H'
theorem Uo
  {Eu:Addr}{Ei:FuncData} (Qh:Fun K "run" "run" zJ Eu Ei) (Qa:FnOk P w K mg base CX0 134 Eu Ei ["text","tree","budget"] (aaQ K)) (PB:Binds K Ei ["text","tree","budget"] []) (Ph:mg "run"=some (.ref Eu))
  {zp:Addr}{yQ:FuncData} (Qj:Fun K "cost" "cost" vQ zp yQ) (Qd:FnOk P w K mg base CX0 134 zp yQ ["tally"] (Vr K)) (PK:Binds K yQ ["tally"] []) (Pk:mg "cost"=some (.ref zp))
  {NZ:Addr}{Np:FuncData} (Yq:Fun K "turned" "turned" pN NZ Np) (Yl:FnOk P w K mg base CX0 134 NZ Np ["tally"] (Vg K)) (X4:Binds K Np ["tally"] []) (Wx:mg "turned"=some (.ref NZ))
  {Es:Addr}{Ef:FuncData} (Qg:Fun K "tally_of" "tally_of" m_ Es Ef) (P_:FnOk P w K mg base CX0 134 Es Ef ["text","tree","budget"] (Tz K)) (Pz:Binds K Ef ["text","tree","budget"] []) (Pg:mg "tally_of"=some (.ref Es))
  {jV:Addr}{jQ:FuncData} (jX:Fun K "_law_parts" "_law_parts" gZ jV jQ) (qG:FnOk P w K mg base CX0 134 jV jQ ["_law_tree_here"] (xZ K 100)) (qy:Binds K jQ ["_law_tree_here"] []) (qg:mg "_law_parts"=some (.ref jV))
  (F:Fun K "_law_knows" "_law_knows" iY f fd):FnOk P w K mg base CX0 135 f fd ["_law_text_here","_law_made","_law_tree_here","_law_room"] (Z0 K):=by
 refine okQ F oE (fun vs H Q E h=>?_) (fun cdv A outer s H vs Q E hr h=>?_)
 ·obtain⟨vf,vk,vx,ft,x,r,rfl,_⟩:=h
  rfl
 obtain⟨vf,vk,vx,ft,x,r,rfl,tf,tk,tx,bf,bx,fo,q⟩:=h
 have hE:=hr.un
 have hE:(A.deeper (envOfC "_law_knows" (defScope iY) s.heap.objs.size f cdv)).units+401<cLine:=by lia
 refine⟨_,(aA (bN (i:=4) oE.nd rfl (Or.inl rfl) (aF Qa hr rfl Ph Qh.kp PB .nil pass0 (aj (qv 0) (aj (qv 1) (aj (qv 3) ak)))))
   (aA (cg (aZ op_ne (gB jl (qv 4) aH (fun _ _=>rfl)) eO (nomark _)) (aD (aV JF)) bL)
   (aA (bN (i:=5) oE.nd rfl (Or.inl rfl) (aF Qa hr rfl Ph Qh.kp PB .nil pass0 (aj (gB jl (qv 4) aH (fun _ _=>rfl)) (aj (qv 2) (aj aH ak)))))
   (aA (cg (aZ op_ne (gB jl (qv 5) aH (fun _ _=>rfl)) eO (nomark _)) (aD (aV JF)) bL)
   (aA (bN (i:=6) oE.nd rfl (Or.inl rfl) (aW op_add (aF Qd hr rfl Pk Qj.kp PK .nil pass0 (aj (aF Yl hr rfl Wx Yq.kp X4 .nil pass0 (aj (aF P_ hr rfl Pg Qg.kp Pz .nil pass0 (aj (qv 0) (aj (qv 1) (aj (gB jl (qv 4) aH (fun _ _=>rfl)) ak)))) ak)) ak)) (aF Qd hr rfl Pk Qj.kp PK .nil pass0 (aj (aF Yl hr rfl Wx Yq.kp X4 .nil pass0 (aj (aF P_ hr rfl Pg Qg.kp Pz .nil pass0 (aj (gB jl (qv 4) aH (fun _ _=>rfl)) (aj (qv 2) (aj (gB jl (qv 5) aH (fun _ _=>rfl)) ak)))) ak)) ak))))
   (aA (bN (i:=7) oE.nd rfl (Or.inl rfl) (aF Qa hr rfl Ph Qh.kp PB .nil pass0 (aj (qv 1) (aj (qv 2) (aj (aW op_add (aW op_add (qv 6) aH) (aW tM aH (aF qG hr rfl qg jX.kp qy .nil pass0 (aj (qv 0) ak)))) ak)))))
   (aD (aV (JD (aia hE) (nD BJ (qv 7) sS (oY aH)) (nD BJ (qv 5) sS (oY aH)) (nomark _)))))))))),?_⟩
 have fd:=bf.1
 have fp:=bf.2
 have bkn:=(pA bf).1
 refine ji (fun v=>[some (vf),some (vk),some (vx),some (.int ((r:Nat):Int)),some (v),none,none,none]) (fun _=>rfl) (fun v H'=>∃ q7 v',v=.ref q7∧Same H H'∧SqT K H' q7 [.str (sZ r [.node ft] [.node (aQ ft)]),v',nv (spT r [.node ft] [.node (aQ ft)])]∧TR K H' (zH r [.node ft] [.node (aQ ft)]) v') (fun R r'=>⟨_,rfl,_,rfl,_,rfl,vf,vk,.node ft,.node (aQ ft),r,rfl,tf,tk,fo.1 r (Nat.le_refl _),fun q7 v' H8 S8 hp tv=>r' _ _ ⟨q7,v',rfl,S8,hp,tv⟩⟩) (fun v7 H8 h8=>?_)
 obtain⟨q7,v',rfl,S8,hp8,tv8⟩:=h8
 by_cases he1:(goT r [.node ft] [.node (aQ ft)]).1=[]
 rotate_left
 ·rw [show sZ r [.node ft] [.node (aQ ft)]=V6 from if_neg he1] at hp8
  exact⟨_,rfl,q7,_,_,_,rfl,rfl,hp8,rfl,rfl,_,rfl,MN (by decide) (q _ S8)⟩
 obtain⟨_,bt⟩:=fo.2 he1
 have sane:∀ {b2:Nat},(goT 30 [ats (goT r [.node ft] [.node (aQ ft)]).2.1 0] [x]).1=[]→∀ b,Sane b [.node (aQ ft)] [x]:=fun {_} h2=>Za bf fo bx he1 h2
 rw [show sZ r [.node ft] [.node (aQ ft)]=wU from if_pos he1] at hp8
 rw [show zH r [.node ft] [.node (aQ ft)]=ats (goT r [.node ft] [.node (aQ ft)]).2.1 0 from if_pos he1] at tv8
 refine⟨_,rfl,q7,_,_,_,rfl,rfl,hp8,rfl,rfl,_,rfl,Hy (congrArg not (decide_eq_true rfl)) ?_⟩
 have aoH:spT r [.node ft] [.node (aQ ft)]≤r:=afT r _ _
 have ga1:=Xb he1
 have l1:=rC r [.node ft] [.node (aQ ft)]
 have w1:=Pr he1
 generalize hs1:(goT r [.node ft] [.node (aQ ft)]).2.1=s1 at *
 generalize hn1:(goT r [.node ft] [.node (aQ ft)]).2.2=n1 at *
 have ss:=Yw bt bx
 have tx8:=tx.mono (K:=K) (.of S8)
 dsimp only [tNext]
 refine ji (fun v=>[some (vf),some (vk),some (vx),some (.int ((r:Nat):Int)),some (.ref q7),some (v),none,none]) (fun _=>rfl) (fun v H'=>∃ q8 y8,v=.ref q8∧Same H8 H'∧SqT K H' q8 [.str (sZ 30 [ats s1 0] [x]),y8,nv (spT 30 [ats s1 0] [x])]∧TR K H' (zH 30 [ats s1 0] [x]) y8) (fun R r'=>⟨_,rfl,q7,_,_,_,rfl,rfl,hp8,rfl,_,rfl,v',vx,ats s1 0,x,30,rfl,tv8,tx8,ss 30 (Nat.le_refl _),fun q8 y8 H9 S9 hp tv=>r' _ _ ⟨q8,y8,rfl,S9,hp,tv⟩⟩) (fun v8 H9 h9=>?_)
 obtain⟨q8,y8,rfl,S9,hp9,tv9⟩:=h9
 by_cases he2:(goT 30 [ats s1 0] [x]).1=[]
 rotate_left
 ·rw [show sZ 30 [ats s1 0] [x]=V6 from if_neg he2] at hp9
  exact⟨_,rfl,q8,_,_,_,rfl,rfl,hp9,rfl,rfl,_,rfl,MN (by decide) (q _ (S8.trans S9))⟩
 have l2:=rC 30 [ats s1 0] [x]
 have w2:=Pr he2
 have aoG:spT 30 [ats s1 0] [x]≤30:=afT 30 _ _
 have ga2:=Xb he2
 have ajU:=sane (b2:=0) he2
 have d2:T.bM (goT 30 [ats s1 0] [x]).2.1≤223:=by
  obtain⟨N2,e2,i2⟩:=VJ (M:=81300) (a:=163) (by lia) he2 (xG bt.2) (GC bt bx)
  obtain⟨⟨⟨_,d2⟩,_⟩,_⟩:=i2 N2 (Nat.le_refl _)
  rw [e2] at d2
  have d2:(T.node (goT 30 [ats s1 0] [x]).2.1).deep≤163+2 * 30:=d2
  rw [T.aO] at d2
  exact d2
 have b2d:=pG _ 0 d2
 rw [show sZ 30 [ats s1 0] [x]=wU from if_pos he2] at hp9
 rw [show zH 30 [ats s1 0] [x]=ats (goT 30 [ats s1 0] [x]).2.1 0 from if_pos he2] at tv9
 generalize hs2:(goT 30 [ats s1 0] [x]).2.1=s2 at *
 generalize hn2:(goT 30 [ats s1 0] [x]).2.2=n2 at *
 refine⟨_,rfl,q8,_,_,_,rfl,rfl,hp9,rfl,rfl,_,rfl,Hy (congrArg not (decide_eq_true rfl)) ?_⟩
 have hrun:=afg l1 l2 w1 w2
 have UJ:=abv bf l1 l2
 have anJ:=afe ft n1 n2
 have S79:=S8.trans S9
 have k9:=Kt.of S79
 have tf9:=tf.mono k9
 have tk9:=tk.mono k9
 have tx9:=tx.mono k9
 have aiK:=dM (.of S9) hp8
 have akz:=tv8.mono (K:=K) (.of S9)
 dsimp only [tNext]
 refine ji (fun v=>[some (vf),some (vk),some (vx),some (.int ((r:Nat):Int)),some (.ref q7),some (.ref q8),some (v),none]) (fun _=>rfl) (fun v H'=>Same H9 H'∧v=.int ((bB (aX dj) 0 n1+13+(bB (aX dj) 0 n2+13):Nat):Int)) (fun R r'=>⟨_,rfl,_,rfl,_,rfl,q7,_,_,_,rfl,rfl,aiK,rfl,vf,vk,.node ft,.node (aQ ft),spT r [.node ft] [.node (aQ ft)],rfl,tf9,tk9,fo.1 _ aoH,fun c1 H10 S10 hc1=>?_⟩) (fun v9 H12 h12=>?_)
 ·rw [ga1,hn1] at hc1
  refine⟨c1,n1,rfl,hc1,l1,fun p11 H11 S11 h11=>⟨p11,_,rfl,h11,iC n1,fun H12 S12=>?_⟩⟩
  have Ye:=S10.trans (S11.trans S12)
  refine⟨_,rfl,q7,_,_,_,rfl,rfl,dM (.of Ye) aiK,rfl,_,rfl,_,rfl,q8,_,_,_,rfl,rfl,dM (.of Ye) hp9,rfl,v',vx,ats s1 0,x,spT 30 [ats s1 0] [x],rfl,akz.mono (.of Ye),tx9.mono (.of Ye),ss _ aoG,fun c2 H13 S13 hc2=>?_⟩
  rw [ga2,hn2] at hc2
  refine⟨c2,n2,rfl,hc2,l2,fun p14 H14 S14 h14=>⟨p14,_,rfl,h14,iC n2,fun H15 S15=>⟨_,_,rfl,rfl,r' _ _ ⟨Ye.trans (S13.trans (S14.trans S15)),?_⟩⟩⟩⟩
  show V.int (nT (turnT n1)+nT (turnT n2))=_
  rw [U_ l1,U_ l2,← Int.natCast_add]
 obtain⟨S12,rfl⟩:=h12
 have akC:=tf9.mono (K:=K) (.of S12)
 generalize hmo:bB (aX dj) 0 n1+13+(bB (aX dj) 0 n2+13)=mo at *
 generalize hmp:mo+10000+10 * (T.node ft).parts=mp at *
 obtain⟨hgo,_⟩:=ZJ anJ hrun rfl (b:=mp) (by lia)
 have hgo:goT mp [.node (aQ ft)] [x]=([],[ats s2 0],uO ft n1 n2):=hgo
 have hend:(goT mp [.node (aQ ft)] [x]).1=[]:=by rw [hgo]
 refine ji (fun v=>[some (vf),some (vk),some (vx),some (.int ((r:Nat):Int)),some (.ref q7),some (.ref q8),some (.int ((mo:Nat):Int)),some (v)]) (fun _=>rfl) (fun v H'=>∃ q10 y10 n10,v=.ref q10∧Same H12 H'∧SqT K H' q10 [.str wU,y10,n10]∧TR K H' (ats s2 0) y10) (fun R r'=>⟨_,rfl,_,rfl,_,rfl,_,_,rfl,rfl,_,rfl,vf,.node ft,rfl,akC,by lia,by lia,fun H13 S13=>⟨_,_,rfl,rfl,.inl ⟨by decide,by decide⟩,_,_,rfl,rfl,?_⟩⟩) (fun v11 H15 h15=>?_)
 ·refine⟨vk,vx,.node (aQ ft),x,mp,?_,tk9.mono (.of (S12.trans S13)),tx9.mono (.of (S12.trans S13)),ajU _,fun q10 y10 H15 S15 hp tv=>r' _ _ ⟨q10,y10,nv (spT mp [.node (aQ ft)] [x]),rfl,S13.trans S15,?_,?_⟩⟩
  ·rw [← hmp]
   exact congrArg (fun z=>[vk,vx,V.int z]) (by lia)
  ·rw [show sZ mp [.node (aQ ft)] [x]=wU from if_pos hend] at hp
   exact hp
  ·rw [show zH mp [.node (aQ ft)] [x]=ats (goT mp [.node (aQ ft)] [x]).2.1 0 from if_pos hend,hgo] at tv
   exact tv
 obtain⟨q10,y10,n10,rfl,S15,aoJ,akv⟩:=h15
 have afI:=S12.trans S15
 refine⟨_,rfl,2,rfl,q10,_,rfl,aoJ,fun a16 H16 S16 h16=>⟨_,rfl,2,rfl,q8,_,rfl,dM (.of (afI.trans S16)) hp9,fun a17 H17 S17 h17=>?_⟩⟩
 have h16:SqT K H16 a16 [.str wU,y10]:=h16
 have h17:SqT K H17 a17 [.str wU,y8]:=h17
 have dA:DR K H17 (.t [.s wU,ofT (ats s2 0)]) (.ref a16):=DR2 (dM (.of S17) h16) (zF.mpr rfl) (akv.mono (.of (S16.trans S17))).dr
 have dB:DR K H17 (.t [.s wU,ofT (ats s2 0)]) (.ref a17):=DR2 h17 (zF.mpr rfl) (tv9.mono (.of (afI.trans (S16.trans S17)))).dr
 refine⟨_,_,dA,dB,?_,?_⟩
 ·rw [Dt.deep,Dt.bM,Dt.bM,Dt.bM,Wh,Dt.deep]
  lia
 rw [Dt.uY]
 exact q _ (S79.trans (afI.trans (S16.trans S17)))
theorem ok_law
  {Bk:Addr}{Ay:FuncData} (ZG:Fun K "_law_deck" "_law_deck" lM Bk Ay) (Zw:FnOk P w K mg base CX0 139 Bk Ay ["_law_script"] (acR K)) (Zm:Binds K Ay ["_law_script"] []) (Y_:mg "_law_deck"=some (.ref Bk))
  {cZ:Addr}{cY:FuncData} (eF:Fun K "_law_next" "_law_next" gR cZ cY) (dI:FnOk P w K mg base CX0 139 cZ cY ["_law_deck_here","_law_many"] Gw) (eE:Binds K cY ["_law_deck_here","_law_many"] []) (d8:mg "_law_next"=some (.ref cZ))
  {zu:Addr}{yS:FuncData} (Ys:Fun K "_law_maker" "_law_maker" jL zu yS) (Yn:FnOk P w K mg base CX0 139 zu yS ["_law_deck_here","_law_way"] (Vl K)) (X6:Binds K yS ["_law_deck_here","_law_way"] []) (WD:mg "_law_maker"=some (.ref zu))
  {oh:Addr}{nR:FuncData} (Fp:Fun K "_law_any" "_law_any" kW oh nR) (Fj:FnOk P w K mg base CX0 139 oh nR ["_law_deck_here"] (aaR K)) (Er:Binds K nR ["_law_deck_here"] []) (Dz:mg "_law_any"=some (.ref oh))
  {Yc:Addr}{XF:FuncData} (aeh:Fun K "knot" "knot" yt Yc XF) (ad9:FnOk P w K mg base CX0 139 Yc XF ["text"] (acQ K)) (adV:Binds K XF ["text"] []) (adx:mg "knot"=some (.ref Yc))
  {Eu:Addr}{Ei:FuncData} (Qh:Fun K "run" "run" zJ Eu Ei) (Qa:FnOk P w K mg base CX0 139 Eu Ei ["text","tree","budget"] (aaQ K)) (PB:Binds K Ei ["text","tree","budget"] []) (Ph:mg "run"=some (.ref Eu))
  {jV:Addr}{jQ:FuncData} (jX:Fun K "_law_parts" "_law_parts" gZ jV jQ) (qG:FnOk P w K mg base CX0 139 jV jQ ["_law_tree_here"] (xZ K 100)) (qy:Binds K jQ ["_law_tree_here"] []) (qg:mg "_law_parts"=some (.ref jV))
  {zx:Addr}{yU:FuncData} (Jp:Fun K "_law_knows" "_law_knows" iY zx yU) (Jl:FnOk P w K mg base CX0 139 zx yU ["_law_text_here","_law_made","_law_tree_here","_law_room"] (Z0 K)) (Iz:Binds K yU ["_law_text_here","_law_made","_law_tree_here","_law_room"] []) (Ht:mg "_law_knows"=some (.ref zx))
  {lU:Addr}{lQ:FuncData} (gU:Fun K "_law_tree" "_law_tree" iQ lU lQ) (jz:FnOk P w K mg base CX0 139 lU lQ ["_law_deck_here","_law_deep"] (QD K 3)) (jy:Binds K lQ ["_law_deck_here","_law_deep"] []) (jx:mg "_law_tree"=some (.ref lU))
  (F:Fun K "law" "law" vB f fd):FnOk P w K mg base CX0 140 f fd ["_law_script"] (spLaw K):=by
 refine okQ F vO (fun vs H Q E h=>?_) (fun cdv A outer s H vs Q E hr h=>?_)
 ·obtain⟨a,ns,rfl,_⟩:=h
  rfl
 obtain⟨a,ns,rfl,hl,h63,q⟩:=h
 have hE:=hr.un
 have hE:(A.deeper (envOfC "law" (defScope vB) s.heap.objs.size f cdv)).units+401<cLine:=by lia
 refine⟨_,(aA (bN (i:=1) vO.nd rfl (Or.inl rfl) (aF Zw hr rfl Y_ ZG.kp Zm .nil pass0 (aj (qv 0) ak)))
   (aA (bN (i:=2) vO.nd rfl (Or.inl rfl) (aW op_mod (aF dI hr rfl d8 eF.kp eE .nil pass0 (aj (qv 1) (aj aH ak))) aH))
   (aA (bN (i:=3) vO.nd rfl (Or.inl rfl) (aF Yn hr rfl WD Ys.kp X6 .nil pass0 (aj (qv 1) (aj (qv 2) ak))))
   (aA (bN (i:=4) vO.nd rfl (Or.inl rfl) (aF Fj hr rfl Dz Fp.kp Er .nil pass0 (aj (qv 1) ak)))
   (aA (bN (i:=5) vO.nd rfl (Or.inl rfl) (aF ad9 hr rfl adx aeh.kp adV .nil pass0 (aj (qv 3) ak)))
   (aA (bN (i:=6) vO.nd rfl (Or.inl rfl) aH)
   (aA (cg (aZ Ow (qv 2) aH (nomark _)) (aD (aV (JD op_eq (gB jl (aF Qa hr rfl Ph Qh.kp PB .nil pass0 (aj (qv 5) (aj (qv 4) (aj aH ak)))) aH (fun _ _=>rfl)) eO (nomark _)))) bL)
   (aA (cg (aZ op_eq (qv 2) aH (nomark _)) (aD (bN (i:=6) vO.nd rfl (Or.inl rfl) (aW op_add aH (aW tM aH (aF qG hr rfl qg jX.kp qy .nil pass0 (aj (qv 5) ak)))))) bL)
   (aA (cg (QW.pt (aaY (V0 (oG (aF Jl hr rfl Ht Jp.kp Iz .nil pass0 (aj (qv 3) (aj (qv 5) (aj (qv 4) (aj (qv 6) ak))))))) (VR (aZ (agz hE) (aF ad9 hr rfl adx aeh.kp adV .nil pass0 (aj (qv 3) ak)) (qv 5) (nomark _))))) (aD (aV JF)) bL)
   (aD (aV (ake (JD wY (aF dI hr rfl d8 eF.kp eE .nil pass0 (aj (qv 1) (aj aH ak))) aH (nomark _)) (ahP (aF Jl hr rfl Ht Jp.kp Iz .nil pass0 (aj (qv 3) (aj (qv 5) (aj (aF jz hr rfl jx gU.kp jy .nil pass0 (aj (qv 1) (aj aH ak))) (aj (qv 6) ak)))))))))))))))))),?_⟩
 refine ji (fun v=>[some (.ref a),some (v),none,none,none,none,none]) (fun _=>rfl) (fun v H'=>∃ p,v=.ref p∧vp H' p) (fun R r=>⟨_,rfl,a,ns,rfl,hl,h63,fun p H1 S1 hp0 hk=>r _ _ ⟨p,rfl,hk⟩⟩) (fun v1 H1 h1=>?_)
 obtain⟨p,rfl,hk⟩:=h1
 refine ji (fun v=>[some (.ref a),some (.ref p),some (v),none,none,none,none]) (fun _=>rfl) (fun v H'=>∃ way:Int,v=.int way∧Dr p H1 H'∧0≤way∧way≤10) (fun R r=>⟨_,rfl,p,17,rfl,by decide,hk,fun w1 H3 d0 d1 D3=>⟨_,_,rfl,rfl,(by show (0:Int)<11; decide),?_⟩⟩) (fun v2 H2 h2=>?_)
 ·have:=Int.emod_nonneg w1 (show (11:Int)≠0 by decide)
  have:=Int.emod_lt_of_pos w1 (show (0:Int)<11 by decide)
  exact r _ _ ⟨w1 % 11,rfl,D3,by lia,by lia⟩
 obtain⟨way,rfl,D2,hw0,aoD⟩:=h2
 refine ji (fun v=>[some (.ref a),some (.ref p),some (.int way),some (v),none,none,none]) (fun _=>rfl) (fun v H'=>∃ f,Dr p H1 H'∧TR K H' (.node f) v∧B 60 4400 (.node f)∧Mk2 way f) (fun R r=>⟨_,rfl,_,rfl,p,way,rfl,hw0,aoD,D2.dH,fun y f H3 D3 t3 b3 m3=>r _ _ ⟨f,D2.trans D3,t3,b3,m3⟩⟩) (fun vf H3 h3=>?_)
 obtain⟨f,D3,tf3,bf,mf⟩:=h3
 refine ji (fun v=>[some (.ref a),some (.ref p),some (.int way),some (vf),some (v),none,none]) (fun _=>rfl) (fun v H'=>∃ xs,Dr p H1 H'∧TR K H' (.node f) vf∧TR K H' (.node xs) v∧B 41 41 (.node xs)) (fun R r=>⟨_,rfl,p,rfl,D3.dH,fun y xs H4 D4 t4 b4=>r _ _ ⟨xs,D3.trans D4,tf3.mono (D4.kt D3.dH),t4,b4⟩⟩) (fun vx H4 h4=>?_)
 obtain⟨xs,D4,tf4,tx4,bx⟩:=h4
 generalize T.node xs=x at tx4 bx
 refine ji (fun v=>[some (.ref a),some (.ref p),some (.int way),some (vf),some (vx),some (v),none]) (fun _=>rfl) (fun v H'=>Dr p H1 H'∧Same H4 H'∧TR K H' (.node (aQ f)) v) (fun R r=>⟨_,rfl,vf,f,rfl,tf4,bf.le (by lia) (by lia),fun y H5 S5 t5=>r _ _ ⟨D4.same S5,S5,t5⟩⟩) (fun vk H5 h5=>?_)
 obtain⟨D5,S5,tk5⟩:=h5
 have tf5:=tf4.mono (K:=K) (.of S5)
 have tx5:=tx4.mono (K:=K) (.of S5)
 obtain⟨⟨bk1,bk2⟩,bk3⟩:=pA bf
 refine ji (fun v=>[some (.ref a),some (.ref p),some (.int way),some (vf),some (vx),some (vk),some (v)]) (fun _=>rfl) (fun v H'=>v=.int ((30:Nat):Int)∧H'=H5) (fun R r=>r _ _ ⟨rfl,rfl⟩) (fun v6 H6 h6=>?_)
 obtain⟨rfl,rfl⟩:=h6
 by_cases w2:way<2
 ·refine⟨_,rfl,_,_,rfl,rfl,_,rfl,MN (decide_eq_true w2) ?_⟩
  have ever:(∀ b,Sane b [.node (aQ f)] [x])∧∀ b,(goT b [.node (aQ f)] [x]).1≠[]:=by
   rcases (by lia:way=0∨way=1) with w0 | w1
   ·obtain⟨ws,rfl,hw,hlw⟩:=mf.1 w0
    exact abu bf hw hlw bx
   ·obtain⟨ws,rfl,hw,hlw⟩:=mf.2.1 w1
    exact abt bf hw hlw bx
  refine⟨_,rfl,_,rfl,vk,vx,.node (aQ f),x,3200,rfl,tk5,tx5,ever.1 _,fun q8 y8 H8 S8 hp8 _=>?_⟩
  rw [show sZ 3200 [.node (aQ f)] [x]=V6 from if_neg (ever.2 _)] at hp8
  refine⟨q8,_,_,_,rfl,rfl,hp8,rfl,rfl,?_⟩
  rw [show decide (V.str V6=V.str (PySem.Str.ofString "out"))=true from decide_eq_true rfl]
  exact q _
 refine⟨_,rfl,_,_,rfl,rfl,_,rfl,Hy (decide_eq_false w2) ?_⟩
 dsimp only [tNext]
 refine adD (fun σ' H'=>∃ r:Nat,σ'=[some (.ref a),some (.ref p),some (.int way),some (vf),some (vx),some (vk),some (.int ((r:Nat):Int))]∧Same H6 H'∧Cw r f) (fun σ7 H7 h7=>?_) (fun N hN=>?_)
 rotate_left
 ·by_cases e2:way=2
  ·refine⟨_,rfl,rfl,_,rfl,MN (decide_eq_true (congrArg V.int e2)) ?_⟩
   have ef:=mf.2.2.1 e2
   subst ef
   refine⟨_,rfl,vk,.node (aQ cD),rfl,tk5,by lia,by lia,fun H7 S7=>⟨_,_,rfl,rfl,.inl ⟨by decide,by decide⟩,_,_,rfl,rfl,hN _ _ ⟨30+2 * (T.node (aQ cD)).parts,?_,S7,ag6⟩⟩⟩
   show [some (.ref a),some (.ref p),some (.int way),some (vf),some (vx),some (vk),some (V.int (30+2 * ((T.node (aQ cD)).parts:Nat)))]=_
   rw [show ((30+2 * (T.node (aQ cD)).parts:Nat):Int)=30+2 * ((T.node (aQ cD)).parts:Nat) by lia]
  ·refine⟨_,rfl,rfl,_,rfl,Hy (decide_eq_false (fun z=>e2 (V.int.inj z))) ?_⟩
   exact hN _ _ ⟨30,rfl,Same.refl _,afs bf (ae6 mf (by lia))⟩
 obtain⟨r,rfl,S7,fo⟩:=h7
 have tf7:=tf5.mono (K:=K) (.of S7)
 have tx7:=tx5.mono (K:=K) (.of S7)
 have tk7:=tk5.mono (K:=K) (.of S7)
 have D7:=D5.same S7
 refine⟨_,rfl,_,rfl,_,rfl,_,rfl,vf,vk,vx,f,x,r,rfl,tf7,tk7,tx7,bf,bx,fo,fun H8 S8=>?_⟩
 have tf8:=tf7.mono (K:=K) (.of S8)
 have tk8:=tk7.mono (K:=K) (.of S8)
 refine⟨_,rfl,iteF ?_⟩
 refine⟨_,rfl,vf,f,rfl,tf8,bf.le (by lia) (by lia),fun y9 H9 S9 t9=>⟨_,rfl,_,_,t9,tk8.mono (.of S9),by lia,_,rfl,Hy (by rw [T.uY]; rfl) ?_⟩⟩
 have D9:=(D7.same S8).same S9
 dsimp only [tNext]
 refine⟨_,rfl,p,3,rfl,by decide,D9.dH,fun m H10 m0 m1 D10=>⟨_,_,rfl,rfl,_,rfl,ite2 (fun _=>q _) (fun _=>?_)⟩⟩
 have k10:=(Kt.of (S8.trans S9)).trans (D10.kt D9.dH)
 refine⟨_,rfl,_,rfl,_,rfl,p,2,rfl,by decide,D10.dH,fun y11 u11 H11 D11 t11 s11=>⟨_,rfl,vf,vk,y11,f,u11,r,rfl,?_,?_,t11,bf,s11.1.b.le (by decide) (by decide),fo,fun H12 S12=>q _⟩⟩
 ·exact tf7.mono (k10.trans (D11.kt D10.dH))
 ·exact tk7.mono (k10.trans (D11.kt D10.dH))
end
end fY
namespace fY
open PySem PySem.Spec PyProof.Rows L2 Sw
abbrev gH:Stmt:=inClass (top 67) 0
abbrev iI:Stmt:=inClass (top 68) 0
abbrev jd:Stmt:=inClass (top 79) 0
abbrev iu:Stmt:=inClass (top 79) 1
abbrev je:Stmt:=inClass (top 80) 0
abbrev jB:Stmt:=inClass (top 80) 1
abbrev iJ:Stmt:=inClass (top 81) 0
abbrev g_:Stmt:=inClass (top 82) 0
abbrev j4:Stmt:=inClass (top 82) 1
abbrev qI:Stmt:=inClass (top 82) 2
abbrev lZ:Stmt:=inClass (top 82) 3
abbrev oW:Stmt:=inClass (top 82) 5
abbrev oX:Stmt:=inClass (top 82) 6
theorem FJ:FnScope ["self","item","behind"] ["self","item","behind"] (defScope gH):=⟨rfl,rfl,rfl,by decide +kernel,rfl,by decide +kernel,by decide +kernel⟩
theorem J3:FnScope ["self","tree","place"] ["self","tree","place"] (defScope iI):=⟨rfl,rfl,rfl,by decide +kernel,rfl,by decide +kernel,by decide +kernel⟩
theorem K7:FnScope ["self","tree"] ["self","tree"] (defScope jd):=⟨rfl,rfl,rfl,by decide +kernel,rfl,by decide +kernel,by decide +kernel⟩
theorem GJ:FnScope ["self"] ["self"] (defScope iu):=⟨rfl,rfl,rfl,by decide +kernel,rfl,by decide +kernel,by decide +kernel⟩
theorem K9:FnScope ["self","tree"] ["self","tree"] (defScope je):=⟨rfl,rfl,rfl,by decide +kernel,rfl,by decide +kernel,by decide +kernel⟩
theorem Oq:FnScope ["self","place"] ["self","place"] (defScope jB):=⟨rfl,rfl,rfl,by decide +kernel,rfl,by decide +kernel,by decide +kernel⟩
theorem J4:FnScope ["self","text"] ["self","text"] (defScope iJ):=⟨rfl,rfl,rfl,by decide +kernel,rfl,by decide +kernel,by decide +kernel⟩
theorem K8:FnScope ["self","stand","budget"] ["self","stand","budget"] (defScope g_):=⟨rfl,rfl,rfl,by decide +kernel,rfl,by decide +kernel,by decide +kernel⟩
theorem QZ:FnScope ["self"] ["self"] (defScope j4):=⟨rfl,rfl,rfl,by decide +kernel,rfl,by decide +kernel,by decide +kernel⟩
theorem YG:FnScope ["self"] ["self"] (defScope qI):=⟨rfl,rfl,rfl,by decide +kernel,rfl,by decide +kernel,by decide +kernel⟩
theorem Ue:FnScope ["self"] ["self"] (defScope lZ):=⟨rfl,rfl,rfl,by decide +kernel,rfl,by decide +kernel,by decide +kernel⟩
theorem pK:FnScope ["self","going","word","step","taken"] ["self"] (defScope oW):=⟨rfl,rfl,rfl,by decide +kernel,rfl,by decide +kernel,by decide +kernel⟩
theorem VG:FnScope ["self","step","going","word"] ["self","step","going","word"] (defScope oX):=⟨rfl,rfl,rfl,by decide +kernel,rfl,by decide +kernel,by decide +kernel⟩
end fY
namespace fY
open PySem PySem.Spec PyProof.Rows L2 Sw
section
variable {P:Program}{w:World}{K:PySem.W.Frag}{mg:Str→Option Value}{base:Heap}{f:Addr}{fd:FuncData}{ao aB aG aN aP aM:Addr}
theorem FQ (O:Own K ao aB aG aN aP aM)
  (F:Fun K "__init__" "Fronted.__init__" gH f fd):FnOk P w K mg base CX0 31 f fd ["self","item","behind"] (Vq ao):=by
 refine okQ F FJ (fun vs H Q E h=>?_) (fun cdv A outer s H vs Q E hr h=>?_)
 ·obtain⟨o,dx,y,z,rfl,_⟩:=h
  rfl
 obtain⟨o,dx,y,z,rfl,ho,q⟩:=h
 refine⟨_,(aA (fZ (qv 0) (qv 1) rfl)
   (aD (fZ (qv 0) (qv 2) rfl))),?_⟩
 refine⟨_,rfl,_,rfl,o,ao,dx,_,rfl,ho,O.rF.cl,O.fi,by show 0<1000; decide,?_⟩
 refine⟨_,rfl,_,rfl,o,ao,dx,_,rfl,upd_same,O.rF.cl,O.fb,by show 1<1000; decide,?_⟩
 have e:upd (upd H o (.ins ao dx (putF "item" y []))) o (.ins ao dx (putF "behind" z (putF "item" y [])))=upd H o (.ins ao dx (fF y z)):=by
  rw [lG,Ot (by decide +kernel)]
  rfl
 exact e ▸ q
theorem J7 (O:Own K ao aB aG aN aP aM)
  (F:Fun K "__init__" "Later.__init__" iI f fd):FnOk P w K mg base CX0 31 f fd ["self","tree","place"] (Vn aB):=by
 refine okQ F J3 (fun vs H Q E h=>?_) (fun cdv A outer s H vs Q E hr h=>?_)
 ·obtain⟨o,dx,v,p,rfl,_⟩:=h
  rfl
 obtain⟨o,dx,v,p,rfl,ho,q⟩:=h
 refine⟨_,(aA (fZ (qv 0) (qv 1) rfl)
   (aD (fZ (qv 0) (qv 2) rfl))),?_⟩
 refine⟨_,rfl,_,rfl,o,aB,dx,_,rfl,ho,O.rL.cl,O.lt,by show 0<1000; decide,?_⟩
 refine⟨_,rfl,_,rfl,o,aB,dx,_,rfl,upd_same,O.rL.cl,O.lp,by show 1<1000; decide,?_⟩
 have e:upd (upd H o (.ins aB dx (putF "tree" v []))) o (.ins aB dx (putF "place" (.int (p:Int)) (putF "tree" v [])))=upd H o (.ins aB dx (fL v p)):=by
  rw [lG,Ot (by decide +kernel)]
  rfl
 exact e ▸ q
theorem J8 (O:Own K ao aB aG aN aP aM)
  (F:Fun K "__init__" "Going.__init__" iJ f fd):FnOk P w K mg base CX0 31 f fd ["self","text"] (K1 aP):=by
 refine okQ F J4 (fun vs H Q E h=>?_) (fun cdv A outer s H vs Q E hr h=>?_)
 ·obtain⟨o,dx,a,rfl,_⟩:=h
  rfl
 obtain⟨o,dx,a,rfl,ho,q⟩:=h
 refine⟨_,(aA (fZ (qv 0) (qv 1) rfl)
   (aD (fZ (qv 0) aH rfl))),?_⟩
 refine⟨_,rfl,_,rfl,o,aP,dx,_,rfl,ho,O.Iu,O.gt,by show 0<1000; decide,?_⟩
 refine⟨_,rfl,o,aP,dx,_,rfl,upd_same,O.Iu,O.gp,by show 1<1000; decide,?_⟩
 have e:upd (upd H o (.ins aP dx (putF "text" (.ref a) []))) o (.ins aP dx (putF "place" (.int 0) (putF "text" (.ref a) [])))=upd H o (.ins aP dx (fG a 0)):=by
  rw [lG,Ot (by decide +kernel)]
  rfl
 exact e ▸ q
theorem Lx (O:Own K ao aB aG aN aP aM)
  (F:Fun K "__init__" "Text.__init__" je f fd):FnOk P w K mg base CX0 31 f fd ["self","tree"] (KZ aN):=by
 refine okQ F K9 (fun vs H Q E h=>?_) (fun cdv A outer s H vs Q E hr h=>?_)
 ·obtain⟨o,dx,v,rfl,_⟩:=h
  rfl
 obtain⟨o,dx,v,rfl,ho,q⟩:=h
 refine⟨_,(aA (fZ (qv 0) (qv 1) rfl)
   (aD (fZ (qv 0) (oH ak) rfl))),?_⟩
 refine⟨_,rfl,_,rfl,o,aN,dx,_,rfl,ho,O.cText,O.tt,by show 0<1000; decide,?_⟩
 refine⟨Nat.zero_le _,fun W g=>⟨_,rfl,o,aN,dx,putF "tree" v [],rfl,?_,O.cText,O.tw,by show 1<1000; decide,?_⟩⟩
 ·have nW:o≠W:=ne_of_none (h:=upd_same) g
  rw [upd_ne nW,upd_same]
 ·have nW:o≠W:=ne_of_none (h:=upd_same) g
  have hW:H W=none:=by rw [upd_ne (Ne.symm nW)] at g; exact g
  have e:upd (upd (upd H o (.ins aN dx (putF "tree" v []))) W (.lst [])) o (.ins aN dx (putF "words" (.ref W) (putF "tree" v [])))=upd (upd H W (.lst [])) o (.ins aN dx (fT v W)):=by
   rw [aku nW (H:=H),lG,Ot (by decide +kernel)]
   rfl
  exact e ▸ q W hW
theorem YT (O:Own K ao aB aG aN aP aM) (cI:mg "isinstance"=none)
  {mU:Addr}{mQ:FuncData} (Cy:Fun K "first" "first" oU mU mQ) (Cu:FnOk P w K mg base CX0 31 mU mQ ["tree"] (Jw K)) (Cp:Binds K mQ ["tree"] []) (Cd:mg "first"=some (.ref mU))
  (fJ:mg "Fronted"=some (.ref ao))
  (j7:mg "Later"=some (.ref aB))
  (F:Fun K "first_of" "first_of" nq f fd):FnOk P w K mg base CX0 32 f fd ["row"] (TF K ao aB aG aN):=by
 refine okQ F YC (fun vs H Q E h=>?_) (fun cdv A outer s H vs Q E hr h=>?_)
 ·obtain⟨x,t,M,H₀,rfl,_⟩:=h
  rfl
 obtain⟨x,t,M,H₀,rfl,g,hx,hd,q⟩:=h
 refine⟨_,(aA (cg (oG (cO jT rfl cI jj (aj (qv 0) (aj (bC (v:=.ref ao) rfl fJ rfl) ak)))) (aD (aV (bY (qv 0) rfl))) bL)
   (aA (cg (oG (cO jT rfl cI jj (aj (qv 0) (aj (bC (v:=.ref aB) rfl j7 rfl) ak)))) (aD (aV (gB jl (bY (qv 0) rfl) (bY (qv 0) rfl) (fun _ _=>rfl)))) bL)
   (aD (aV (aF Cu hr rfl Cd Cy.kp Cp .nil pass0 (aj (qv 0) ak)))))),?_⟩
 rcases hx.cases g with hu | ⟨a,dx,y,z,u,ts,rfl,ha,rfl,hy,hz⟩
 ·rcases hu with ht | ⟨a,dx,v,ts,p,rfl,ha,hv,hp,hl,rfl⟩
  ·obtain⟨b,ys,rfl,hb,_⟩:=vm ht
   refine⟨_,rfl,_,ao,false,rfl,.inr ⟨b,ys,rfl,hb,O.iTF⟩,_,rfl,iteF ?_⟩
   refine⟨_,rfl,_,aB,false,rfl,.inr ⟨b,ys,rfl,hb,O.iTL⟩,_,rfl,iteF ?_⟩
   exact⟨_,rfl,_,t,rfl,ht,hd,fun y H' S h=>q y H' S (.inl h)⟩
  ·refine⟨_,rfl,_,ao,false,rfl,.inl ⟨_,O.rL.ty ha,O.iLF⟩,_,rfl,iteF ?_⟩
   refine⟨_,rfl,_,aB,true,rfl,.inl ⟨_,O.rL.ty ha,O.iLL⟩,_,rfl,iteT ?_⟩
   obtain⟨b,ys,rfl,hb,hys⟩:=cN.mp hv
   obtain⟨w',ew⟩:∃ w',ts[p]?=some w':=⟨_,List.getElem?_eq_getElem hp⟩
   obtain⟨x',ex,tx'⟩:=hys.at ew
   refine⟨_,rfl,a,aB,dx,_,_,rfl,ha,O.rL.cl,O.lt,fX _ _ _,_,rfl,a,aB,dx,_,_,rfl,ha,O.rL.cl,O.lp,(cJ (by decide +kernel) _ _).trans (fX _ _ _),b,ys,p,x',rfl,rfl,hb,atI_nat ex,q _ _ (Same.refl _) (.inl ?_)⟩
   have:ats (T.node (ts.drop p)).kids 0=w':=by
    show ((ts.drop p)[0]?).getD leaf=w'
    rw [List.getElem?_drop,Nat.add_zero,ew]
    rfl
   rw [this]
   exact tx'
 ·refine⟨_,rfl,_,ao,true,rfl,.inl ⟨_,O.rF.ty ha,O.iFF⟩,_,rfl,iteT ?_⟩
  exact⟨_,rfl,a,ao,dx,_,_,rfl,ha,O.rF.cl,O.fi,fX _ _ _,q _ _ (Same.refl _) hy⟩
theorem aeZ (O:Own K ao aB aG aN aP aM) (gj:mg "len"=none)
  (j7:mg "Later"=some (.ref aB))
  {iM:Addr}{yV:FuncData} (N_:Mk K aB iM) (Ob:FnOk P w K mg base CX0 31 iM yV ["self","tree","place"] (Vn aB)) (sG:Binds K yV ["self","tree","place"] [])
  (F:Fun K "later" "later" uG f fd):FnOk P w K mg base CX0 33 f fd ["tree","place"] (ZX K ao aB aG aN):=by
 refine okQ F aeE (fun vs H Q E h=>?_) (fun cdv A outer s H vs Q E hr h=>?_)
 ·obtain⟨x,ts,p,M,H₀,rfl,_⟩:=h
  rfl
 obtain⟨x,ts,p,M,H₀,rfl,g,ht,hl,q⟩:=h
 refine⟨_,(aD (aV (rN (aZ Ow (qv 1) (cO call_len_seq rfl gj oN (aj (qv 0) ak)) (nomark _)) (j5 N_ Ob hr rfl j7 sG .nil pass0 (aj (qv 0) (aj (qv 1) ak))) (bA ak)))),?_⟩
 obtain⟨b,ys,rfl,hb,hys⟩:=cN.mp ht
 have hyl:=hys.length
 refine⟨_,rfl,_,rfl,b,ys,rfl,.inr hb,_,_,rfl,rfl,_,rfl,ite2 (fun h=>?_) (fun h=>?_)⟩
 ·have hp:p<ts.length:=by have:=of_decide_eq_true h; lia
  refine⟨_,rfl,_,rfl,fun o dx ho hd ne=>⟨o,dx,_,p,rfl,jf,?_⟩⟩
  have S:=jC (C:=aB) (fs:=fL (.ref b) p) ho hd ne
  have e:upd (mkO H o dx aB []) o (.ins aB dx (fL (.ref b) p))=mkO H o dx aB (fL (.ref b) p):=adp
  have fin:Q (.ref o) (mkO H o dx aB (fL (.ref b) p)):=q _ (setM M o (.row (.node (ts.drop p)))) _ S (.role g S ho ⟨_,jf⟩ (.inr ⟨dx,_,ts,p,jf,ht.mono (.of S),hp,hl,rfl⟩)) (.inr ⟨o,rfl,fu⟩)
  exact⟨rfl,e ▸ fin⟩
 ·have hp:ts.length≤p:=by
   have:¬ ((p:Int)<(ys.length:Int)):=fun z=>h (decide_eq_true z)
   lia
  refine⟨Nat.zero_le _,fun p1 g1=>?_⟩
  obtain⟨S1,t1⟩:=cA (K:=K) (ts:=[]) g1 (bJ.mpr rfl)
  refine q _ M _ S1 (.grow g S1) (.inl ?_)
  rw [List.drop_eq_nil_of_le hp]
  exact t1
theorem aa6 (O:Own K ao aB aG aN aP aM) (cI:mg "isinstance"=none)
  {SQ:Addr}{R9:FuncData} (aaA:Fun K "later" "later" uG SQ R9) (aaz:FnOk P w K mg base CX0 33 SQ R9 ["tree","place"] (ZX K ao aB aG aN)) (aaw:Binds K R9 ["tree","place"] []) (aam:mg "later"=some (.ref SQ))
  (fJ:mg "Fronted"=some (.ref ao))
  (j7:mg "Later"=some (.ref aB))
  (F:Fun K "rest_of" "rest_of" pQ f fd):FnOk P w K mg base CX0 34 f fd ["row"] (Vh K ao aB aG aN):=by
 refine okQ F aaT (fun vs H Q E h=>?_) (fun cdv A outer s H vs Q E hr h=>?_)
 ·obtain⟨x,t,M,H₀,rfl,_⟩:=h
  rfl
 obtain⟨x,t,M,H₀,rfl,g,hx,hd,hk,q⟩:=h
 refine⟨_,(aA (cg (oG (cO jT rfl cI jj (aj (qv 0) (aj (bC (v:=.ref ao) rfl fJ rfl) ak)))) (aD (aV (bY (qv 0) rfl))) bL)
   (aA (cg (oG (cO jT rfl cI jj (aj (qv 0) (aj (bC (v:=.ref aB) rfl j7 rfl) ak)))) (aD (aV (aF aaz hr rfl aam aaA.kp aaw .nil pass0 (aj (bY (qv 0) rfl) (aj (aW op_add (bY (qv 0) rfl) aH) ak))))) bL)
   (aD (aV (aF aaz hr rfl aam aaA.kp aaw .nil pass0 (aj (qv 0) (aj aH ak))))))),?_⟩
 rcases hx.cases g with hu | ⟨a,dx,y,z,u,ts,rfl,ha,rfl,hy,hz⟩
 ·rcases hu with ht | ⟨a,dx,v,ts,p,rfl,ha,hv,hp,hl,rfl⟩
  ·obtain⟨b,ys,rfl,hb,_⟩:=vm ht
   refine⟨_,rfl,_,ao,false,rfl,.inr ⟨b,ys,rfl,hb,O.iTF⟩,_,rfl,iteF ?_⟩
   refine⟨_,rfl,_,aB,false,rfl,.inr ⟨b,ys,rfl,hb,O.iTL⟩,_,rfl,iteF ?_⟩
   exact⟨_,rfl,_,t.kids,1,M,H₀,rfl,g,xT ht,hk,fun y M' H' S G h=>q y M' H' S G h⟩
  ·refine⟨_,rfl,_,ao,false,rfl,.inl ⟨_,O.rL.ty ha,O.iLF⟩,_,rfl,iteF ?_⟩
   refine⟨_,rfl,_,aB,true,rfl,.inl ⟨_,O.rL.ty ha,O.iLL⟩,_,rfl,iteT ?_⟩
   refine⟨_,rfl,a,aB,dx,_,_,rfl,ha,O.rL.cl,O.lt,fX _ _ _,_,rfl,a,aB,dx,_,_,rfl,ha,O.rL.cl,O.lp,(cJ (by decide +kernel) _ _).trans (fX _ _ _),_,_,rfl,rfl,v,ts,p+1,M,H₀,rfl,g,hv,hl,fun y M' H' S G h=>q y M' H' S G ?_⟩
   have:bD (T.node (ts.drop p))=.node (ts.drop (p+1)):=by
    show T.node ((ts.drop p).drop 1)=_
    rw [List.drop_drop]
   rw [this]
   exact h
 ·refine⟨_,rfl,_,ao,true,rfl,.inl ⟨_,O.rF.ty ha,O.iFF⟩,_,rfl,iteT ?_⟩
  exact⟨_,rfl,a,ao,dx,_,_,rfl,ha,O.rF.cl,O.fb,(cJ (by decide +kernel) _ _).trans (fX _ _ _),q _ M _ (Same.refl _) (.refl g) hz⟩
theorem V9 (O:Own K ao aB aG aN aP aM) (cI:mg "isinstance"=none)
  (j7:mg "Later"=some (.ref aB))
  (F:Fun K "unfronted" "unfronted" jt f fd):FnOk P w K mg base CX0 31 f fd ["row"] (Vf K aB):=by
 refine okQ F Vx (fun vs H Q E h=>?_) (fun cdv A outer s H vs Q E hr h=>?_)
 ·obtain⟨x,t,rfl,_⟩:=h
  rfl
 obtain⟨x,t,rfl,hu,q⟩:=h
 refine⟨_,(aA (cg (oG (cO jT rfl cI jj (aj (qv 0) (aj (bC (v:=.ref aB) rfl j7 rfl) ak)))) (aD (aV (nD BJ (bY (qv 0) rfl) (oY (bY (qv 0) rfl)) sS))) bL)
   (aD (aV (qv 0)))),?_⟩
 rcases hu with ht | ⟨a,dx,v,ts,p,rfl,ha,hv,hp,hl,rfl⟩
 ·obtain⟨b,ys,rfl,hb,_⟩:=vm ht
  refine⟨_,rfl,_,aB,false,rfl,.inr ⟨b,ys,rfl,hb,O.iTL⟩,_,rfl,iteF ?_⟩
  exact⟨_,rfl,q _ _ (Same.refl _) ht⟩
 ·refine⟨_,rfl,_,aB,true,rfl,.inl ⟨_,O.rL.ty ha,O.iLL⟩,_,rfl,iteT ?_⟩
  obtain⟨b,ys,rfl,hb,hys⟩:=cN.mp hv
  refine⟨_,rfl,a,aB,dx,_,_,rfl,ha,O.rL.cl,O.lt,fX _ _ _,_,rfl,a,aB,dx,_,_,rfl,ha,O.rL.cl,O.lp,(cJ (by decide +kernel) _ _).trans (fX _ _ _),(p:Int),rfl,b,ys,rfl,hb,fun p1 H1 S1 h1=>q _ _ S1 (vH h1 ?_)⟩
  rw [Nq]
  exact (hys.drop p).mono (.of S1)
theorem Ox (O:Own K ao aB aG aN aP aM) (cI:mg "isinstance"=none)
  {lR:Addr}{lO:FuncData} (Bp:Fun K "unfronted" "unfronted" jt lR lO) (Bo:FnOk P w K mg base CX0 31 lR lO ["row"] (Vf K aB)) (Bb:Binds K lO ["row"] []) (Af:mg "unfronted"=some (.ref lR))
  (fJ:mg "Fronted"=some (.ref ao))
  (F:Fun K "parts_within" "parts_within" iG f fd):FnOk P w K mg base CX0 32 f fd ["row","most"] (Vj K ao aB aG aN):=by
 refine okQ F kI (fun vs H Q E h=>?_) (fun cdv A outer s H vs Q E hr h=>?_)
 ·obtain⟨x,t,M,H₀,m,rfl,_⟩:=h
  rfl
 obtain⟨x,t,M,H₀,m,rfl,g,hx,hz,q⟩:=h
 refine⟨_,(aA (bN (i:=2) kI.nd rfl (Or.inl rfl) (oH (aj (qv 0) ak)))
   (aA (bN (i:=3) kI.nd rfl (Or.inl rfl) aH)
   (aA (yC PassesOwn.never (QW.pt (BP (Dj (qv 2) (fun _=>rfl)) (xM (aZ akm (qv 3) (qv 1) (nomark _))))) (aA (bN (i:=4) kI.nd rfl (Or.inl rfl) (rA PySem.F.plainAttrs_list PySem.F.slot_list_pop PySem.F.type_list_pop tO (qv 2)))
   (aD (cg (oG (cO jT rfl cI jj (aj (qv 4) (aj (bC (v:=.ref ao) rfl fJ rfl) ak)))) (aA (cU (gC PySem.F.plainAttrs_list PySem.F.slot_list_append PySem.F.type_list_append cV (qv 2) (aj (bY (qv 4) rfl) ak)))
   (aD (cU (gC PySem.F.plainAttrs_list PySem.F.slot_list_append PySem.F.type_list_append cV (qv 2) (aj (bY (qv 4) rfl) ak))))) (aA (ac0 (i:=3) kI.nd rfl (Or.inl rfl) aH Hz)
   (aD (cU (gC PySem.F.plainAttrs_list PySem.F.slot_list_extend PySem.F.type_list_extend aal (qv 2) (aj (aF Bo hr rfl Af Bp.kp Bb .nil pass0 (aj (qv 4) ak)) ak)))))))))
   (aD (aV (qv 3)))))),?_⟩
 refine⟨_,rfl,(by show 1≤sizeLine; decide),fun p hp=>?_⟩
 refine⟨WPW K M H x m t.parts p,⟨_,[x],[t],0,none,rfl,same_new hp _,upd_same,bh.one (hx.mono (Kt.new hp) fun _ _ z=>z),by rw [T.aq,T.aR]; lia,rfl⟩,?_⟩
 rintro μ σ H' ⟨ys,ts,c,o,rfl,S,hl,ha,hc,rfl⟩
 refine⟨_,rfl,!ys.isEmpty,.inl ⟨ys,SqL.of hl,rfl⟩,ite2 (fun hb=>?_) (fun hb=>?_)⟩
 ·refine⟨_,rfl,_,rfl,_,_,rfl,rfl,_,rfl,ite2 (fun hle=>?_) (fun hle=>?_)⟩
  ·have hne:ys≠[]:=by rintro rfl; exact absurd hb (by decide)
   obtain⟨u,ts0,y,rfl,hy,ha0,hu⟩:=ad0 ha hne
   have hyl:=ha0.length
   rw [List.length_reverse] at hyl
   have hpp:=T.aq u ts0
   have hlp:=T.cQ ts0
   have hup:=T.i_ u
   refine⟨fun σ' H'=>∃ m',m'<2 * T.au (u::ts0) - (u::ts0).length∧WPW K M H x m t.parts p m' σ' H',fun _ _ h=>h,?_⟩
   refine⟨_,rfl,.inl ⟨rfl,_,SqL.of hl⟩,p,ys,y,rfl,rfl,hl,hy,?_⟩
   have k1:=Ki.lst (o:=.lst ys.dropLast) hl
   have g1:=g.grow S
   rcases hu.cases g1 with hu | ⟨a,dx,y1,z1,u1,ts1,rfl,ha1,rfl,hy1,hz1⟩
   ·have hu1:=hu.mono k1
    refine⟨_,rfl,y,ao,false,rfl,hu1.ais O,_,rfl,iteF ?_⟩
    refine⟨_,rfl,_,_,rfl,rfl,?_⟩
    refine⟨_,rfl,.inl ⟨rfl,_,SqL.of upd_same⟩,_,rfl,y,u,rfl,hu1,fun y2 H2 S2 t2=>?_⟩
    obtain⟨b2,zs2,rfl,hb2,hz2⟩:=vm t2
    have hzl:=hz2.length
    have hk:=T.dN u
    have hlk:=T.cQ u.kids
    have h2:=S2 _ _ (upd_same (H:=H') (a:=p) (o:=.lst ys.dropLast))
    refine⟨p,b2,ys.dropLast,zs2,rfl,rfl,h2,hb2,Bx (by lia),?_⟩
    refine⟨_,?_,ys.dropLast++zs2,u.kids.reverse++ts0,c+1,_,rfl,?_,upd_same,?_,?_,rfl⟩
    ·rw [T.cB,Dm,List.length_append,List.length_reverse,hpp]
     show _<2 * _ - (ts0.length+1)
     lia
    ·exact eG ((eG S hp).trans S2) hp
    ·rw [List.reverse_append,List.reverse_reverse]
     exact bh.append (iw (k1.kt.trans ((Kt.of S2).trans (Kt.lst h2))) ha0) (iw (Kt.lst h2) (Qu hz2))
    ·rw [T.cB,Dm]
     lia
   ·refine⟨_,rfl,_,ao,true,rfl,.inl ⟨_,O.rF.ty (k1.ins _ _ _ _ ha1),O.iFF⟩,_,rfl,iteT ?_⟩
    refine⟨_,rfl,.inl ⟨rfl,_,SqL.of upd_same⟩,_,rfl,a,ao,dx,_,_,rfl,k1.ins _ _ _ _ ha1,O.rF.cl,O.fi,fX _ _ _,p,_,_,rfl,rfl,upd_same,gG (by lia),?_⟩
    rw [lG]
    have k2:=Ki.lst (o:=.lst (ys.dropLast++[y1])) hl
    refine⟨_,rfl,.inl ⟨rfl,_,SqL.of upd_same⟩,_,rfl,a,ao,dx,_,_,rfl,k2.ins _ _ _ _ ha1,O.rF.cl,O.fb,(cJ (by decide +kernel) _ _).trans (fX _ _ _),p,_,_,rfl,rfl,upd_same,gG (by rw [List.length_append,List.length_singleton]; lia),?_⟩
    rw [lG]
    have k3:=Ki.lst (o:=.lst (ys.dropLast++[y1]++[z1])) hl
    have e1:=T.aL (u1::ts1)
    have e2:=T.aq u1 ts1
    have e3:=T.aL ts1
    refine⟨_,?_,ys.dropLast++[y1]++[z1],.node ts1::u1::ts0,c,_,rfl,eG S hp,upd_same,?_,?_,rfl⟩
    ·rw [T.aq,T.aq,hpp]
     show _ - (ts0.length+1+1)<_ - (ts0.length+1)
     lia
    ·rw [List.reverse_cons,List.reverse_cons]
     exact bh.append (bh.append (iw k3.kt ha0) (bh.one (hy1.mono k3.kt fun _ _ z=>z))) (bh.one (hz1.mono k3.kt fun _ _ z=>z))
    ·rw [T.aq,T.aq]
     lia
  ·have hle':m<c:=by
    have:¬ ((c:Int)≤(m:Int)):=fun z=>hle (decide_eq_true z)
    lia
   exact⟨_,rfl,q c _ S (fun z=>by lia) (fun _=>hle')⟩
 ·have hys:ys=[]:=by
   cases ys with
   | nil=>rfl
   | cons _ _=>exact absurd rfl hb
  subst hys
  have hts:=all_nil ha
  subst hts
  rw [T.aR] at hc
  exact iteF ⟨_,rfl,q c _ S (fun _=>by lia) (fun _=>by lia)⟩
theorem abb (O:Own K ao aB aG aN aP aM) (cI:mg "isinstance"=none) (cW:mg "tuple"=none)
  {lR:Addr}{lO:FuncData} (Bp:Fun K "unfronted" "unfronted" jt lR lO) (Bo:FnOk P w K mg base CX0 31 lR lO ["row"] (Vf K aB)) (Bb:Binds K lO ["row"] []) (Af:mg "unfronted"=some (.ref lR))
  (fJ:mg "Fronted"=some (.ref ao))
  (F:Fun K "as_tree" "as_tree" pY f fd):FnOk P w K mg base CX0 32 f fd ["row"] (Vs K ao aB aG aN):=by
 refine okQ F tE (fun vs H Q E h=>?_) (fun cdv A outer s H vs Q E hr h=>?_)
 ·obtain⟨x,t,M,H₀,rfl,_⟩:=h
  rfl
 obtain⟨x,t,M,H₀,rfl,g,hx,hz,q⟩:=h
 refine⟨_,(aA (bN (i:=1) tE.nd rfl (Or.inl rfl) (oH (aj (qv 0) ak)))
   (aA (bN (i:=2) tE.nd rfl (Or.inl rfl) (oH (aj (oH ak) ak)))
   (aD (yC PassesOwn.never (oG JF) (aA (bN (i:=3) tE.nd rfl (Or.inl rfl) (gB ix_list (qv 1) (zL vI aH) (fun _ _=>rfl)))
   (aA (cg (oG (cO jT rfl cI jj (aj (qv 3) (aj (bC (v:=.ref ao) rfl fJ rfl) ak)))) (aA (ahM (bY (qv 3) rfl) (ahO (qv 1) (zL vI aH) set_list))
   (aA (cU (gC PySem.F.plainAttrs_list PySem.F.slot_list_append PySem.F.type_list_append cV (qv 1) (aj (bY (qv 3) rfl) ak)))
   (aA (cU (gC PySem.F.plainAttrs_list PySem.F.slot_list_append PySem.F.type_list_append cV (qv 2) (aj (oH ak) ak)))
   (aD YH)))) bL)
   (aA (cU (rA PySem.F.plainAttrs_list PySem.F.slot_list_pop PySem.F.type_list_pop tO (qv 1)))
   (aA (bN (i:=4) tE.nd rfl (Or.inl rfl) (aW bH (jw gD rfl cW nU (aj (rA PySem.F.plainAttrs_list PySem.F.slot_list_pop PySem.F.type_list_pop tO (qv 2)) ak)) (aF Bo hr rfl Af Bp.kp Bb .nil pass0 (aj (qv 3) ak))))
   (aA (cg (V0 (Dj (qv 1) (fun _=>rfl))) (aD (aV (qv 4))) bL)
   (aD (cU (gC PySem.F.plainAttrs_list PySem.F.slot_list_append PySem.F.type_list_append cV (gB ix_list (qv 2) (zL vI aH) (fun _ _=>rfl)) (aj (qv 4) ak))))))))))))),?_⟩
 refine⟨_,rfl,(by show 1≤sizeLine; decide),fun pa ga=>?_⟩
 refine⟨Nat.zero_le _,fun pq gq=>⟨(by show 1≤sizeLine; decide),fun pt gt=>?_⟩⟩
 have Sa:=same_new ga (.lst [x])
 have Sq:=same_new gq (.lst [])
 have St:=same_new gt (.lst [V.ref pq])
 have n1:pa≠pq:=ne_of_none (h:=upd_same) gq
 have hpa:upd (upd H pa (.lst [x])) pq (.lst []) pa=some (.lst [x]):=by rw [upd_ne n1,upd_same]
 have n2:pa≠pt:=ne_of_none hpa gt
 have n3:pq≠pt:=ne_of_none (h:=upd_same) gt
 have a0:AsT K H (upd (upd (upd H pa (.lst [x])) pq (.lst [])) pt (.lst [V.ref pq])) pt pa [V.ref pq] [[]] [x]:=by
  have hq0:H pq=none:=Sa.free gq
  have ht0:H pt=none:=(Sa.trans Sq).free gt
  refine⟨⟨ht0,(Sa.trans Sq).trans St,upd_same,bh.one ⟨pq,[],rfl,hq0,by rw [upd_ne n3,upd_same],bJ.mpr rfl⟩,?_⟩,ga,by rw [upd_ne n2]; exact hpa,?_⟩
  ·simp [Ne.symm n3]
  ·simp [n1,n2]
 have S0:=(Sa.trans Sq).trans St
 generalize upd (upd (upd H pa (.lst [x])) pq (.lst [])) pt (.lst [V.ref pq])=Hs at a0 S0
 refine⟨fun μ σ H'=>∃ (ys zs:List V) (st:List (List T)) (as:List T) (o3 o4:Option V),σ=[some x,some (.ref pa),some (.ref pt),o3,o4]∧AsT K H H' pt pa ys st zs∧bh (RV K M H') as.reverse zs∧as≠[]∧st.length=as.length∧CV st as=t∧T.au as+(st.map List.length).sum≤t.parts∧μ=2 * T.au as - as.length,⟨_,[.ref pq],[x],[[]],[t],none,none,rfl,a0,bh.one (hx.mono (.of S0) fun _ _ z=>z),by simp,rfl,by show T.node ([]++t.kids)=t; cases t; rfl,by rw [T.aq,T.aR]; show _+0≤_; lia,rfl⟩,?_⟩
 rintro μ σ H1 ⟨ys,zs,st,as,o3,o4,rfl,A1,ha,hne,hlen,hval,hsum,rfl⟩
 refine⟨_,rfl,iteT ?_⟩
 have aoC:zs≠[]:=by
  rintro rfl
  exact hne (all_nil ha)
 obtain⟨u,as0,zs0,y,rfl,rfl,ha0,hu⟩:=nZ ha aoC
 have hzl:=ha0.length
 rw [List.length_reverse] at hzl
 have hpp:=T.aq u as0
 have hlp:=T.cQ as0
 have hup:=T.i_ u
 have g1:=g.grow A1.rows.same
 refine⟨fun σ' H'=>∃ m',m'<2 * T.au (u::as0) - (u::as0).length∧∃ (ys zs:List V) (st:List (List T)) (as:List T) (o3 o4:Option V),σ'=[some x,some (.ref pa),some (.ref pt),o3,o4]∧AsT K H H' pt pa ys st zs∧bh (RV K M H') as.reverse zs∧as≠[]∧st.length=as.length∧CV st as=t∧T.au as+(st.map List.length).sum≤t.parts∧m'=2 * T.au as - as.length,fun _ _ h=>h,?_⟩
 refine⟨_,rfl,1,rfl,pa,_,_,_,rfl,rfl,SqL.of A1.at_,Cr,?_⟩
 rcases hu.cases g1 with hu | ⟨a,dx,y1,z1,u1,ts1,rfl,ha1,rfl,hy1,hz1⟩
 ·refine⟨_,rfl,y,ao,false,rfl,hu.ais O,_,rfl,iteF ?_⟩
  have hk:=T.dN u
  refine⟨_,rfl,.inl ⟨rfl,_,SqL.of A1.at_⟩,pa,_,_,rfl,rfl,A1.at_,mY _ _,?_⟩
  rw [mZ]
  have k1:=Ki.lst (o:=.lst zs0) A1.at_
  have A2:AsT K H (upd H1 pa (.lst zs0)) pt pa ys st zs0:=A1.place
  generalize upd H1 pa (.lst zs0)=H2 at k1 A2
  have hu2:=hu.mono k1
  have ha2:=iw k1.kt ha0
  obtain⟨l,st0,rfl⟩:∃ l st0,st=l::st0:=by
   cases st with
   | nil=>exact absurd hlen (by simp)
   | cons l st0=>exact⟨l,st0,rfl⟩
  obtain⟨ys0,b,xs,rfl,nRb,hb,hxs,A3⟩:=A2.shut
  refine⟨_,rfl,.inl ⟨rfl,_,SqL.of A2.rows.at_⟩,pt,_,_,rfl,rfl,A2.rows.at_,mY _ _,?_⟩
  rw [mZ]
  have k3:=Ki.lst (o:=.lst ys0) A2.rows.at_
  have hb3:upd H2 pt (.lst ys0) b=some (.lst xs):=by rw [upd_ne (Ne.symm nRb)]; exact hb
  have aiJ:=hxs.mono k3.kt
  generalize upd H2 pt (.lst ys0)=H3 at k3 A3 hb3 aiJ
  refine⟨b,xs,rfl,.inl ⟨SqL.of hb3,fun p4 g4=>?_⟩⟩
  obtain⟨S4,t4⟩:=cA (K:=K) g4 aiJ
  have hu4:=(hu2.mono k3).mono (Ki.of S4)
  have hsl:(List.map List.length (l::st0)).sum=l.length+(List.map List.length st0).sum:=rfl
  refine⟨_,rfl,y,u,rfl,hu4,fun y5 H5 S5 t5=>?_⟩
  have t5':TR K H5 (.node u.kids) y5:=xT t5
  have hlk:=T.cQ u.kids
  refine cG (t4.mono (.of S5)) t5' (Bx (by lia)) (fun z6 H6 S6 t6=>?_)
  have S36:=S4.trans (S5.trans S6)
  have A6:=A3.grow S36
  refine⟨_,rfl,!zs0.isEmpty,.inl ⟨zs0,SqL.of A6.at_,rfl⟩,ite2 (fun he=>?_) (fun he=>?_)⟩
  ·have hz0:zs0=[]:=by
    cases zs0 with
    | nil=>rfl
    | cons _ _=>exact absurd he (by simp)
   subst hz0
   have:=all_nil ha0
   subst this
   have hs0:st0=[]:=by
    have:st0.length+1=0+1:=hlen
    exact List.length_eq_zero_iff.mp (by lia)
   subst hs0
   refine⟨_,rfl,q _ _ A6.rows.same ?_⟩
   rw [← hval]
   exact t6
  ·have hz0:zs0≠[]:=by rintro rfl; exact he rfl
   have afk:as0≠[]:=by
    rintro rfl
    cases ha0
    exact hz0 rfl
   obtain⟨l',st1,rfl⟩:∃ l' st1,st0=l'::st1:=by
    cases st0 with
    | nil =>
     have h1:0+1=as0.length+1:=hlen
     exact absurd (List.length_eq_zero_iff.mp (by lia)) afk
    | cons l' st1=>exact⟨l',st1,rfl⟩
   obtain⟨ys1,c,ws,rfl,hc,hwl,A7⟩:=A6.add t6
   have aq0:(List.map List.length (l'::st1)).sum=l'.length+(List.map List.length st1).sum:=rfl
   refine⟨_,rfl,1,rfl,pt,_,_,_,rfl,rfl,SqL.of A6.rows.at_,Cr,.inl ⟨rfl,_,SqL.of hc⟩,_,rfl,c,_,_,rfl,rfl,hc,gG (by lia),?_⟩
   refine⟨_,?_,_,zs0,_,as0,_,_,rfl,A7,?_,afk,?_,?_,?_,rfl⟩
   ·rw [hpp]
    show _<_ - (as0.length+1)
    lia
   ·exact iw (k3.kt.trans ((Kt.of S36).trans (Kt.lst hc))) ha2
   ·have h1:st1.length+1+1=as0.length+1:=hlen
    show st1.length+1=as0.length
    lia
   ·rw [← hval]
    cases as0 with
    | nil=>exact absurd rfl afk
    | cons _ _=>rw [CV]
   ·show _+((l'++[_]).length+(List.map List.length st1).sum)≤_
    rw [List.length_append,List.length_singleton]
    lia
 ·have e1:=T.aL (u1::ts1)
  have e2:=T.aq u1 ts1
  have e3:=T.aL ts1
  refine⟨_,rfl,_,ao,true,rfl,.inl ⟨_,O.rF.ty ha1,O.iFF⟩,_,rfl,iteT ?_⟩
  refine⟨_,rfl,a,ao,dx,_,_,rfl,ha1,O.rF.cl,O.fb,(cJ (by decide +kernel) _ _).trans (fX _ _ _),_,rfl,1,rfl,pa,_,-1,_,rfl,rfl,A1.at_,agU _ _,?_⟩
  rw [aeB]
  have k1:=Ki.lst (o:=.lst (zs0++[z1])) A1.at_
  have A2:AsT K H (upd H1 pa (.lst (zs0++[z1]))) pt pa ys st (zs0++[z1]):=A1.place
  generalize upd H1 pa (.lst (zs0++[z1]))=H2 at k1 A2
  refine⟨_,rfl,.inl ⟨rfl,_,SqL.of A2.at_⟩,_,rfl,a,ao,dx,_,_,rfl,k1.ins _ _ _ _ ha1,O.rF.cl,O.fi,fX _ _ _,pa,_,_,rfl,rfl,A2.at_,gG (by rw [List.length_append,List.length_singleton]; lia),?_⟩
  have k2:=Ki.lst (o:=.lst (zs0++[z1]++[y1])) A2.at_
  have A3:AsT K H (upd H2 pa (.lst (zs0++[z1]++[y1]))) pt pa ys st (zs0++[z1]++[y1]):=A2.place
  generalize upd H2 pa (.lst (zs0++[z1]++[y1]))=H3 at k2 A3
  refine⟨_,rfl,.inl ⟨rfl,_,SqL.of A3.rows.at_⟩,Nat.zero_le _,fun pn gn=>⟨pt,_,_,rfl,rfl,same_new gn _ _ _ A3.rows.at_,?_,?_⟩⟩
  ·have hyl:=A3.rows.rows.length
   rw [List.length_reverse] at hyl
   exact gG (by
    have h1:st.length=as0.length+1:=hlen
    lia)
  ·have A4:=A3.enter gn
   have k4:Kt H3 (upd (upd H3 pn (.lst [])) pt (.lst (ys++[.ref pn]))):=(Kt.new gn).trans (Kt.lst (same_new gn _ _ _ A3.rows.at_))
   have k:=k1.kt.trans (k2.kt.trans k4)
   obtain⟨l,st0,rfl⟩:∃ l st0,st=l::st0:=by
    cases st with
    | nil=>exact absurd hlen (by simp)
    | cons l st0=>exact⟨l,st0,rfl⟩
   refine⟨_,?_,_,_,_,u1::.node ts1::as0,_,_,rfl,A4,?_,by simp,?_,?_,?_,rfl⟩
   ·rw [T.aq,T.aq,hpp]
    show _ - (as0.length+1+1)<_ - (as0.length+1)
    lia
   ·rw [List.reverse_cons,List.reverse_cons]
    exact bh.append (bh.append (iw k ha0) (bh.one (hz1.mono k fun _ _ z=>z))) (bh.one (hy1.mono k fun _ _ z=>z))
   ·have h1:(l::st0).length=as0.length+1:=hlen
    show (l::st0).length+1=as0.length+1+1
    rw [h1]
   ·rw [aer]
    exact hval
   ·have e9:(List.map List.length ([]::l::st0)).sum=(List.map List.length (l::st0)).sum:=by simp
    rw [T.aq,T.aq,e9]
    lia
end
end fY
namespace fY
open PySem PySem.Spec PyProof.Rows L2 Sw
section
variable {P:Program}{w:World}{K:PySem.W.Frag}{mg:Str→Option Value}{base:Heap}{f:Addr}{fd:FuncData}{ao aB aG aN aP aM:Addr}
theorem YQ (O:Own K ao aB aG aN aP aM) {kj:Value} (oJ:mg "FORK"=some kj) (k_:RelV (.int 7) kj) {mW:Value} (sV:mg "FORK_NO"=some mW) (mX:RelV (.int 8) mW) {kh:Value} (qL:mg "FORK_YES"=some kh) (kZ:RelV (.int 7) kh) {eV:Value} (gA:mg "WHILE"=some eV) (eX:RelV (.int 8) eV) {pH:Value} (yI:mg "WHILE_PAST"=some pH) (pZ:RelV (.int 10) pH) {iW:Value} (mF:mg "WHILE_INTO"=some iW) (iZ:RelV (.int 9) iW) {j_:Value} (qK:mg "NAMELESS"=some j_) (kY:RelV (.int 9) j_) {vK:Value} (Hu:mg "NO_WORD"=some vK) (vU:RelV (.int 11) vK)
  (F:Fun K "place_of" "place_of" kJ f fd):FnOk P w K mg base CX0 31 f fd ["sort","top"] (ZW K ao aB aG aN):=by
 refine okQ F Yz (fun vs H Q E h=>?_) (fun cdv A outer s H vs Q E hr h=>?_)
 ·obtain⟨k,x,t,M,H₀,rfl,_⟩:=h
  rfl
 obtain⟨k,x,t,M,H₀,rfl,g,hx,hd,q⟩:=h
 have hE:=hr.un
 have hE:(A.deeper (envOfC "place_of" (defScope kJ) s.heap.objs.size f cdv)).units+401<cLine:=by lia
 refine⟨_,(aA (cg (aZ op_eq (qv 0) (bC (v:=.int 7) rfl oJ k_) (nomark _)) (aD (aV (rN (aZ (V7 hE) (qv 1) (bA ak) (nomark _)) (bC (v:=.int 8) rfl sV mX) (bC (v:=.int 7) rfl qL kZ)))) bL)
   (aA (cg (aZ op_eq (qv 0) (bC (v:=.int 8) rfl gA eX) (nomark _)) (aD (aV (rN (aZ (V7 hE) (qv 1) (bA ak) (nomark _)) (bC (v:=.int 10) rfl yI pZ) (bC (v:=.int 9) rfl mF iZ)))) bL)
   (aD (aV (rN (aZ op_eq (qv 0) (bC (v:=.int 9) rfl qK kY) (nomark _)) (bC (v:=.int 11) rfl Hu vU) (qv 0)))))),?_⟩
 refine⟨_,rfl,rfl,_,rfl,ite2 (fun h7=>?_) (fun h7=>?_)⟩
 ·have h7:k=7:=by have:=V.int.inj (of_decide_eq_true h7); lia
  refine⟨_,rfl,Nat.zero_le _,fun p gp=>aar O g hx (by lia) gp ⟨_,rfl,ite2 (fun he=>?_) (fun he=>?_)⟩⟩
  ·have:=q _ (same_new gp (.tup []))
   rw [tK,if_pos h7,if_pos (of_decide_eq_true he)] at this
   exact this
  ·have:=q _ (same_new gp (.tup []))
   rw [tK,if_pos h7,if_neg (fun z=>he (decide_eq_true z))] at this
   exact this
 have h7:¬ k=7:=fun z=>h7 (decide_eq_true (by rw [z]; rfl))
 refine⟨_,rfl,rfl,_,rfl,ite2 (fun h8=>?_) (fun h8=>?_)⟩
 ·have h8:k=8:=by have:=V.int.inj (of_decide_eq_true h8); lia
  refine⟨_,rfl,Nat.zero_le _,fun p gp=>aar O g hx (by lia) gp ⟨_,rfl,ite2 (fun he=>?_) (fun he=>?_)⟩⟩
  ·have:=q _ (same_new gp (.tup []))
   rw [tK,if_neg h7,if_pos h8,if_pos (of_decide_eq_true he)] at this
   exact this
  ·have:=q _ (same_new gp (.tup []))
   rw [tK,if_neg h7,if_pos h8,if_neg (fun z=>he (decide_eq_true z))] at this
   exact this
 have h8:¬ k=8:=fun z=>h8 (decide_eq_true (by rw [z]; rfl))
 refine⟨_,rfl,rfl,_,rfl,ite2 (fun h9=>?_) (fun h9=>?_)⟩
 ·have h9:k=9:=by have:=V.int.inj (of_decide_eq_true h9); lia
  have:=q _ (Same.refl H)
  rw [tK,if_neg h7,if_neg h8,if_pos h9] at this
  exact this
 ·have h9:¬ k=9:=fun z=>h9 (decide_eq_true (by rw [z]; rfl))
  have:=q _ (Same.refl H)
  rw [tK,if_neg h7,if_neg h8,if_neg h9] at this
  exact⟨_,rfl,this⟩
theorem Ls (O:Own K ao aB aG aN aP aM) {kj:Value} (oJ:mg "FORK"=some kj) (k_:RelV (.int 7) kj) {eV:Value} (gA:mg "WHILE"=some eV) (eX:RelV (.int 8) eV)
  {I_:Addr}{Ia:FuncData} (aed:Fun K "sort_of" "sort_of" pP I_ Ia) (ad5:FnOk P w K mg base CX0 33 I_ Ia ["word"] (ZS K)) (adR:Binds K Ia ["word"] []) (adt:mg "sort_of"=some (.ref I_))
  {Jc:Addr}{Ig:FuncData} (aeg:Fun K "load_of" "load_of" pU Jc Ig) (ad8:FnOk P w K mg base CX0 33 Jc Ig ["word"] (Gv K)) (adU:Binds K Ig ["word"] []) (adw:mg "load_of"=some (.ref Jc))
  {mU:Addr}{mQ:FuncData} (Cy:Fun K "first" "first" oU mU mQ) (Cu:FnOk P w K mg base CX0 33 mU mQ ["tree"] (Jw K)) (Cp:Binds K mQ ["tree"] []) (Cd:mg "first"=some (.ref mU))
  {zm:Addr}{yP:FuncData} (Yr:Fun K "rest" "rest" vP zm yP) (Ym:FnOk P w K mg base CX0 33 zm yP ["tree"] (Gv K)) (X5:Binds K yP ["tree"] []) (Wy:mg "rest"=some (.ref zm))
  (vY:mg "Text"=some (.ref aN))
  {eU:Addr}{lD:FuncData} (sY:Mk K aN eU) (lF:FnOk P w K mg base CX0 32 eU lD ["self","tree"] (KZ aN)) (gw:Binds K lD ["self","tree"] [])
  (F:Fun K "__init__" "Word.__init__" jd f fd):FnOk P w K mg base CX0 34 f fd ["self","tree"] (Ve K ao aB aG aN):=by
 refine okQ F K7 (fun vs H Q E h=>?_) (fun cdv A outer s H vs Q E hr h=>?_)
 ·obtain⟨o,dx,x,w',M,H₀,rfl,_⟩:=h
  rfl
 obtain⟨o,dx,x,w',M,H₀,rfl,g,hm,ho,hx,hd,q⟩:=h
 refine⟨_,(aA (fZ (qv 0) (aF ad5 hr rfl adt aed.kp adR .nil pass0 (aj (qv 1) ak)) rfl)
   (aA (fZ (qv 0) (aF ad8 hr rfl adw aeg.kp adU .nil pass0 (aj (qv 1) ak)) rfl)
   (aA (fZ (qv 0) yD rfl)
   (aA (fZ (qv 0) yD rfl)
   (aA (fZ (qv 0) yD rfl)
   (aA (fZ (qv 0) yD rfl)
   (aA (cg (aZ op_eq (bY (qv 0) rfl) (bC (v:=.int 7) rfl oJ k_) (nomark _)) (aA (fZ (qv 0) (j5 sY lF hr rfl vY gw .nil pass0 (aj (aF Cu hr rfl Cd Cy.kp Cp .nil pass0 (aj (bY (qv 0) rfl) ak)) ak)) rfl)
   (aD (fZ (qv 0) (j5 sY lF hr rfl vY gw .nil pass0 (aj (aF Ym hr rfl Wy Yr.kp X5 .nil pass0 (aj (bY (qv 0) rfl) ak)) ak)) rfl))) bL)
   (aD (cg (aZ op_eq (bY (qv 0) rfl) (bC (v:=.int 8) rfl gA eX) (nomark _)) (aD (fZ (qv 0) (j5 sY lF hr rfl vY gw .nil pass0 (aj (bY (qv 0) rfl) ak)) rfl)) bL))))))))),?_⟩
 refine⟨_,rfl,x,w',rfl,hx,hd,fun H1 S1=>⟨_,rfl,o,aG,dx,[],rfl,S1 _ _ ho,O.gP,O.wk,by show 0<1000; decide,?_⟩⟩
 rw [pd1]
 have kt {u:HO}{Ha:Hp}{fs:List (Str×V)} (h:Ha o=some (.ins aG dx fs)):Kt Ha (upd Ha o u):=Kt.ins h
 have G1:Go K ao aB aG aN (fun a=>a=o) M M H₀ H (upd H1 o (.ins aG dx (d1 (.int (aJ w':Nat))))):=Go.qe (.grow g S1) hm rfl (kt (S1 _ _ ho))
 have O1:∀ c u,H c=some u→c≠o→upd H1 o (.ins aG dx (d1 (.int (aJ w':Nat)))) c=some u:=fun c u h n=>by rw [upd_ne n]; exact S1 _ _ h
 have h1:upd H1 o (.ins aG dx (d1 (.int (aJ w':Nat)))) o=some (.ins aG dx (d1 (.int (aJ w':Nat)))):=upd_same
 generalize upd H1 o (.ins aG dx (d1 (.int (aJ w':Nat))))=H2 at G1 O1 h1
 refine⟨_,rfl,x,w',rfl,hx.mono G1.kt,fun v H3 S3 tv=>⟨_,rfl,o,aG,dx,_,rfl,S3 _ _ h1,O.gP,O.wl,by show 1<1000; decide,?_⟩⟩
 rw [pd2]
 have G3:Go K ao aB aG aN (fun a=>a=o) M M H₀ H (upd H3 o (.ins aG dx (d2 (.int (aJ w':Nat)) v))):=Go.qe (G1.trans (.grow G1.gh S3)) hm rfl (kt (S3 _ _ h1))
 have O3:∀ c u,H c=some u→c≠o→upd H3 o (.ins aG dx (d2 (.int (aJ w':Nat)) v)) c=some u:=fun c u h n=>by rw [upd_ne n]; exact S3 _ _ (O1 c u h n)
 have tv3:TR K (upd H3 o (.ins aG dx (d2 (.int (aJ w':Nat)) v))) (bD w') v:=tv.mono (kt (S3 _ _ h1))
 have h3:upd H3 o (.ins aG dx (d2 (.int (aJ w':Nat)) v)) o=some (.ins aG dx (d2 (.int (aJ w':Nat)) v)):=upd_same
 generalize upd H3 o (.ins aG dx (d2 (.int (aJ w':Nat)) v))=H4 at G3 O3 tv3 h3
 refine⟨_,rfl,o,aG,dx,_,rfl,h3,O.gP,O.wy,by show 2<1000; decide,?_⟩
 rw [pd3]
 refine⟨_,rfl,o,aG,dx,_,rfl,upd_same,O.gP,O.wn,by show 3<1000; decide,?_⟩
 rw [pd4,lG]
 refine⟨_,rfl,o,aG,dx,_,rfl,upd_same,O.gP,O.wb,by show 4<1000; decide,?_⟩
 rw [pd5,lG]
 refine⟨_,rfl,o,aG,dx,_,rfl,upd_same,O.gP,O.ws,by show 5<1000; decide,?_⟩
 rw [pd6,lG]
 have G5:Go K ao aB aG aN (fun a=>a=o) M M H₀ H (upd H4 o (.ins aG dx (fD (aJ w') v .non .non .non .non))):=Go.qe G3 hm rfl (kt h3)
 have O5:∀ c u,H c=some u→c≠o→upd H4 o (.ins aG dx (fD (aJ w') v .non .non .non .non)) c=some u:=fun c u h n=>by rw [upd_ne n]; exact O3 c u h n
 have tv5:TR K (upd H4 o (.ins aG dx (fD (aJ w') v .non .non .non .non))) (bD w') v:=tv3.mono (kt h3)
 have h5:upd H4 o (.ins aG dx (fD (aJ w') v .non .non .non .non)) o=some (.ins aG dx (fD (aJ w') v .non .non .non .non)):=upd_same
 generalize upd H4 o (.ins aG dx (fD (aJ w') v .non .non .non .non))=H5 at G5 O5 tv5 h5
 have hdl:(bD w').deep≤400:=Nat.le_trans (adJ w') hd
 dsimp only
 refine abx (fun σ' H'=>σ'=[some (.ref o),some x]∧∃ M' y n,Go K ao aB aG aN (fun a=>a=o) M M' H₀ H H'∧(∀ c u,H c=some u→c≠o→H' c=some u)∧H' o=some (.ins aG dx (fD (aJ w') v y n .non .non))∧TR K H' (bD w') v∧W7 M' w' y n) (fun σ' H6 h6=>?_) (fun A' B' hA hB=>⟨_,rfl,o,aG,dx,_,_,rfl,h5,O.gP,O.wk,ldK,rfl,_,rfl,ite2 (fun h=>hA _ fun N hN=>?_) (fun h=>hB _ ⟨rfl,M,.non,.non,G5,O5,h5,tv5,fun z=>absurd (decide_eq_true (by rw [z]; rfl)) h⟩)⟩)
 rotate_left
 ·refine⟨_,rfl,o,aG,dx,_,_,rfl,h5,O.gP,O.wl,ldL,v,bD w',rfl,tv5,hdl,fun y1 H6 S6 t6=>fun a da ha hda ne=>⟨a,da,y1,rfl,jf,fun W hW=>⟨rfl,_,rfl,o,aG,dx,fD (aJ w') v .non .non .non .non,rfl,?_,O.gP,O.wy,by show 6<1000; decide,?_⟩⟩⟩
  ·obtain⟨_,S7,_⟩:=Go.newText (X:=fun a=>a=o) (G5.trans (.grow G5.gh S6)).gh t6 ha hda ne hW
   exact S7 _ _ (S6 _ _ h5)
  obtain⟨G7,S7,tx7⟩:=Go.newText (X:=fun a=>a=o) (G5.trans (.grow G5.gh S6)).gh t6 ha hda ne hW
  have h7:=S7 _ _ (S6 _ _ h5)
  have tv7:=tv5.mono (.of (S6.trans S7))
  have O7:∀ c u,H c=some u→c≠o→_:=fun c u h n=>S7 _ _ (S6 _ _ (O5 c u h n))
  have G7':=(G5.trans (.grow G5.gh S6)).trans G7
  generalize setM (setM M W (.words (ats (bD w').kids 0))) a (.text (ats (bD w').kids 0) W)=M7 at G7' tx7
  generalize upd (upd (mkO H6 a da aN []) W (.lst [])) a (.ins aN da (fT y1 W))=H7 at S7 h7 tv7 O7 G7'
  rw [pdY]
  have hm7:=G7'.ext _ _ hm
  have G8:=G7'.qe (u:=.ins aG dx (fD (aJ w') v (.ref a) .non .non .non)) hm7 rfl (kt h7)
  have O8:∀ c u,H c=some u→c≠o→upd H7 o (.ins aG dx (fD (aJ w') v (.ref a) .non .non .non)) c=some u:=fun c u h n=>by rw [upd_ne n]; exact O7 c u h n
  have tv8:=tv7.mono (kt (u:=.ins aG dx (fD (aJ w') v (.ref a) .non .non .non)) h7)
  have h8:upd H7 o (.ins aG dx (fD (aJ w') v (.ref a) .non .non .non)) o=some (.ins aG dx (fD (aJ w') v (.ref a) .non .non .non)):=upd_same
  generalize upd H7 o (.ins aG dx (fD (aJ w') v (.ref a) .non .non .non))=H8 at G8 O8 tv8 h8
  refine⟨_,rfl,o,aG,dx,_,_,rfl,h8,O.gP,O.wl,ldL,v,bD w',rfl,tv8,fun y9 H9 S9 t9=>fun c dc hc hdc ne9=>⟨c,dc,y9,rfl,jf,fun W9 hW9=>⟨rfl,_,rfl,o,aG,dx,fD (aJ w') v (.ref a) .non .non .non,rfl,?_,O.gP,O.wn,by show 6<1000; decide,?_⟩⟩⟩
  ·obtain⟨_,S10,_⟩:=Go.newText (X:=fun a=>a=o) (G8.trans (.grow G8.gh S9)).gh t9 hc hdc ne9 hW9
   exact S10 _ _ (S9 _ _ h8)
  obtain⟨G10,S10,aky⟩:=Go.newText (X:=fun a=>a=o) (G8.trans (.grow G8.gh S9)).gh t9 hc hdc ne9 hW9
  have h10:=S10 _ _ (S9 _ _ h8)
  have akA:=tv8.mono (.of (S9.trans S10))
  have ajN:=(G8.trans (.grow G8.gh S9)).trans G10
  have akx:=tx7.ext G10
  rw [pdN]
  refine hN _ _ ⟨rfl,_,.ref a,.ref c,ajN.qe (ajN.ext _ _ hm) rfl (kt h10),fun c u h n=>by rw [upd_ne n]; exact S10 _ _ (S9 _ _ (O8 c u h n)),upd_same,akA.mono (kt h10),fun _=>⟨a,c,rfl,rfl,akx,aky⟩⟩
 obtain⟨rfl,M6,y6,n6,G6,O6,h6,tv6,w7⟩:=h6
 refine⟨_,rfl,o,aG,dx,_,_,rfl,h6,O.gP,O.wk,ldK,rfl,_,rfl,ite2 (fun h=>?_) (fun h=>?_)⟩
 ·refine⟨_,rfl,o,aG,dx,_,_,rfl,h6,O.gP,O.wl,ldL,fun a da ha hda ne=>⟨a,da,v,rfl,jf,fun W hW=>⟨rfl,_,rfl,o,aG,dx,fD (aJ w') v y6 n6 .non .non,rfl,?_,O.gP,O.wb,by show 6<1000; decide,?_⟩⟩⟩
  ·obtain⟨_,S7,_⟩:=Go.newText (X:=fun a=>a=o) G6.gh tv6 ha hda ne hW
   exact S7 _ _ h6
  obtain⟨G7,S7,tx7⟩:=Go.newText (X:=fun a=>a=o) G6.gh tv6 ha hda ne hW
  have h7:=S7 _ _ h6
  have G7':=G6.trans G7
  rw [pdB]
  exact q _ _ v y6 n6 (.ref a) (G7'.qe (G7'.ext _ _ hm) rfl (kt h7)) (fun c u h n=>by rw [upd_ne n]; exact S7 _ _ (O6 c u h n)) upd_same ((tv6.mono (.of S7)).mono (kt h7)) (fun z=>by
   obtain⟨ay,an,e1,e2,e3,e4⟩:=w7 z
   exact⟨ay,an,e1,e2,e3.ext G7,e4.ext G7⟩) (fun _=>⟨a,rfl,tx7⟩)
 ·exact q M6 H6 v y6 n6 .non G6 O6 h6 tv6 w7 (fun z=>absurd (decide_eq_true (by rw [z]; rfl)) h)
theorem Hh (O:Own K ao aB aG aN aP aM)
  {SN:Addr}{R8:FuncData} (ahl:Fun K "parts" "parts" uF SN R8) (ahi:FnOk P w K mg base CX0 32 SN R8 ["tree"] (Vk K)) (ahc:Binds K R8 ["tree"] []) (agN:mg "parts"=some (.ref SN))
  (F:Fun K "body_parts" "Word.body_parts" iu f fd):FnOk P w K mg base CX0 33 f fd ["self"] (Z1 K ao aB aG aN):=by
 refine okQ F GJ (fun vs H Q E h=>?_) (fun cdv A outer s H vs Q E hr h=>?_)
 ·obtain⟨b,w',M,H₀,rfl,_⟩:=h
  rfl
 obtain⟨b,w',M,H₀,rfl,g,hm,hz,q⟩:=h
 refine⟨_,(aA (cg (aZ ac_ (bY (qv 0) rfl) yD (nomark _)) (aD (fZ (qv 0) (aF ahi hr rfl agN ahl.kp ahc .nil pass0 (aj (bY (qv 0) rfl) ak)) rfl)) bL)
   (aD (aV (bY (qv 0) rfl)))),?_⟩
 obtain⟨dx,v,y,n,bd,sz,hb,tv,c7,c8,hs⟩:=g.ok b _ hm
 have fin:∀ H' sz',Go K ao aB aG aN (fun _=>False) M M H₀ H H'→H' b=some (.ins aG dx (fD (aJ w') v y n bd sz'))→sz'=.int ((bD w').parts:Nat)→tRet (tFld K (tVar 0) "size") { nx:=fun x H'=>Q .non H',rt:=Q,bk:=fun _ _=>False,ct:=fun _ _=>False } [some (.ref b)] H':=fun H' sz' G hb' e=>by
  subst e
  exact⟨_,rfl,b,aG,dx,_,_,rfl,hb',O.gP,O.ws,ldS,q _ G⟩
 refine⟨_,rfl,b,aG,dx,_,_,rfl,hb,O.gP,O.ws,ldS,rfl,_,rfl,ite2 (fun h=>?_) (fun h=>?_)⟩
 ·refine⟨_,rfl,b,aG,dx,_,_,rfl,hb,O.gP,O.wl,ldL,v,bD w',rfl,tv,hz,fun H1 S1=>⟨_,rfl,b,aG,dx,_,rfl,S1 _ _ hb,O.gP,O.ws,by show 6<1000; decide,?_⟩⟩
  rw [pdS]
  have k1:Kt H1 (upd H1 b (.ins aG dx (fD (aJ w') v y n bd (.int ((bD w').parts:Nat))))):=Kt.ins (S1 _ _ hb)
  have g1:=g.grow S1
  have g2:=g1.put hm k1 ⟨dx,v,y,n,bd,_,upd_same,(tv.mono (.of S1)).mono k1,c7,c8,.inr rfl⟩
  refine fin _ _ ⟨fun _ _ z=>z,fun a ha _=>?_,(Kt.of S1).trans k1,g2,fun W t ws h1 h2=>⟨ws,?_,Nat.le_refl _⟩⟩ upd_same rfl
  ·have:a≠b:=fun z=>by rw [z,hm] at ha; cases ha
   rw [upd_ne this]
   obtain⟨u,e⟩:=g.has a _ ha
   exact (S1 _ _ e).trans e.symm
  ·have:W≠b:=fun z=>by rw [z,hm] at h1; cases h1
   rw [upd_ne this]
   exact S1 _ _ h2
 ·rcases hs with hs | hs
  ·exact absurd (by rw [hs]; rfl) h
  ·exact fin _ _ (.refl g) hb hs
theorem OD (O:Own K ao aB aG aN aP aM) (gj:mg "len"=none)
  (WK:mg "Word"=some (.ref aG))
  {jg:Addr}{zO:FuncData} (Tf:Mk K aG jg) (Qe:FnOk P w K mg base CX0 34 jg zO ["self","tree"] (Ve K ao aB aG aN)) (ur:Binds K zO ["self","tree"] [])
  (F:Fun K "word_at" "Text.word_at" jB f fd):FnOk P w K mg base CX0 36 f fd ["self","place"] (Vc K ao aB aG aN):=by
 refine okQ F Oq (fun vs H Q E h=>?_) (fun cdv A outer s H vs Q E hr h=>?_)
 ·obtain⟨a,t,W,p,M,H₀,ws,rfl,_⟩:=h
  rfl
 obtain⟨a,t,W,p,M,H₀,ws,rfl,g,hm,hW,hpw,aq4,hd,hkl,q0,q⟩:=h
 refine⟨_,(aA (cg (aZ op_eq (qv 1) (cO call_len_seq rfl gj oN (aj (bY (qv 0) rfl) ak)) (nomark _)) (aD (aV yD)) bL)
   (aA (cg (aZ op_eq (qv 1) (cO call_len_seq rfl gj oN (aj (bY (qv 0) rfl) ak)) (nomark _)) (aD (cU (gC PySem.F.plainAttrs_list PySem.F.slot_list_append PySem.F.type_list_append cV (bY (qv 0) rfl) (aj (j5 Tf Qe hr rfl WK ur .nil pass0 (aj (gB jl (bY (qv 0) rfl) (qv 1) (fun _ _=>rfl)) ak)) ak)))) bL)
   (aD (aV (gB ix_list (bY (qv 0) rfl) (qv 1) (fun _ _=>rfl)))))),?_⟩
 obtain⟨dx,v,ha,tv,hMW⟩:=g.ok a _ hm
 obtain⟨bt,ys,rfl,hbt,hys⟩:=vm tv
 have hyl:=hys.length
 obtain⟨xs0,hW0,hl0,hit⟩:=g.ok W _ hMW
 have e0:xs0=ws:=by rw [hW] at hW0; cases hW0; rfl
 subst e0
 refine⟨_,rfl,_,rfl,a,aN,dx,_,_,rfl,ha,O.cText,O.tt,fX _ _ _,bt,ys,rfl,.inr hbt,rfl,_,rfl,ite2 (fun h=>?_) (fun h=>?_)⟩
 ·have h:=V.int.inj (of_decide_eq_true h)
  exact q0 (by lia)
 have hpk:p≠t.kids.length:=fun z=>h (decide_eq_true (by rw [z,← hyl]))
 obtain⟨w',ew⟩:∃ w',t.kids[p]?=some w':=⟨_,List.getElem?_eq_getElem (by lia)⟩
 obtain⟨x',ex,tx'⟩:=hys.at ew
 have lw:List.lookup ("words":Str) (fT (.ref bt) W)=some (.ref W):=(cJ (by decide +kernel) _ _).trans (fX _ _ _)
 dsimp only [tNext]
 refine abx (fun σ' H'=>σ'=[some (.ref a),some (.int (p:Int))]∧∃ M' b ws',Go K ao aB aG aN (fun _=>False) M M' H₀ H H'∧M' b=some (.word w')∧H' a=some (.ins aN dx (fT (.ref bt) W))∧H' W=some (.lst ws')∧ws'[p]?=some (.ref b)) (fun σ' H6 h6=>?_) (fun A' B' hA hB=>⟨_,rfl,_,rfl,a,aN,dx,_,_,rfl,ha,O.cText,O.tw,lw,W,xs0,rfl,.inl (SqL.of hW),rfl,_,rfl,ite2 (fun h=>hA _ fun N hN=>?_) (fun h=>hB _ ⟨rfl,?_⟩)⟩)
 ·obtain⟨rfl,M',b,ws',G,hb,ha',hW',hb'⟩:=h6
  refine⟨_,rfl,a,aN,dx,_,_,rfl,ha',O.cText,O.tw,lw,_,rfl,W,ws',p,.ref b,rfl,rfl,SqL.of hW',atI_nat hb',q w' ew b M' H6 G hb fun ws2 e2=>?_⟩
  rw [hW'] at e2
  cases e2
  exact (List.getElem?_eq_some_iff.mp hb').1
 ·have hpl:p=xs0.length:=by have:=V.int.inj (of_decide_eq_true h); lia
  have dw':w'.deep≤400:=by have:=afw ew; lia
  refine⟨_,rfl,a,aN,dx,_,_,rfl,ha,O.cText,O.tw,lw,.inl ⟨rfl,_,SqL.of hW⟩,_,rfl,a,aN,dx,_,_,rfl,ha,O.cText,O.tt,fX _ _ _,_,rfl,bt,ys,p,x',rfl,rfl,hbt,atI_nat ex,fun b db hb hdb ne=>?_⟩
  have G1:=Go.made (X:=fun _=>False) (C:=aG) (fs:=[]) g hb hdb ne
  have S1:=jC (C:=aG) (fs:=[]) hb hdb ne
  refine⟨b,db,x',w',setM M b .mine,H₀,rfl,G1.gh,fu,jf,tx'.mono (.of S1),dw',fun M' H' v1 y n bd G2 O2 h2 tv2 c7 c8=>⟨rfl,W,xs0,_,rfl,rfl,?_,gG (by lia),?_⟩⟩
  ·exact O2 W _ (S1 _ _ hW) (ne_of_none hW hb)
  have hbM:M' b=some .mine:=G2.ext _ _ fu
  have nbW:W≠b:=ne_of_none hW hb
  have hW2:=O2 W _ (S1 _ _ hW) nbW
  have ha2:=O2 a _ (S1 _ _ ha) (ne_of_none ha hb)
  have aoL:M' W=some (.words t):=G2.ext _ _ (G1.ext _ _ hMW)
  have nba:∀ c r,M c=some r→c≠b:=fun c r hc z=>by
   obtain⟨u,e⟩:=g.has c r hc
   rw [z,hb] at e
   cases e
  have ext':∀ c r,r≠.mine→M' c=some r→setM M' b (.word w') c=some r:=fun c r hr hc=>by
   rw [iD (fun z=>by rw [z,hbM] at hc; cases hc; exact hr rfl)]
   exact hc
  have g3:Gh K ao aB aG aN (setM M' b (.word w')) H₀ H':=G2.gh.role (.inr hbM) (G2.gh.new _ _ hbM) ⟨_,h2⟩ ⟨db,v1,y,n,bd,.non,h2,tv2,fun z=>by
   obtain⟨ay,an,e1,e2,⟨W1,e3⟩,W2,e4⟩:=c7 z
   exact⟨ay,an,e1,e2,⟨W1,ext' _ _ (by simp) e3⟩,W2,ext' _ _ (by simp) e4⟩,fun z=>by
   obtain⟨ab,e1,W1,e2⟩:=c8 z
   exact⟨ab,e1,W1,ext' _ _ (by simp) e2⟩,.inl rfl⟩
  have k4:Kt H' (upd H' W (.lst (xs0++[.ref b]))):=Kt.lst hW2
  have g4:=g3.put (ext' _ _ (by simp) aoL) k4 ⟨xs0++[.ref b],upd_same,by rw [List.length_append,List.length_singleton]; lia,fun j z hz=>by
   by_cases hj:j<xs0.length
   ·rw [List.getElem?_append_left hj] at hz
    obtain⟨c,w2,e1,e2,e3⟩:=hit j z hz
    exact⟨c,w2,e1,e2,ext' _ _ (by simp) (G2.ext _ _ (G1.ext _ _ e3))⟩
   ·have hj2:j<(xs0++[V.ref b]).length:=(List.getElem?_eq_some_iff.mp hz).1
    rw [List.length_append,List.length_singleton] at hj2
    have hj3:j=xs0.length:=by lia
    subst hj3
    rw [List.getElem?_append_right (Nat.le_refl _),Nat.sub_self] at hz
    cases hz
    exact⟨b,w',rfl,by rw [← hpl]; exact ew,fu⟩⟩
  refine hN _ _ ⟨rfl,setM M' b (.word w'),b,xs0++[.ref b],⟨fun c r hc=>?_,fun c hc _=>?_,(Kt.of S1).trans (G2.kt.trans k4),g4,fun W' t' ws' e1 e2=>?_⟩,fu,by rw [upd_ne (fun z=>by rw [z,hW] at ha; cases ha)]; exact ha2,upd_same,by rw [hpl]; simp⟩
  ·rw [iD (nba c r hc)]
   exact G2.ext _ _ (G1.ext _ _ hc)
  ·obtain⟨u,e⟩:=g.has c _ hc
   have ncW:c≠W:=fun z=>by rw [z,hMW] at hc; cases hc
   rw [upd_ne ncW,O2 c u (S1 _ _ e) (nba c _ hc)]
   exact e.symm
  ·have e3:=O2 W' _ (S1 _ _ e2) (nba W' _ e1)
   by_cases hWW:W'=W
   ·subst hWW
    rw [hW] at e2
    cases e2
    exact⟨_,upd_same,by rw [List.length_append,List.length_singleton]; lia⟩
   ·exact⟨ws',by rw [upd_ne hWW]; exact e3,Nat.le_refl _⟩
 ·have hpl:p≠xs0.length:=fun z=>h (decide_eq_true (by rw [z]))
  obtain⟨z,ez⟩:∃ z,xs0[p]?=some z:=⟨_,List.getElem?_eq_getElem (by lia)⟩
  obtain⟨b,w2,rfl,e2,e3⟩:=hit p z ez
  rw [ew] at e2
  cases e2
  exact⟨M,b,xs0,.refl g,e3,ha,hW,ez⟩
end
end fY
namespace fY
open PySem PySem.Spec PyProof.Rows L2 Sw
section
variable {P:Program}{w:World}{K:PySem.W.Frag}{mg:Str→Option Value}{base:Heap}{f:Addr}{fd:FuncData}{ao aB aG aN aP aM:Addr}
theorem agB (O:Own K ao aB aG aN aP aM) {zG:Value} (JN:mg "LAY"=some zG) (zK:RelV (.int 0) zG) {Gm:Value} (WX:mg "DROP"=some Gm) (GZ:RelV (.int 1) Gm) {pI:Value} (rB:mg "TWIN"=some pI) (oF:RelV (.int 2) pI) {Gi:Value} (WQ:mg "SWAP"=some Gi) (GQ:RelV (.int 3) Gi) {Bt:Value} (RB:mg "FRONT"=some Bt) (BL:RelV (.int 4) Bt) {Gj:Value} (WR:mg "PART"=some Gj) (GR:RelV (.int 5) Gj) {Gg:Value} (WM:mg "TURN"=some Gg) (GK:RelV (.int 6) Gg)
  {Ja:Addr}{Ib:FuncData} (aee:Fun K "rest_of" "rest_of" pQ Ja Ib) (ad6:FnOk P w K mg base CX0 35 Ja Ib ["row"] (Vh K ao aB aG aN)) (adS:Binds K Ib ["row"] []) (adu:mg "rest_of"=some (.ref Ja))
  {Ez:Addr}{El:FuncData} (acr:Fun K "first_of" "first_of" nq Ez El) (acj:FnOk P w K mg base CX0 35 Ez El ["row"] (TF K ao aB aG aN)) (ab6:Binds K El ["row"] []) (abn:mg "first_of"=some (.ref Ez))
  (fJ:mg "Fronted"=some (.ref ao))
  {gO:Addr}{vZ:FuncData} (Fe:Mk K ao gO) (Jm:FnOk P w K mg base CX0 34 gO vZ ["self","item","behind"] (Vq ao)) (qz:Binds K vZ ["self","item","behind"] [])
  (F:Fun K "work" "work" yp f fd):FnOk P w K mg base CX0 36 f fd ["step","load","stack"] (acN K ao aB aG aN):=by
 refine okQ F QV (fun vs H Q E h=>?_) (fun cdv A outer s H vs Q E hr h=>?_)
 ·obtain⟨k,y,S,l,sk,rows,M,H₀,rfl,_⟩:=h
  rfl
 obtain⟨k,y,S,l,sk,rows,M,H₀,rfl,g,hm,hS,hrs,hy,hlk,hb,hkl,q⟩:=h
 refine⟨_,(aD (cg (aZ op_eq (qv 0) (bC (v:=.int 0) rfl JN zK) (nomark _)) (aD (cU (gC PySem.F.plainAttrs_list PySem.F.slot_list_append PySem.F.type_list_append cV (qv 2) (aj (qv 1) ak)))) (aD (cg (aZ op_eq (qv 0) (bC (v:=.int 1) rfl WX GZ) (nomark _)) (aD (cU (rA PySem.F.plainAttrs_list PySem.F.slot_list_pop PySem.F.type_list_pop tO (qv 2)))) (aD (cg (aZ op_eq (qv 0) (bC (v:=.int 2) rfl rB oF) (nomark _)) (aD (cU (gC PySem.F.plainAttrs_list PySem.F.slot_list_append PySem.F.type_list_append cV (qv 2) (aj (gB ix_list (qv 2) (zL vI aH) (fun _ _=>rfl)) ak)))) (aD (cg (aZ op_eq (qv 0) (bC (v:=.int 3) rfl WQ GQ) (nomark _)) (aD (cU (gC PySem.F.plainAttrs_list PySem.F.slot_list_append PySem.F.type_list_append cV (qv 2) (aj (gC PySem.F.plainAttrs_list PySem.F.slot_list_pop PySem.F.type_list_pop Mh (qv 2) (aj (zL vI aH) ak)) ak)))) (aD (cg (aZ op_eq (qv 0) (bC (v:=.int 4) rfl RB BL) (nomark _)) (aA (bN (i:=3) QV.nd rfl (Or.inl rfl) (rA PySem.F.plainAttrs_list PySem.F.slot_list_pop PySem.F.type_list_pop tO (qv 2)))
   (aD (cU (gC PySem.F.plainAttrs_list PySem.F.slot_list_append PySem.F.type_list_append cV (qv 2) (aj (j5 Fe Jm hr rfl fJ qz .nil pass0 (aj (qv 3) (aj (rA PySem.F.plainAttrs_list PySem.F.slot_list_pop PySem.F.type_list_pop tO (qv 2)) ak))) ak))))) (aD (cg (aZ op_eq (qv 0) (bC (v:=.int 5) rfl WR GR) (nomark _)) (aA (bN (i:=4) QV.nd rfl (Or.inl rfl) (rA PySem.F.plainAttrs_list PySem.F.slot_list_pop PySem.F.type_list_pop tO (qv 2)))
   (aA (cU (gC PySem.F.plainAttrs_list PySem.F.slot_list_append PySem.F.type_list_append cV (qv 2) (aj (aF ad6 hr rfl adu aee.kp adS .nil pass0 (aj (qv 4) ak)) ak)))
   (aD (cU (gC PySem.F.plainAttrs_list PySem.F.slot_list_append PySem.F.type_list_append cV (qv 2) (aj (aF acj hr rfl abn acr.kp ab6 .nil pass0 (aj (qv 4) ak)) ak)))))) (aD (cg (aZ op_eq (qv 0) (bC (v:=.int 6) rfl WM GK) (nomark _)) (aD (cU (gC PySem.F.plainAttrs_list PySem.F.slot_list_append PySem.F.type_list_append cV (qv 2) (aj (gC PySem.F.plainAttrs_list PySem.F.slot_list_pop PySem.F.type_list_pop Mh (qv 2) (aj (zL vI aH) ak)) ak)))) bL)))))))))))))),?_⟩
 have hrl:=hrs.length
 rw [List.length_reverse] at hrl
 have hsl:sk.length≤8000010:=by
  have h1:=hb.2
  rw [T.aL] at h1
  have:=T.cQ sk
  lia
 refine⟨_,rfl,rfl,_,rfl,ite2 (fun h=>?_) (fun h0=>?_)⟩
 ·have h:k=0:=by have:=V.int.inj (of_decide_eq_true h); lia
  subst h
  refine⟨_,rfl,.inl ⟨rfl,_,SqL.of hS⟩,_,rfl,S,rows,y,rfl,rfl,hS,gG (by lia),q M _ _ (Go.list g hm hS) upd_same ?_⟩
  show bh _ (l::sk).reverse _
  rw [List.reverse_cons]
  exact bh.append (iw (Kt.lst hS) hrs) (bh.one (.inl (hy.mono (Kt.lst hS))))
 have h0:¬ k=0:=fun z=>h0 (decide_eq_true (by rw [z]; rfl))
 refine⟨_,rfl,rfl,_,rfl,ite2 (fun h=>?_) (fun h1=>?_)⟩
 ·have h:k=1:=by have:=V.int.inj (of_decide_eq_true h); lia
  subst h
  obtain⟨a,sk0,r0,ya,rfl,rfl,h0,ha⟩:=nZ hrs (by rintro rfl; have h1:1≤sk.length:=hlk; simp at hrl; lia)
  refine⟨_,rfl,.inl ⟨rfl,_,SqL.of hS⟩,S,_,_,rfl,rfl,hS,mY _ _,?_⟩
  rw [mZ]
  exact q M _ _ (Go.list g hm hS) upd_same (iw (Kt.lst hS) h0)
 have h1:¬ k=1:=fun z=>h1 (decide_eq_true (by rw [z]; rfl))
 refine⟨_,rfl,rfl,_,rfl,ite2 (fun h=>?_) (fun h2=>?_)⟩
 ·have h:k=2:=by have:=V.int.inj (of_decide_eq_true h); lia
  subst h
  obtain⟨a,sk0,r0,ya,rfl,rfl,h0,ha⟩:=nZ hrs (by rintro rfl; have h1:1≤sk.length:=hlk; simp at hrl; lia)
  refine⟨_,rfl,.inl ⟨rfl,_,SqL.of hS⟩,_,rfl,1,rfl,S,_,_,_,rfl,rfl,SqL.of hS,Cr,S,_,ya,rfl,rfl,hS,gG (by lia),q M _ _ (Go.list g hm hS) upd_same ?_⟩
  show bh _ (a::a::sk0).reverse _
  rw [List.reverse_cons]
  exact bh.append (iw (Kt.lst hS) hrs) (bh.one (ha.mono (Kt.lst hS) fun _ _ z=>z))
 have h2:¬ k=2:=fun z=>h2 (decide_eq_true (by rw [z]; rfl))
 refine⟨_,rfl,rfl,_,rfl,ite2 (fun h=>?_) (fun h3=>?_)⟩
 ·have h:k=3:=by have:=V.int.inj (of_decide_eq_true h); lia
  subst h
  obtain⟨a,c,sk0,r0,ya,yc,rfl,rfl,h0,ha,hc⟩:=IV hrs hlk
  refine⟨_,rfl,.inl ⟨rfl,_,SqL.of hS⟩,_,rfl,.inl ⟨rfl,_,SqL.of hS⟩,2,rfl,S,_,-2,_,_,rfl,rfl,hS,by decide,by decide,si2 _ _ _,gt2 _ _ _,?_⟩
  rw [er2]
  refine⟨S,_,yc,rfl,rfl,upd_same,gG (by simp only [List.length_append,List.length_singleton] at hrl ⊢; lia),?_⟩
  rw [lG]
  refine q M _ _ (Go.list g hm hS) upd_same ?_
  have k:=Kt.lst (o:=.lst (r0++[ya]++[yc])) hS
  show bh _ (c::a::sk0).reverse _
  rw [List.reverse_cons,List.reverse_cons]
  exact bh.append (bh.append (iw k h0) (bh.one (ha.mono k fun _ _ z=>z))) (bh.one (hc.mono k fun _ _ z=>z))
 have h3:¬ k=3:=fun z=>h3 (decide_eq_true (by rw [z]; rfl))
 refine⟨_,rfl,rfl,_,rfl,ite2 (fun h=>?_) (fun h4=>?_)⟩
 ·have h:k=4:=by have:=V.int.inj (of_decide_eq_true h); lia
  subst h
  obtain⟨a,c,sk0,r0,ya,yc,rfl,rfl,h0,ha,hc⟩:=IV hrs hlk
  refine⟨_,rfl,.inl ⟨rfl,_,SqL.of hS⟩,S,_,_,rfl,rfl,hS,mY _ _,?_⟩
  rw [mZ]
  refine⟨_,rfl,.inl ⟨rfl,_,SqL.of upd_same⟩,_,rfl,_,rfl,.inl ⟨rfl,_,SqL.of upd_same⟩,S,_,_,rfl,rfl,upd_same,mY _ _,?_⟩
  rw [mZ,lG]
  have G1:=Go.list (ys:=r0) g hm hS
  have k1:=Kt.lst (o:=.lst r0) hS
  have hS1:upd H S (.lst r0) S=some (.lst r0):=upd_same
  have h01:=iw k1 h0
  have ha1:=ha.mono (M':=M) k1 fun _ _ z=>z
  have hc1:=hc.mono (M':=M) k1 fun _ _ z=>z
  generalize upd H S (.lst r0)=H1 at G1 k1 hS1 h01 ha1 hc1
  refine fun o dx ho hd ne=>⟨o,dx,ya,yc,rfl,jf,⟨rfl,S,r0,_,rfl,rfl,?_,gG (by simp only [List.length_append,List.length_singleton] at hrl; lia),?_⟩⟩
  ·rw [upd_ne (ne_of_none hS1 ho)]
   exact jC (C:=ao) (fs:=[]) ho hd ne _ _ hS1
  rw [adp]
  have S2:=jC (C:=ao) (fs:=fF ya yc) ho hd ne
  have nSo:S≠o:=ne_of_none hS1 ho
  have ro:∀ p t,M p=some (.row t)→setM M o (.row (.node (a::c.kids))) p=some (.row t):=fun p t e=>by
   rw [iD (fun z=>by rw [z,G1.gh.fresh ho] at e; cases e)]
   exact e
  have G2:Go K ao aB aG aN (fun a=>a=S) M (setM M o (.row (.node (a::c.kids)))) H₀ H1 (mkO H1 o dx ao (fF ya yc)) :=
   Go.role G1.gh S2 ho ⟨_,jf⟩ (.inl ⟨dx,ya,yc,a,c.kids,jf,rfl,ha1.mono (.of S2) ro,by cases c; exact hc1.mono (.of S2) ro⟩)
  have hS2:=S2 _ _ hS1
  have h02:=h01.imp fun _ _ z=>z.mono (.of S2) ro
  have hm2:setM M o (.row (.node (a::c.kids))) S=some .mine:=by rw [iD nSo]; exact hm
  have hMo:setM M o (.row (.node (a::c.kids))) o=some (.row (.node (a::c.kids))):=fu
  generalize setM M o (.row (.node (a::c.kids)))=M2 at G2 h02 hm2 hMo
  generalize mkO H1 o dx ao (fF ya yc)=H2 at G2 hS2 h02
  refine q M2 _ _ ((G1.trans G2).qe hm2 rfl (Kt.lst hS2)) upd_same ?_
  show bh _ (T.node (a::c.kids)::sk0).reverse _
  rw [List.reverse_cons]
  exact bh.append (iw (Kt.lst hS2) h02) (bh.one (.inr ⟨o,rfl,hMo⟩))
 have h4:¬ k=4:=fun z=>h4 (decide_eq_true (by rw [z]; rfl))
 refine⟨_,rfl,rfl,_,rfl,ite2 (fun h=>?_) (fun h5=>?_)⟩
 ·have h:k=5:=by have:=V.int.inj (of_decide_eq_true h); lia
  subst h
  obtain⟨a,sk0,r0,ya,rfl,rfl,h0,ha⟩:=nZ hrs (by rintro rfl; have h1:1≤sk.length:=hlk; simp at hrl; lia)
  have da:a.deep≤400:=by
   have h1:=hb.1
   rw [T.aO,T.aK] at h1
   lia
  have ka:a.kids.length≤8000000:=hkl a (by simp)
  refine⟨_,rfl,.inl ⟨rfl,_,SqL.of hS⟩,S,_,_,rfl,rfl,hS,mY _ _,?_⟩
  rw [mZ]
  have G1:=Go.list (ys:=r0) g hm hS
  have k1:=Kt.lst (o:=.lst r0) hS
  have hS1:upd H S (.lst r0) S=some (.lst r0):=upd_same
  have h01:=iw k1 h0
  have ha1:=ha.mono (M':=M) k1 fun _ _ z=>z
  generalize upd H S (.lst r0)=H1 at G1 k1 hS1 h01 ha1
  refine⟨_,rfl,.inl ⟨rfl,_,SqL.of hS1⟩,_,rfl,ya,a,M,H₀,rfl,G1.gh,ha1,da,ka,fun y2 M2 H2 S2 G2 r2=>?_⟩
  have hS2:=S2 _ _ hS1
  have hm2:=G2.ext _ _ hm
  have h02:=h01.imp fun _ _ z=>G2.rv z
  have ha2:=G2.rv ha1
  have G2':=G1.trans (G2.weak fun _ z=>z.elim)
  refine⟨S,r0,y2,rfl,rfl,hS2,gG (by simp only [List.length_append,List.length_singleton] at hrl; lia),?_⟩
  have G3:=G2'.qe (u:=.lst (r0++[y2])) hm2 rfl (Kt.lst hS2)
  have k3:=Kt.lst (o:=.lst (r0++[y2])) hS2
  have hS3:upd H2 S (.lst (r0++[y2])) S=some (.lst (r0++[y2])):=upd_same
  have h03:=iw k3 h02
  have ha3:=ha2.mono (M':=M2) k3 fun _ _ z=>z
  have r3:=r2.mono (M':=M2) k3 fun _ _ z=>z
  generalize upd H2 S (.lst (r0++[y2]))=H3 at G3 k3 hS3 h03 ha3 r3
  refine⟨_,rfl,.inl ⟨rfl,_,SqL.of hS3⟩,_,rfl,ya,a,M2,H₀,rfl,G3.gh,ha3,da,fun y4 H4 S4 r4=>?_⟩
  have hS4:=S4 _ _ hS3
  refine⟨S,_,y4,rfl,rfl,hS4,gG (by simp only [List.length_append,List.length_singleton] at hrl ⊢; lia),?_⟩
  have G4:=G3.trans (.grow G3.gh S4)
  have k5:=Kt.lst (o:=.lst (r0++[y2]++[y4])) hS4
  refine q M2 _ _ (G4.qe hm2 rfl (Kt.lst hS4)) upd_same ?_
  show bh _ (ats a.kids 0::bD a::sk0).reverse _
  rw [List.reverse_cons,List.reverse_cons]
  exact bh.append (bh.append (iw ((Kt.of S4).trans k5) h03) (bh.one (r3.mono ((Kt.of S4).trans k5) fun _ _ z=>z))) (bh.one (r4.mono k5 fun _ _ z=>z))
 have h5:¬ k=5:=fun z=>h5 (decide_eq_true (by rw [z]; rfl))
 refine⟨_,rfl,rfl,_,rfl,ite2 (fun h=>?_) (fun h6=>?_)⟩
 ·have h:k=6:=by have:=V.int.inj (of_decide_eq_true h); lia
  subst h
  obtain⟨a,c,e,sk0,r0,ya,yc,ye,rfl,rfl,h0,ha,hc,he⟩:=ad1 hrs hlk
  refine⟨_,rfl,.inl ⟨rfl,_,SqL.of hS⟩,_,rfl,.inl ⟨rfl,_,SqL.of hS⟩,3,rfl,S,_,-3,_,_,rfl,rfl,hS,by decide,by decide,si3 _ _ _ _,gt3 _ _ _ _,?_⟩
  rw [er3]
  refine⟨S,_,ye,rfl,rfl,upd_same,gG (by simp only [List.length_append,List.length_singleton] at hrl ⊢; lia),?_⟩
  rw [lG]
  refine q M _ _ (Go.list g hm hS) upd_same ?_
  have k:=Kt.lst (o:=.lst (r0++[yc]++[ya]++[ye])) hS
  show bh _ (e::a::c::sk0).reverse _
  rw [List.reverse_cons,List.reverse_cons,List.reverse_cons]
  exact bh.append (bh.append (bh.append (iw k h0) (bh.one (hc.mono k fun _ _ z=>z))) (bh.one (ha.mono k fun _ _ z=>z))) (bh.one (he.mono k fun _ _ z=>z))
 have h6:¬ k=6:=fun z=>h6 (decide_eq_true (by rw [z]; rfl))
 refine q M H rows (.refl g) hS ?_
 rw [Qq (show 7≤k by lia)]
 exact hrs
end
end fY
namespace fY
open PySem PySem.Spec PyProof.Rows L2 Sw
section
variable {P:Program}{w:World}{K:PySem.W.Frag}{mg:Str→Option Value}{base:Heap}{f:Addr}{fd:FuncData}{ao aB aG aN aP aM:Addr}
theorem Ro (O:Own K ao aB aG aN aP aM)
  (F:Fun K "at_end" "Walk.at_end" j4 f fd):FnOk P w K mg base CX0 31 f fd ["self"] (QJ K ao aB aG aN aP aM):=by
 refine okQ F QZ (fun vs H Q E h=>?_) (fun cdv A outer s H vs Q E hr h=>?_)
 ·obtain⟨o,M,H₀,tx,sk,num,b,rfl,_⟩:=h
  rfl
 obtain⟨o,M,H₀,tx,sk,num,b,rfl,w',q⟩:=h
 refine⟨_,(aD (aV (agm (bY (qv 0) rfl)))),?_⟩
 obtain⟨dx,G,S,N,gs,rows,w'⟩:=w'
 have hgl:=w'.gos.length
 rw [List.length_reverse] at hgl
 refine⟨_,rfl,o,aM,dx,_,_,rfl,w'.ob,O.dO,O.kg,lwG,!gs.isEmpty,.inl ⟨gs,SqL.of w'.hG,rfl⟩,?_⟩
 have e:(!(!gs.isEmpty))=decide (tx=[]):=by
  rw [Bool.not_not]
  cases tx with
  | nil =>
   have:gs=[]:=List.length_eq_zero_iff.mp (by simpa using hgl)
   rw [this]
   rfl
  | cons t r =>
   cases gs with
   | nil=>simp at hgl
   | cons _ _=>rfl
 rw [e]
 exact q
theorem Y0 (O:Own K ao aB aG aN aP aM)
  (F:Fun K "top" "Walk.top" qI f fd):FnOk P w K mg base CX0 31 f fd ["self"] (aaP K ao aB aG aN aP aM):=by
 refine okQ F YG (fun vs H Q E h=>?_) (fun cdv A outer s H vs Q E hr h=>?_)
 ·obtain⟨o,M,H₀,tx,sk,num,b,rfl,_⟩:=h
  rfl
 obtain⟨o,M,H₀,tx,sk,num,b,rfl,w',q⟩:=h
 refine⟨_,(aD (aV (rN (Dj (bY (qv 0) rfl) (fun _=>rfl)) (gB ix_list (bY (qv 0) rfl) (zL vI aH) (fun _ _=>rfl)) (bA ak)))),?_⟩
 obtain⟨dx,G,S,N,gs,rows,w'⟩:=w'
 refine⟨_,rfl,o,aM,dx,_,_,rfl,w'.ob,O.dO,O.ks,lwS,!rows.isEmpty,.inl ⟨rows,SqL.of w'.hS,rfl⟩,ite2 (fun h=>?_) (fun h=>?_)⟩
 ·have hne:rows≠[]:=by rintro rfl; exact absurd h (by decide)
  obtain⟨a,sk0,r0,ya,rfl,rfl,h0,ha⟩:=nZ w'.sts hne
  exact⟨_,rfl,o,aM,dx,_,_,rfl,w'.ob,O.dO,O.ks,lwS,1,rfl,S,_,_,_,rfl,rfl,SqL.of w'.hS,Cr,q _ _ (Same.refl _) ha⟩
 ·have hr:rows=[]:=by
   cases rows with
   | nil=>rfl
   | cons _ _=>exact absurd rfl h
  subst hr
  have:=all_nil w'.sts
  subst this
  refine⟨Nat.zero_le _,fun p1 g1=>?_⟩
  obtain⟨S1,t1⟩:=cA (K:=K) (ts:=[]) g1 (bJ.mpr rfl)
  exact q _ _ S1 (.inl t1)
theorem Uq (O:Own K ao aB aG aN aP aM) (cW:mg "tuple"=none)
  (F:Fun K "tally" "Walk.tally" lZ f fd):FnOk P w K mg base CX0 31 f fd ["self"] (QF K ao aB aG aN aP aM):=by
 refine okQ F Ue (fun vs H Q E h=>?_) (fun cdv A outer s H vs Q E hr h=>?_)
 ·obtain⟨o,M,H₀,tx,sk,num,b,rfl,_⟩:=h
  rfl
 obtain⟨o,M,H₀,tx,sk,num,b,rfl,w',q⟩:=h
 refine⟨_,(aD (aV (jw gD rfl cW nU (aj (bY (qv 0) rfl) ak)))),?_⟩
 obtain⟨dx,G,S,N,gs,rows,w'⟩:=w'
 exact⟨_,rfl,o,aM,dx,_,_,rfl,w'.ob,O.dO,O.kn,lwN,N,_,rfl,.inl ⟨SqL.of w'.hN,fun l hl=>q _ _ (same_new hl _) (SqT.of upd_same)⟩⟩
end
end fY
namespace fY
open PySem PySem.Spec PyProof.Rows L2 Sw
section
variable {P:Program}{w:World}{K:PySem.W.Frag}{mg:Str→Option Value}{base:Heap}{f:Addr}{fd:FuncData}{ao aB aG aN aP aM:Addr}
theorem Lw (O:Own K ao aB aG aN aP aM) (nH:mg "reversed"=none) (Wz:mg "list"=none) {xW:Value} (Mr:mg "PLACES"=some xW) (yw:RelV (.int 15) xW)
  (sU:mg "Going"=some (.ref aP))
  (vY:mg "Text"=some (.ref aN))
  {dR:Addr}{jR:FuncData} (qD:Mk K aP dR) (jW:FnOk P w K mg base CX0 31 dR jR ["self","text"] (K1 aP)) (fM:Binds K jR ["self","text"] [])
  {eU:Addr}{lD:FuncData} (sY:Mk K aN eU) (lF:FnOk P w K mg base CX0 31 eU lD ["self","tree"] (KZ aN)) (gw:Binds K lD ["self","tree"] [])
  (F:Fun K "__init__" "Walk.__init__" g_ f fd):FnOk P w K mg base CX0 33 f fd ["self","stand","budget"] (Vd K ao aB aG aN aP aM):=by
 refine okQ F K8 (fun vs H Q E h=>?_) (fun cdv A outer s H vs Q E hr h=>?_)
 ·obtain⟨o,dx,x,tx,sk,b,M,H₀,rfl,_⟩:=h
  rfl
 obtain⟨o,dx,x,tx,sk,b,M,H₀,rfl,g,hm,ho,hx,bx,bs,q⟩:=h
 refine⟨_,(aA (fZ (qv 0) (JC rfl (uM (fr:=[]) (js:=[]) (sc:=defScope g_) rfl rfl rfl (by decide +kernel) (by decide +kernel) (by decide +kernel) (by decide +kernel) (by exact trivial) (by decide +kernel) (fun y hy=>cell_has hy)) (agj rfl nH (gB jl (qv 1) aH (fun _ _=>rfl))) (fun _ _ _ _ _=>(j5 qD jW hr rfl sU fM .nil pass0 (aj (j5 sY lF hr rfl vY gw .nil pass0 (aj (qv 0) ak)) ak)))) rfl)
   (aA (fZ (qv 0) (aaZ rfl rfl Wz nH rfl (gB jl (qv 1) aH (fun _ _=>rfl))) rfl)
   (aA (fZ (qv 0) (aW ah9 (oH (aj aH ak)) (bC (v:=.int 15) rfl Mr yw)) rfl)
   (aD (fZ (qv 0) (qv 2) rfl))))),?_⟩
 obtain⟨ax,xs,rfl,hax,hxs⟩:=cN.mp hx
 obtain⟨x0,r0,rfl,t0,hr⟩:=cH.mp hxs
 obtain⟨x1,r1,rfl,t1,hr1⟩:=cH.mp hr
 obtain⟨a0,ys0,rfl,h0,hy0⟩:=cN.mp t0
 obtain⟨a1,ys1,rfl,h1,hy1⟩:=cN.mp t1
 have l0:=hy0.length
 have l1:=hy1.length
 have hsl:sk.length≤8000000:=by
  have h1:=bs.2
  rw [T.aL] at h1
  have:=T.cQ sk
  lia
 refine⟨_,rfl,ax,_,0,_,rfl,rfl,hax,atI_nat (j:=0) rfl,a0,ys0,rfl,h0,agP (fun D i ys H'=>H D=none∧∃ M',Go K ao aB aG aN (fun _=>False) M M' H₀ H H'∧M' D=some .mine∧H' D=some (.lst ys)∧ys.length=i∧bh (qF aP M' H') (tx.reverse.take i) ys∧ys.Nodup) (Bx (by have:=bx.1; lia)) (fun D hD=>⟨hD,setM M D .mine,Go.Rv g hD,fu,upd_same,rfl,by rw [List.take_zero]; exact .nil,List.nodup_nil⟩) (fun D i ys H' j=>⟨j.2.choose_spec.2.2.1,j.2.choose_spec.2.2.2.1,dM j.2.choose_spec.1.kt h0⟩) (fun D i x ys H1 R hxi j hR=>?_) (fun D gs H1 j=>?_)⟩
 ·obtain⟨hD,M1,G1,mD,h1D,hyl,hgo,nd⟩:=j
  obtain⟨t,et,ht⟩:=agd hy0 hxi
  have hbt:B 389 8000000 t:=bx.2 t (by have:=List.mem_of_getElem? et; rw [List.mem_reverse] at this; exact this)
  refine⟨_,rfl,fun a da ha hda ne=>⟨a,da,x,rfl,jf,fun W hW=>⟨rfl,fun gg dg hg hdg ne2=>⟨gg,dg,a,rfl,jf,⟨rfl,?_⟩⟩⟩⟩⟩
  obtain⟨G2,S2,tx2⟩:=Go.newText (X:=fun _=>False) G1.gh (ht.mono G1.kt) ha hda ne hW
  generalize setM (setM M1 W (.words t)) a (.text t W)=M2 at G2 tx2
  generalize upd (upd (mkO H1 a da aN []) W (.lst [])) a (.ins aN da (fT x W))=H2 at G2 S2 hg hdg
  rw [lG,← (show mkO H2 gg dg aP (fG a 0)=upd (upd H2 dg (.own gg)) gg (.ins aP dg (fG a 0)) from rfl)]
  have G3:Go K ao aB aG aN (fun _=>False) M2 (setM M2 gg .mine) H₀ H2 (mkO H2 gg dg aP (fG a 0)):=Go.made G2.gh hg hdg ne2
  have S3:=jC (C:=aP) (fs:=fG a 0) hg hdg ne2
  have gn:=qF.new (CG:=aP) G2.gh tx2 hbt hg hdg ne2
  have hD3:=S3 _ _ (S2 _ _ h1D)
  have mD3:=G3.ext _ _ (G2.ext _ _ mD)
  have hnew:(.ref gg:V) ∉ ys:=fun z=>by
   obtain⟨k,hk⟩:=List.mem_iff_getElem?.mp z
   obtain⟨t',_,g',_,_,_,_,_,e,_,h2,_⟩:=hgo.get hk
   cases e
   have:=S2 _ _ h2
   rw [hg] at this
   cases this
  generalize mkO H2 gg dg aP (fG a 0)=H3 at G3 S3 gn hD3
  generalize setM M2 gg .mine=M3 at G3 gn mD3
  have Gl:Go K ao aB aG aN (fun c=>c=D) M3 M3 H₀ H3 (upd H3 D (.lst (ys++[.ref gg]))):=.list G3.gh mD3 hD3
  have Gs:Go K ao aB aG aN (fun c=>c=D) M1 M3 H₀ H1 (upd H3 D (.lst (ys++[.ref gg]))):=((G2.trans G3).weak fun _ z=>z.elim).trans Gl
  refine hR _ _ hD3 ⟨hD,M3,((G1.trans G2).trans G3).anI mD3 (by rw [g.fresh hD]; simp) (Kt.lst hD3),mD3,upd_same,by rw [List.length_append,hyl]; rfl,?_,?_⟩
  ·rw [aeu et]
   exact bh.append (hgo.imp fun _ _ z=>z.go Gs (z.nl h1D) G1.gh) (bh.one (gn.go Gl (gn.nl hD3) G3.gh))
  ·refine List.nodup_append.mpr ⟨nd,by simp,fun c hc e he=>?_⟩
   rw [List.mem_singleton.mp he]
   exact fun z=>hnew (z ▸ hc)
 obtain⟨hD,M1,G1,mD,h1D,hyl,hgo,nd⟩:=j
 rw [List.take_of_length_le (by rw [List.length_reverse]; lia)] at hgo
 have ho1:H1 o=some (.ins aM dx []):=(G1.mine o hm id).trans ho
 have noD:o≠D:=ne_of_none ho hD
 have kt {u:HO}{Ha:Hp}{fs:List (Str×V)} (h:Ha o=some (.ins aM dx fs)):Kt Ha (upd Ha o u):=Kt.ins h
 refine⟨_,rfl,o,aM,dx,[],rfl,ho1,O.dO,O.kg,by show 0<1000; decide,?_⟩
 rw [pw1]
 have G2:=(G1.weak (Y:=fun c=>c=o) fun _ z=>z.elim).qe (u:=.ins aM dx (w1 D)) (G1.ext _ _ hm) rfl (kt ho1)
 have Gq:Go K ao aB aG aN (fun c=>c=o) M1 M1 H₀ H1 (upd H1 o (.ins aM dx (w1 D))):=Go.qe (.refl G1.gh) (G1.ext _ _ hm) rfl (kt ho1)
 have aiN:=hgo.imp fun t x z=>z.go Gq (fun gx e z2=>by
  obtain⟨g',_,_,_,_,_,e',_,h2,_⟩:=z
  rw [e] at e'
  cases e'
  rw [z2,ho1] at h2
  have h3:=(HO.ins.inj (Option.some.inj h2)).2.2
  exact absurd (congrArg List.length h3) (by simp [fG])) G1.gh
 have h2D:upd H1 o (.ins aM dx (w1 D)) D=some (.lst gs):=by rw [upd_ne (Ne.symm noD)]; exact h1D
 have h2o:upd H1 o (.ins aM dx (w1 D)) o=some (.ins aM dx (w1 D)):=upd_same
 generalize upd H1 o (.ins aM dx (w1 D))=H2 at G2 aiN h2D h2o
 have hm1:=G1.ext _ _ hm
 refine⟨_,rfl,ax,_,1,_,rfl,rfl,dM G2.kt hax,atI_nat (j:=1) rfl,a1,ys1,rfl,dM G2.kt h1,fun l hl=>⟨_,rfl,o,aM,dx,w1 D,rfl,?_,O.dO,O.ks,by show 1<1000; decide,?_⟩⟩
 ·rw [upd_ne (ne_of_none h2o hl)]; exact h2o
 rw [pw2]
 have aoF:bh (RV K M1 H2) sk.reverse ys1.reverse:=(Qu (hy1.mono G2.kt)).rev
 have G3a:Go K ao aB aG aN (fun c=>c=o) M1 (setM M1 l .mine) H₀ H2 (upd H2 l (.lst ys1.reverse)):=Go.Rv G2.gh hl
 have h3o:upd H2 l (.lst ys1.reverse) o=some (.ins aM dx (w1 D)):=by rw [upd_ne (ne_of_none h2o hl)]; exact h2o
 have h3D:upd H2 l (.lst ys1.reverse) D=some (.lst gs):=by rw [upd_ne (ne_of_none h2D hl)]; exact h2D
 have nDl:D≠l:=ne_of_none h2D hl
 have h3l:upd H2 l (.lst ys1.reverse) l=some (.lst ys1.reverse):=upd_same
 have m3l:setM M1 l .mine l=some .mine:=fu
 generalize upd H2 l (.lst ys1.reverse)=H3 at G3a h3o h3D h3l
 generalize setM M1 l .mine=M3 at G3a m3l
 have hm3:=G3a.ext _ _ hm1
 have G3:=G3a.qe (u:=.ins aM dx (w2 D l)) hm3 rfl (kt h3o)
 have nlo:l≠o:=fun z=>by rw [z,h3o] at h3l; cases h3l
 have nog:∀ {Ma:Mp}{Ha:Hp}{fs:List (Str×V)}{t:T}{x:V},Ha o=some (.ins aM dx fs)→(∀ a p,fs≠fG a p)→qF aP Ma Ha t x→∀ gx,x=.ref gx→¬ gx=o:=fun hh hne z gx e z2=>by
  obtain⟨g',_,_,_,_,_,e',_,h2,_⟩:=z
  rw [e] at e'
  cases e'
  rw [z2,hh] at h2
  exact hne _ _ (HO.ins.inj (Option.some.inj h2)).2.2
 have n1:∀ a p,w1 D≠fG a p:=fun a p z=>absurd (congrArg List.length z) (by simp [fG,w1])
 have aiM:=aiN.imp fun t x z=>z.go G3 (nog h2o n1 z) G2.gh
 have afZ:=aoF.imp fun _ _ z=>G3.rv z
 have h4D:upd H3 o (.ins aM dx (w2 D l)) D=some (.lst gs):=by rw [upd_ne (Ne.symm noD)]; exact h3D
 have h4l:upd H3 o (.ins aM dx (w2 D l)) l=some (.lst ys1.reverse):=by rw [upd_ne nlo]; exact h3l
 have h4o:upd H3 o (.ins aM dx (w2 D l)) o=some (.ins aM dx (w2 D l)):=upd_same
 generalize upd H3 o (.ins aM dx (w2 D l))=H4 at G3 aiM afZ h4D h4l h4o
 have z63:(2:Int) ^ 63=9223372036854775808:=by decide
 refine⟨(by show 1≤sizeLine; decide),fun p5 g5=>⟨p5,15,[.int 0],rfl,rfl,upd_same,by lia,by lia,(by show 1 * 15≤sizeLine; decide),fun n g6=>?_⟩⟩
 have e0:(List.replicate (15:Int).toNat [V.int 0]).flatten=gW.map nv:=rfl
 rw [e0]
 have S5:=same_new g5 (.lst [V.int 0])
 have G5:Go K ao aB aG aN (fun c=>c=o) M3 M3 H₀ H4 (upd H4 p5 (.lst [V.int 0])):=.grow G3.gh S5
 have G6a:Go K ao aB aG aN (fun c=>c=o) M3 (setM M3 n .mine) H₀ (upd H4 p5 (.lst [V.int 0])) (upd (upd H4 p5 (.lst [V.int 0])) n (.lst (gW.map nv))):=Go.Rv G5.gh g6
 have S6:=S5.trans (same_new g6 (.lst (gW.map nv)))
 have h6n:upd (upd H4 p5 (.lst [V.int 0])) n (.lst (gW.map nv)) n=some (.lst (gW.map nv)):=upd_same
 have m6n:setM M3 n .mine n=some .mine:=fu
 have n4:H4 n=none:=S5.free g6
 have G6:=G5.trans G6a
 generalize upd (upd H4 p5 (.lst [V.int 0])) n (.lst (gW.map nv))=H6 at G6 G6a S6 h6n
 generalize setM M3 n .mine=M6 at G6 G6a m6n
 have h6o:=S6 _ _ h4o
 refine⟨_,rfl,o,aM,dx,w2 D l,rfl,h6o,O.dO,O.kn,by show 2<1000; decide,?_⟩
 rw [pw3]
 refine⟨_,rfl,_,rfl,o,aM,dx,w3 D l n,rfl,upd_same,O.dO,O.kl,by show 3<1000; decide,?_⟩
 rw [pw4,lG]
 have hm6:=G6.ext _ _ hm3
 have G7:=G6.qe (u:=.ins aM dx (fW D l n b)) hm6 rfl (kt h6o)
 have n2:∀ a p,w2 D l≠fG a p:=fun a p z=>by
  have h1:((Str.ofString "goings",V.ref D):Str×V)=(Str.ofString "text",V.ref a):=(List.cons.inj z).1
  have h2:Str.ofString "goings"=Str.ofString "text":=congrArg Prod.fst h1
  exact absurd h2 (by decide +kernel)
 have aoK:=aiM.imp fun t x z=>z.go G7 (nog h4o n2 z) G3.gh
 have aks:=afZ.imp fun _ _ z=>G7.rv z
 have nno:n≠o:=fun z=>by rw [z,h6o] at h6n; cases h6n
 have mD6:=G6.ext _ _ (G3a.ext _ _ mD)
 exact q M6 _ ⟨dx,D,l,n,gs,ys1.reverse,G7.gh,upd_same,hm6,mD6,G6.ext _ _ m3l,m6n,by rw [upd_ne (Ne.symm noD)]; exact S6 _ _ h4D,by rw [upd_ne nlo]; exact S6 _ _ h4l,by rw [upd_ne nno]; exact h6n,aoK,aks,rfl,nDl,ne_of_none h4D n4,ne_of_none h4l n4,nd⟩
end
end fY
namespace fY
open PySem PySem.Spec PyProof.Rows L2 Sw
section
variable {P:Program}{w:World}{K:PySem.W.Frag}{mg:Str→Option Value}{base:Heap}{f:Addr}{fd:FuncData}{ao aB aG aN aP aM:Addr}
theorem Wg (O:Own K ao aB aG aN aP aM) {vJ:Value} (Cg:mg "SHUT"=some vJ) (vR:RelV (.int 12) vJ) {iW:Value} (mF:mg "WHILE_INTO"=some iW) (iZ:RelV (.int 9) iW) {xX:Value} (Ms:mg "BODIES"=some xX) (yx:RelV (.int 14) xX) {kh:Value} (qL:mg "FORK_YES"=some kh) (kZ:RelV (.int 7) kh) {mW:Value} (sV:mg "FORK_NO"=some mW) (mX:RelV (.int 8) mW)
  {X_:Addr}{XC:FuncData} (ajO:Fun K "work" "work" yp X_ XC) (ajL:FnOk P w K mg base CX0 36 X_ XC ["step","load","stack"] (acN K ao aB aG aN)) (ajE:Binds K XC ["step","load","stack"] []) (aix:mg "work"=some (.ref X_))
  (sU:mg "Going"=some (.ref aP))
  {iy:Addr}{wN:FuncData} (qT:Meth K aG "body_parts" iy) (Kr:FnOk P w K mg base CX0 36 iy wN ["self"] (Z1 K ao aB aG aN)) (qR:Binds K wN ["self"] [])
  {dR:Addr}{jR:FuncData} (qD:Mk K aP dR) (jW:FnOk P w K mg base CX0 35 dR jR ["self","text"] (K1 aP)) (fM:Binds K jR ["self","text"] [])
  (F:Fun K "move" "Walk.move" oX f fd):FnOk P w K mg base CX0 37 f fd ["self","step","going","word"] (acO K ao aB aG aN aP aM):=by
 refine okQ F VG (fun vs H Q E h=>?_) (fun cdv A outer s H vs Q E hr h=>?_)
 ·obtain⟨o,dx,G,S,N,gs0,g,rows,p,rest,sp,num,b,k,wv,M,H₀,rfl,_⟩:=h
  rfl
 obtain⟨o,dx,G,S,N,gs0,g,rows,p,rest,sp,num,b,k,wv,M,H₀,rfl,w0,hlk,hb,hkl,hrest,h⟩:=h
 refine⟨_,(aA (cg (aZ op_eq (qv 1) (bC (v:=.int 12) rfl Cg vR) (nomark _)) (aA (cU (rA PySem.F.plainAttrs_list PySem.F.slot_list_pop PySem.F.type_list_pop tO (bY (qv 0) rfl)))
   (aD Z_)) bL)
   (aA (cg (aZ op_eq (qv 1) (bC (v:=.int 9) rfl mF iZ) (nomark _)) (aA (Q7 (bY (qv 0) rfl) (bC (v:=.int 14) rfl Ms yx) M8 (nF (qv 3) O.gP qT Kr hr qR .nil pass0) Hz set_list)
   (aA (cU (gC PySem.F.plainAttrs_list PySem.F.slot_list_append PySem.F.type_list_append cV (bY (qv 0) rfl) (aj (j5 qD jW hr rfl sU fM .nil pass0 (aj (bY (qv 3) rfl) ak)) ak)))
   (aD Z_))) bL)
   (aA (TV (qv 2) aH aiF)
   (aD (cg (aZ op_eq (qv 1) (bC (v:=.int 7) rfl qL kZ) (nomark _)) (aD (cU (gC PySem.F.plainAttrs_list PySem.F.slot_list_append PySem.F.type_list_append cV (bY (qv 0) rfl) (aj (j5 qD jW hr rfl sU fM .nil pass0 (aj (bY (qv 3) rfl) ak)) ak)))) (aD (cg (aZ op_eq (qv 1) (bC (v:=.int 8) rfl sV mX) (nomark _)) (aD (cU (gC PySem.F.plainAttrs_list PySem.F.slot_list_append PySem.F.type_list_append cV (bY (qv 0) rfl) (aj (j5 qD jW hr rfl sU fM .nil pass0 (aj (bY (qv 3) rfl) ak)) ak)))) (aD (cU (aF ajL hr rfl aix ajO.kp ajE .nil pass0 (aj (qv 1) (aj (bY (qv 3) rfl) (aj (bY (qv 0) rfl) ak))))))))))))),?_⟩
 have hgl:=w0.gos.length
 rw [List.length_reverse,List.length_cons,List.length_append,List.length_singleton] at hgl
 rcases h with⟨rfl,q⟩ | ⟨w',ws,bw,tx',s',mC,rfl,rfl,hbw,rdy,mv,bx',hz,q⟩
 ·refine⟨_,rfl,rfl,_,rfl,ite2 (fun _=>?_) (fun h=>absurd (by decide) h)⟩
  have hgo:=w0.gos
  rw [List.reverse_cons] at hgo
  obtain⟨gs1,y,e1,hg0,_⟩:=bh.snoc hgo
  obtain⟨rfl,_⟩:=List.append_inj' e1 rfl
  refine⟨_,rfl,o,aM,dx,_,_,rfl,w0.ob,O.dO,O.kg,lwG,.inl ⟨rfl,_,SqL.of w0.hG⟩,G,_,_,rfl,rfl,w0.hG,mY _ _,?_⟩
  rw [mZ]
  exact q M _ ⟨dx,G,S,N,gs0,rows,w0.setG hg0 (List.nodup_append.mp w0.nd).1⟩
 have hw:=w0.gh.ok bw _ hbw
 have n12:¬ k=12:=fun z=>by
  rcases mv with⟨h,_⟩ | ⟨h,_⟩ | ⟨h,_⟩ | ⟨h,_⟩ <;> lia
 refine⟨_,rfl,rfl,_,rfl,ite2 (fun h=>absurd (by have:=V.int.inj (of_decide_eq_true h); lia) n12) (fun _=>?_)⟩
 dsimp only [tNext]
 rcases mv with⟨rfl,s8,rfl,rfl,rfl⟩ | mv
 ·refine⟨_,rfl,rfl,_,rfl,ite2 (fun _=>?_) (fun h=>absurd (by decide) h)⟩
  obtain⟨dw,v,y,n,bd,sz,hw1,tv,c7,c8,hs⟩:=hw
  refine⟨_,rfl,o,aM,dx,_,_,rfl,w0.ob,O.dO,O.kn,lwN,N,_,_,_,rfl,rfl,SqL.of w0.hN,ab8 (k:=14) w0.n15 (by lia),_,rfl,bw,dw,_,rfl,hw1,anL (by decide +kernel) (by decide +kernel) (by decide +kernel) (by decide +kernel) (by decide +kernel) (by decide +kernel),bw,w',M,H₀,rfl,w0.gh,hbw,hz,fun H1 G1=>⟨_,_,rfl,rfl,N,_,_,14,rfl,rfl,(w0.go G1).hN,RP (j:=14) (by rw [List.length_map,w0.n15]; lia),?_⟩⟩
  rw [QM]
  have w1:=(w0.go G1).aeC (mC:=num.set 14 (num.getD 14 0+(bD w').parts)) (by rw [List.length_set]; exact w0.n15)
  generalize upd H1 N (.lst ((num.set 14 (num.getD 14 0+(bD w').parts)).map nv))=H2 at w1
  obtain⟨dw,v,y,n,bd,sz,hw1,tv,c7,c8,hs⟩:=w1.gh.ok bw _ hbw
  obtain⟨ab,rfl,htx⟩:=c8 s8
  refine⟨_,rfl,o,aM,dx,_,_,rfl,w1.ob,O.dO,O.kg,lwG,.inl ⟨rfl,_,SqL.of w1.hG⟩,_,rfl,bw,aG,dw,_,_,rfl,hw1,O.gP,O.wb,ldB,fun gg dg hg hdg ne=>⟨gg,dg,ab,rfl,jf,⟨rfl,G,gs0++[.ref g],_,rfl,rfl,?_,?_,?_⟩⟩⟩
  ·rw [lG]
   exact jC (C:=aP) (fs:=fG ab 0) hg hdg ne _ _ w1.hG
  ·exact gG (by simp only [List.length_append,List.length_singleton]; lia)
  rw [lG,← (show mkO H2 gg dg aP (fG ab 0)=upd (upd H2 dg (.own gg)) gg (.ins aP dg (fG ab 0)) from rfl)]
  obtain⟨k1,k2,k3⟩:=w1.newG htx (bx'.2 _ (by simp)) hg hdg ne
  exact q _ _ ⟨dx,G,S,N,_,rows,k1.push k2 k3⟩
 have n9:¬ k=9:=fun z=>by
  rcases mv with⟨h,_⟩ | ⟨h,_⟩ | ⟨h,_⟩ <;> lia
 refine⟨_,rfl,rfl,_,rfl,ite2 (fun h=>absurd (by have:=V.int.inj (of_decide_eq_true h); lia) n9) (fun _=>?_)⟩
 dsimp only [tNext]
 obtain⟨dg,a,W,j,tt,wl,mg,hg,ma,hW,hj,hdr,hbt⟩:=rdy
 refine⟨_,rfl,g,aP,dg,_,_,rfl,hg,O.Iu,O.gp,lgP,_,_,rfl,rfl,dg,_,hg,by show 2<1000; decide,?_⟩
 rw [show putF "place" (.int ((j:Int)+1)) (fG a j)=fG a (j+1) from pgP (q:=j+1)]
 have w1:=w0.onto mg hg ma hW hj hdr hbt
 generalize upd H g (.ins aP dg (fG a (j+1)))=H1 at w1
 obtain⟨dw,v,y,n,bd,sz,hw1,tv,c7,c8,hs⟩:=w1.gh.ok bw _ hbw
 rcases mv with⟨rfl,s7,rfl,rfl,rfl⟩ | ⟨rfl,s7,rfl,rfl,rfl⟩ | ⟨hk,rfl,rfl,rfl⟩
 ·refine⟨_,rfl,rfl,_,rfl,ite2 (fun _=>?_) (fun h=>absurd (by decide) h)⟩
  obtain⟨ay,an,rfl,rfl,hty,htn⟩:=c7 s7
  refine⟨_,rfl,o,aM,dx,_,_,rfl,w1.ob,O.dO,O.kg,lwG,.inl ⟨rfl,_,SqL.of w1.hG⟩,_,rfl,bw,aG,dw,_,_,rfl,hw1,O.gP,O.wy,ldY,fun gg dg hg hdg ne=>⟨gg,dg,ay,rfl,jf,⟨rfl,G,gs0++[.ref g],_,rfl,rfl,?_,?_,?_⟩⟩⟩
  ·rw [lG]
   exact jC (C:=aP) (fs:=fG ay 0) hg hdg ne _ _ w1.hG
  ·exact gG (by simp only [List.length_append,List.length_singleton]; lia)
  rw [lG,← (show mkO H1 gg dg aP (fG ay 0)=upd (upd H1 dg (.own gg)) gg (.ins aP dg (fG ay 0)) from rfl)]
  obtain⟨k1,k2,k3⟩:=w1.newG hty (bx'.2 _ (by simp)) hg hdg ne
  exact q _ _ ⟨dx,G,S,N,_,rows,k1.push k2 k3⟩
 ·refine⟨_,rfl,rfl,_,rfl,ite2 (fun h=>absurd h (by decide)) (fun _=>?_)⟩
  refine⟨_,rfl,rfl,_,rfl,ite2 (fun _=>?_) (fun h=>absurd (by decide) h)⟩
  obtain⟨ay,an,rfl,rfl,hty,htn⟩:=c7 s7
  refine⟨_,rfl,o,aM,dx,_,_,rfl,w1.ob,O.dO,O.kg,lwG,.inl ⟨rfl,_,SqL.of w1.hG⟩,_,rfl,bw,aG,dw,_,_,rfl,hw1,O.gP,O.wn,ldN,fun gg dg hg hdg ne=>⟨gg,dg,an,rfl,jf,⟨rfl,G,gs0++[.ref g],_,rfl,rfl,?_,?_,?_⟩⟩⟩
  ·rw [lG]
   exact jC (C:=aP) (fs:=fG an 0) hg hdg ne _ _ w1.hG
  ·exact gG (by simp only [List.length_append,List.length_singleton]; lia)
  rw [lG,← (show mkO H1 gg dg aP (fG an 0)=upd (upd H1 dg (.own gg)) gg (.ins aP dg (fG an 0)) from rfl)]
  obtain⟨k1,k2,k3⟩:=w1.newG htn (bx'.2 _ (by simp)) hg hdg ne
  exact q _ _ ⟨dx,G,S,N,_,rows,k1.push k2 k3⟩
 ·refine⟨_,rfl,rfl,_,rfl,ite2 (fun h=>absurd (show k=7 by have:=V.int.inj (of_decide_eq_true h); lia) (by lia)) (fun _=>?_)⟩
  refine⟨_,rfl,rfl,_,rfl,ite2 (fun h=>absurd (show k=8 by have:=V.int.inj (of_decide_eq_true h); lia) (by lia)) (fun _=>?_)⟩
  exact⟨_,rfl,_,rfl,bw,aG,dw,_,_,rfl,hw1,O.gP,O.wl,ldL,_,rfl,o,aM,dx,_,_,rfl,w1.ob,O.dO,O.ks,lwS,k,v,S,bD w',sp,rows,M,H₀,rfl,w1.gh,w1.mS,w1.hS,w1.sts,tv,hlk,hb,hkl,fun M' H' rows' G' hS' hr'=>q M' H' ⟨dx,G,S,N,_,rows',w1.ahD G' hS' hr'⟩⟩
end
end fY
namespace fY
open PySem PySem.Spec PyProof.Rows L2 Sw
section
variable {P:Program}{w:World}{K:PySem.W.Frag}{mg:Str→Option Value}{base:Heap}{f:Addr}{fd:FuncData}{ao aB aG aN aP aM:Addr}
theorem Wf (O:Own K ao aB aG aN aP aM) (gj:mg "len"=none) {vJ:Value} (Cg:mg "SHUT"=some vJ) (vR:RelV (.int 12) vJ) {pI:Value} (rB:mg "TWIN"=some pI) (oF:RelV (.int 2) pI) {pJ:Value} (rP:mg "COPIED"=some pJ) (nA:RelV (.int 13) pJ) {vh:Addr} (Rz:mg "LOOKS"=some (.ref vh)) (Q9:∀ H,SqT K H vh [.int 0,.int 1,.int 1,.int 2,.int 2,.int 1,.int 3,.int 1,.int 1,.int 1,.int 1,.int 0,.int 0])
  {Ew:Addr}{Ej:FuncData} (acp:Fun K "place_of" "place_of" kJ Ew Ej) (ach:FnOk P w K mg base CX0 37 Ew Ej ["sort","top"] (ZW K ao aB aG aN)) (ab4:Binds K Ej ["sort","top"] []) (abk:mg "place_of"=some (.ref Ew))
  {u_:Addr}{uT:FuncData} (Tq:Fun K "parts_within" "parts_within" iG u_ uT) (Ti:FnOk P w K mg base CX0 37 u_ uT ["row","most"] (Vj K ao aB aG aN)) (Sx:Binds K uT ["row","most"] []) (Rw:mg "parts_within"=some (.ref u_))
  {jE:Addr}{Ck:FuncData} (vo:Meth K aN "word_at" jE) (Tn:FnOk P w K mg base CX0 37 jE Ck ["self","place"] (Vc K ao aB aG aN)) (uZ:Binds K Ck ["self","place"] [])
  {jr:Addr}{ug:FuncData} (ou:Meth K aM "top" jr) (xu:FnOk P w K mg base CX0 37 jr ug ["self"] (aaP K ao aB aG aN aP aM)) (nY:Binds K ug ["self"] [])
  {o9:Addr}{Kv:FuncData} (Bm:Meth K aM "move" o9) (Zy:FnOk P w K mg base CX0 37 o9 Kv ["self","step","going","word"] (acO K ao aB aG aN aP aM)) (Bd:Binds K Kv ["self","step","going","word"] [])
  (F:Fun K "step" "Walk.step" oW f fd):FnOk P w K mg base CX0 38 f fd ["self"] (ZR K ao aB aG aN aP aM):=by
 refine okQ F pK (fun vs H Q E h=>?_) (fun cdv A outer s H vs Q E hr h=>?_)
 ·obtain⟨o,M,H₀,tx,sk,num,b,rfl,_⟩:=h
  rfl
 obtain⟨o,M,H₀,tx,sk,num,b,rfl,w0,hne,bx,bs,hnx,qf,qt⟩:=h
 refine⟨_,(aA (bN (i:=1) pK.nd rfl (Or.inl rfl) (gB ix_list (bY (qv 0) rfl) (zL vI aH) (fun _ _=>rfl)))
   (aA (bN (i:=2) pK.nd rfl (Or.inl rfl) (aad (bY (qv 1) rfl) O.cText vo Tn hr uZ .nil pass0 (aj (bY (qv 1) rfl) ak)))
   (aA (bN (i:=3) pK.nd rfl (Or.inl rfl) (rN (aZ ac_ (qv 2) yD (nomark _)) (bC (v:=.int 12) rfl Cg vR) (aF ach hr rfl abk acp.kp ab4 .nil pass0 (aj (bY (qv 2) rfl) (aj (nF (qv 0) O.dO ou xu hr nY .nil pass0) ak)))))
   (aA (bN (i:=4) pK.nd rfl (Or.inl rfl) (rN (aZ op_eq (qv 3) (bC (v:=.int 2) rfl rB oF) (nomark _)) (aF Ti hr rfl Rw Tq.kp Sx .nil pass0 (aj (nF (qv 0) O.dO ou xu hr nY .nil pass0) (aj (bY (qv 0) rfl) ak))) aH))
   (aA (cg (aZ wY (qv 4) (bY (qv 0) rfl) (nomark _)) (aD (aV JF)) bL)
   (aA (TV (qv 0) (qv 4) aiE)
   (aA (Q7 (bY (qv 0) rfl) (qv 3) M8 aH Hz set_list)
   (aA (cg (aZ op_eq (qv 3) (bC (v:=.int 2) rfl rB oF) (nomark _)) (aD (Q7 (bY (qv 0) rfl) (bC (v:=.int 13) rfl rP nA) M8 (qv 4) Hz set_list)) bL)
   (aA (yC PassesOwn.never (aZ Ow (cO call_len_seq rfl gj oN (aj (bY (qv 0) rfl) ak)) (gB jl (bC (v:=.ref vh) rfl Rz rfl) (qv 3) (fun _ _=>rfl)) (nomark _)) (aD (cU (gC PySem.F.plainAttrs_list PySem.F.slot_list_insert PySem.F.type_list_insert abf (bY (qv 0) rfl) (aj aH (aj (bA ak) ak))))))
   (aA (cU (aad (qv 0) O.dO Bm Zy hr Bd .nil pass0 (aj (qv 3) (aj (qv 1) (aj (qv 2) ak)))))
   (aD (aV JF)))))))))))),?_⟩
 obtain⟨dx,G,S,N,gs,rows,w0⟩:=w0
 obtain⟨p,rest,rfl⟩:∃ p rest,tx=p::rest:=by
  cases tx with
  | nil=>exact absurd rfl hne
  | cons p rest=>exact⟨p,rest,rfl⟩
 have hgo:=w0.gos
 rw [List.reverse_cons] at hgo
 obtain⟨gs0,y,rfl,hg0,hgp⟩:=bh.snoc hgo
 obtain⟨g,dg,a,W,j,tt,rfl,mg,hg,ma,hjk,⟨wl,hW,hjw⟩,rfl,hbt⟩:=hgp
 have h12:=xJ (tx:=T.node (tt.kids.drop j)::rest) (s:=sk)
 have htl:tt.kids.length≤8000000:=by
  have h1:=hbt.2
  have h2:=T.dN tt
  have h3:=T.cQ tt.kids
  lia
 have hsp:T.au sk≤7999999:=by
  have h1:=bs.2
  rw [T.aL] at h1
  lia
 have hsl:=T.cQ sk
 have aq3:rest.length+1≤8000000:=bx.1
 have bt0:=lX bs 0
 refine ji (fun v=>[some (.ref o),some v,none,none,none]) (fun _=>rfl) (fun v H'=>v=.ref g∧H'=H) (fun R r=>⟨_,rfl,o,aM,dx,_,_,rfl,w0.ob,O.dO,O.kg,lwG,1,rfl,G,_,_,_,rfl,rfl,SqL.of w0.hG,Cr,r _ _ ⟨rfl,rfl⟩⟩) (fun v1 H1 h1=>?_)
 obtain⟨rfl,rfl⟩:=h1
 refine ji (fun v=>[some (.ref o),some (.ref g),some v,none,none]) (fun _=>rfl) (fun v H'=>∃ M',WkX K ao aB aG aN aP aM M' H₀ H' o dx G S N (gs0++[.ref g]) rows (T.node (tt.kids.drop j)::rest) sk num b∧((v=.non∧tt.kids.drop j=[])∨∃ w' ws' bw,v=.ref bw∧M' bw=some (.word w')∧Rdy aP M' H' g w' ws'∧tt.kids.drop j=w'::ws')) (fun R r=>?_) (fun v2 H2 h2=>?_)
 ·obtain⟨da,va,ha,_,_⟩:=w0.gh.ok a _ ma
  refine⟨_,rfl,g,aP,dg,_,_,rfl,hg,O.Iu,O.gt,lgT,a,da,_,rfl,ha,anK (by decide +kernel) (by decide +kernel),_,rfl,g,aP,dg,_,_,rfl,hg,O.Iu,O.gp,lgP,a,tt,W,j,M,H₀,wl,rfl,w0.gh,ma,hW,hjw,hjk,by have:=hbt.1; lia,htl,fun e=>r _ _ ⟨M,w0,.inl ⟨rfl,by rw [e]; exact List.drop_length⟩⟩,fun w' ew bw M' H' G' hb' hl'=>?_⟩
  obtain⟨_,_,_,_,hMW⟩:=w0.gh.ok a _ ma
  obtain⟨wl',e1,e2⟩:=G'.wds W _ wl hMW hW
  exact r _ _ ⟨M',w0.go G',.inr ⟨w',tt.kids.drop (j+1),bw,rfl,hb',⟨dg,a,W,j,tt,wl',G'.ext _ _ mg,(G'.mine g mg id).trans hg,G'.ext _ _ ma,e1,hl' wl' e1,drop_cons ew,hbt⟩,drop_cons ew⟩⟩
 obtain⟨M2,w2,hv⟩:=h2
 refine ji (fun v=>[some (.ref o),some (.ref g),some v2,some v,none]) (fun _=>rfl) (fun v H'=>v=.int (stepT (T.node (tt.kids.drop j)::rest) sk:Nat)∧Same H2 H') (fun R r=>?_) (fun v3 H3 h3=>?_)
 ·rcases hv with⟨rfl,he⟩ | ⟨w',ws',bw,rfl,hbw,rdy,he⟩
  ·refine⟨_,rfl,rfl,_,rfl,iteT (r _ _ ⟨?_,Same.refl _⟩)⟩
   rw [Vb (show (ats (T.node (tt.kids.drop j)::rest) 0).kids=[] from he)]
   rfl
  ·obtain⟨dw,v,y,n,bd,sz,hw1,tv,c7,c8,hs⟩:=w2.gh.ok bw _ hbw
   refine⟨_,rfl,rfl,_,rfl,iteF ⟨_,rfl,bw,aG,dw,_,_,rfl,hw1,O.gP,O.wk,ldK,_,rfl,o,dx,_,rfl,w2.ob,DK (by decide +kernel) (by decide +kernel) (by decide +kernel) (by decide +kernel),o,M2,H₀,_,_,_,_,rfl,⟨dx,G,S,N,_,_,w2⟩,fun x H3 S3 hx=>⟨_,x,ats sk 0,M2,H₀,rfl,w2.gh.grow S3,hx,by have:=bt0.1; lia,fun H4 S4=>r _ _ ⟨?_,S3.trans S4⟩⟩⟩⟩
   rw [aaO (show (T.node (tt.kids.drop j)).kids=w'::ws' from he)]
 obtain⟨rfl,S3⟩:=h3
 have w3:=w2.grow S3
 have hv3:(v2=.non∧tt.kids.drop j=[])∨∃ w' ws' bw,v2=.ref bw∧M2 bw=some (.word w')∧Rdy aP M2 H3 g w' ws'∧tt.kids.drop j=w'::ws':=by
  rcases hv with hv | ⟨w',ws',bw,e1,e2,e3,e4⟩
  ·exact .inl hv
  ·exact .inr ⟨w',ws',bw,e1,e2,e3.go (.grow w2.gh S3:Go K ao aB aG aN (fun _=>False) M2 M2 H₀ H2 H3) id w2.gh,e4⟩
 refine ji (fun v=>[some (.ref o),some (.ref g),some v2,some (.int (stepT (T.node (tt.kids.drop j)::rest) sk:Nat)),some v]) (fun _=>rfl) (fun v H'=>Same H3 H'∧∃ c:Nat,v=.int (c:Int)∧(bF (T.node (tt.kids.drop j)::rest) sk≤b→c=bF (T.node (tt.kids.drop j)::rest) sk)∧(b<bF (T.node (tt.kids.drop j)::rest) sk→b<c)) (fun R r=>?_) (fun v4 H4 h4=>?_)
 ·refine⟨_,rfl,rfl,_,rfl,ite2 (fun h=>?_) (fun h=>?_)⟩
  ·have h2:stepT (T.node (tt.kids.drop j)::rest) sk=2:=by have:=V.int.inj (of_decide_eq_true h); lia
   have hc:bF (T.node (tt.kids.drop j)::rest) sk=(ats sk 0).parts:=by unfold bF; rw [if_pos h2]
   refine⟨_,rfl,o,dx,_,rfl,w3.ob,DK (by decide +kernel) (by decide +kernel) (by decide +kernel) (by decide +kernel),o,M2,H₀,_,_,_,_,rfl,⟨dx,G,S,N,_,_,w3⟩,fun x H4 S4 hx=>⟨_,rfl,o,aM,dx,_,_,rfl,(w3.grow S4).ob,O.dO,O.kl,lwL,x,ats sk 0,M2,H₀,b,rfl,w3.gh.grow S4,hx,by have:=bt0.2; lia,fun c H5 S5 c1 c2=>r _ _ ⟨S4.trans S5,c,rfl,by rw [hc]; exact c1,by rw [hc]; exact c2⟩⟩⟩
  ·have h2:¬ stepT (T.node (tt.kids.drop j)::rest) sk=2:=fun z=>h (decide_eq_true (by rw [z]; rfl))
   have hc:bF (T.node (tt.kids.drop j)::rest) sk=1:=by unfold bF; rw [if_neg h2]
   exact r _ _ ⟨Same.refl _,1,rfl,fun _=>hc.symm,fun z=>by rw [hc] at z; exact z⟩
 obtain⟨S4,c,rfl,c1,c2⟩:=h4
 have w4:=w3.grow S4
 have hv4:(v2=.non∧tt.kids.drop j=[])∨∃ w' ws' bw,v2=.ref bw∧M2 bw=some (.word w')∧Rdy aP M2 H4 g w' ws'∧tt.kids.drop j=w'::ws':=by
  rcases hv3 with hv | ⟨w',ws',bw,e1,e2,e3,e4⟩
  ·exact .inl hv
  ·exact .inr ⟨w',ws',bw,e1,e2,e3.go (.grow w3.gh S4:Go K ao aB aG aN (fun _=>False) M2 M2 H₀ H3 H4) id w3.gh,e4⟩
 refine⟨_,rfl,_,rfl,o,aM,dx,_,_,rfl,w4.ob,O.dO,O.kl,lwL,_,_,rfl,rfl,_,rfl,ite2 (fun h=>?_) (fun h=>?_)⟩
 ·have hbc:b<c:=by have:=of_decide_eq_true h; lia
  have hb:b<bF (T.node (tt.kids.drop j)::rest) sk:=by
   rcases Nat.lt_or_ge b (bF (T.node (tt.kids.drop j)::rest) sk) with z | z
   ·exact z
   ·have:=c1 z; lia
  exact qf hb M2 H4 ⟨dx,G,S,N,_,_,w4⟩
 have hcb:c≤b:=by
  have:¬ ((b:Int)<(c:Int)):=fun z=>h (decide_eq_true z)
  lia
 have UJ:bF (T.node (tt.kids.drop j)::rest) sk≤b:=by
  rcases Nat.lt_or_ge b (bF (T.node (tt.kids.drop j)::rest) sk) with z | z
  ·have:=c2 z; lia
  ·exact z
 have hc:=c1 UJ
 obtain⟨bx2,bs2⟩:=hnx UJ
 have q:=qt UJ
 have afl:∀ {Ma:Mp}{Ha:Hp}{mC:List Nat}{rows':List V}{s':List T}{b':Nat},WkX K ao aB aG aN aP aM Ma H₀ Ha o dx G S N (gs0++[.ref g]) rows' (T.node (tt.kids.drop j)::rest) s' mC b'→qF aP Ma Ha (T.node (tt.kids.drop j)) (.ref g):=fun wa=>by
  have hgo:=wa.gos
  rw [List.reverse_cons] at hgo
  obtain⟨gs1,y,e1,_,hy⟩:=bh.snoc hgo
  have:=(List.append_inj' e1 rfl).2
  cases this
  exact hy
 dsimp only [tNext]
 refine⟨_,rfl,o,aM,dx,_,_,rfl,w4.ob,O.dO,O.kl,lwL,_,rfl,_,_,rfl,rfl,dx,_,w4.ob,by show 4<1000; decide,?_⟩
 rw [show (V.int ((b:Int) - (c:Int)):V)=.int ((b - c:Nat):Int) by congr 1; lia,pwL]
 have w5:=w4.aln (b - c)
 have G5:Go K ao aB aG aN (fun a=>a=o) M2 M2 H₀ H4 (upd H4 o (.ins aM dx (fW G S N (b - c)))):=Go.qe (.refl w4.gh) w4.mo rfl (Kt.ins w4.ob)
 have ngo:¬ g=o:=by
  obtain⟨g',_,_,_,_,_,e,_,h2,_⟩:=afl w4
  cases e
  intro z
  rw [z,w4.ob] at h2
  have h3:=(HO.ins.inj (Option.some.inj h2)).2.2
  exact absurd (congrArg List.length h3) (by simp [fG,fW])
 have hv5:(v2=.non∧tt.kids.drop j=[])∨∃ w' ws' bw,v2=.ref bw∧M2 bw=some (.word w')∧Rdy aP M2 (upd H4 o (.ins aM dx (fW G S N (b - c)))) g w' ws'∧tt.kids.drop j=w'::ws':=by
  rcases hv4 with hv | ⟨w',ws',bw,e1,e2,e3,e4⟩
  ·exact .inl hv
  ·exact .inr ⟨w',ws',bw,e1,e2,e3.go G5 ngo w4.gh,e4⟩
 generalize upd H4 o (.ins aM dx (fW G S N (b - c)))=H5 at w5 hv5
 have mgg:M2 g=some .mine:=by
  obtain⟨g',_,_,_,_,_,e,h2,_⟩:=afl w4
  cases e
  exact h2
 have gnl:∀ {Ha:Hp}{mC:List Nat}{rows':List V}{s':List T}{b':Nat}{q:Addr}{l:List V},WkX K ao aB aG aN aP aM M2 H₀ Ha o dx G S N (gs0++[.ref g]) rows' (T.node (tt.kids.drop j)::rest) s' mC b'→Ha q=some (.lst l)→¬ g=q:=fun wa hq z=>by
  obtain⟨g',_,_,_,_,_,e,_,h2,_⟩:=afl wa
  cases e
  rw [z,hq] at h2
  cases h2
 generalize hK:stepT (T.node (tt.kids.drop j)::rest) sk=k at *
 refine⟨_,rfl,o,aM,dx,_,_,rfl,w5.ob,O.dO,O.kn,lwN,_,rfl,N,_,_,_,rfl,rfl,SqL.of w5.hN,ab8 (k:=k) w5.n15 (by lia),_,_,rfl,rfl,N,_,_,k,rfl,rfl,w5.hN,RP (j:=k) (by rw [List.length_map,w5.n15]; lia),?_⟩
 rw [show (V.int ((num.getD k 0:Int)+1):V)=V.int ((num.getD k 0:Int)+((1:Nat):Int)) from rfl,QM]
 have w6:=w5.aeC (mC:=num.set k (num.getD k 0+1)) (by rw [List.length_set]; exact w5.n15)
 have G6:Go K ao aB aG aN (fun a=>a=N) M2 M2 H₀ H5 (upd H5 N (.lst ((num.set k (num.getD k 0+1)).map nv))):=.list w5.gh w5.mN w5.hN
 have hv6:(v2=.non∧tt.kids.drop j=[])∨∃ w' ws' bw,v2=.ref bw∧M2 bw=some (.word w')∧Rdy aP M2 (upd H5 N (.lst ((num.set k (num.getD k 0+1)).map nv))) g w' ws'∧tt.kids.drop j=w'::ws':=by
  rcases hv5 with hv | ⟨w',ws',bw,e1,e2,e3,e4⟩
  ·exact .inl hv
  ·exact .inr ⟨w',ws',bw,e1,e2,e3.go G6 (gnl w5 w5.hN) w5.gh,e4⟩
 generalize upd H5 N (.lst ((num.set k (num.getD k 0+1)).map nv))=H6 at w6 hv6
 dsimp only
 refine abx (fun σ' H'=>σ'=[some (.ref o),some (.ref g),some v2,some (.int (k:Int)),some (.int (c:Int))]∧WkX K ao aB aG aN aP aM M2 H₀ H' o dx G S N (gs0++[.ref g]) rows (T.node (tt.kids.drop j)::rest) sk (Du k c num) (b - c)∧((v2=.non∧tt.kids.drop j=[])∨∃ w' ws' bw,v2=.ref bw∧M2 bw=some (.word w')∧Rdy aP M2 H' g w' ws'∧tt.kids.drop j=w'::ws')) (fun σ' H7 h7=>?_) (fun A' B' hA hB=>⟨_,rfl,rfl,_,rfl,ite2 (fun h=>hA _ fun N' hN'=>?_) (fun h=>hB _ ⟨rfl,?_,hv6⟩)⟩)
 rotate_left
 ·have h2:k=2:=by have:=V.int.inj (of_decide_eq_true h); lia
  subst h2
  refine⟨_,rfl,o,aM,dx,_,_,rfl,w6.ob,O.dO,O.kn,lwN,N,_,_,_,rfl,rfl,SqL.of w6.hN,ab8 (k:=13) w6.n15 (by lia),_,rfl,_,_,rfl,rfl,N,_,_,13,rfl,rfl,w6.hN,RP (j:=13) (by rw [List.length_map,w6.n15]; lia),?_⟩
  rw [QM]
  have w7:=w6.aeC (mC:=(num.set 2 (num.getD 2 0+1)).set 13 ((num.set 2 (num.getD 2 0+1)).getD 13 0+c)) (by rw [List.length_set]; exact w6.n15)
  have G7:Go K ao aB aG aN (fun a=>a=N) M2 M2 H₀ H6 (upd H6 N (.lst (((num.set 2 (num.getD 2 0+1)).set 13 ((num.set 2 (num.getD 2 0+1)).getD 13 0+c)).map nv))):=.list w6.gh w6.mN w6.hN
  refine hN' _ _ ⟨rfl,by unfold Du; rw [if_pos rfl]; exact w7,?_⟩
  rcases hv6 with hv | ⟨w',ws',bw,e1,e2,e3,e4⟩
  ·exact .inl hv
  ·exact .inr ⟨w',ws',bw,e1,e2,e3.go G7 (gnl w6 w6.hN) w6.gh,e4⟩
 ·have h2:¬ k=2:=fun z=>h (decide_eq_true (by rw [z]; rfl))
  unfold Du
  rw [if_neg h2]
  exact w6
 obtain⟨rfl,w7,hv7⟩:=h7
 have lk3:=ae7 k
 refine⟨fun μ σ H'=>∃ (i:Nat) (rows':List V),σ=[some (.ref o),some (.ref g),some v2,some (.int (k:Int)),some (.int (c:Int))]∧WkX K ao aB aG aN aP aM M2 H₀ H' o dx G S N (gs0++[.ref g]) rows' (T.node (tt.kids.drop j)::rest) (sk++List.replicate i leaf) (Du k c num) (b - c)∧((v2=.non∧tt.kids.drop j=[])∨∃ w' ws' bw,v2=.ref bw∧M2 bw=some (.word w')∧Rdy aP M2 H' g w' ws'∧tt.kids.drop j=w'::ws')∧sk.length+i≤max (looks k) sk.length∧μ=3 - i,⟨_,0,rows,rfl,by rw [List.replicate_zero,List.append_nil]; exact w7,hv7,by lia,rfl⟩,?_⟩
 rintro μ σ H8 ⟨i,rows',rfl,w8,hv8,hi,rfl⟩
 have hrl:=w8.sts.length
 rw [List.length_reverse,List.length_append,List.length_replicate] at hrl
 refine⟨_,rfl,o,aM,dx,_,_,rfl,w8.ob,O.dO,O.ks,lwS,S,rows',rfl,.inl (SqL.of w8.hS),_,rfl,vh,_,_,_,rfl,rfl,Q9 _,ae8 h12,_,_,rfl,rfl,_,rfl,ite2 (fun h=>?_) (fun h=>?_)⟩
 ·have hlt:rows'.length<looks k:=by have:=of_decide_eq_true h; lia
  refine⟨fun σ' H'=>∃ m',m'<3 - i∧∃ (i:Nat) (rows':List V),σ'=[some (.ref o),some (.ref g),some v2,some (.int (k:Int)),some (.int (c:Int))]∧WkX K ao aB aG aN aP aM M2 H₀ H' o dx G S N (gs0++[.ref g]) rows' (T.node (tt.kids.drop j)::rest) (sk++List.replicate i leaf) (Du k c num) (b - c)∧((v2=.non∧tt.kids.drop j=[])∨∃ w' ws' bw,v2=.ref bw∧M2 bw=some (.word w')∧Rdy aP M2 H' g w' ws'∧tt.kids.drop j=w'::ws')∧sk.length+i≤max (looks k) sk.length∧m'=3 - i,fun _ _ h=>h,?_⟩
  refine⟨_,rfl,o,aM,dx,_,_,rfl,w8.ob,O.dO,O.ks,lwS,.inl ⟨rfl,_,SqL.of w8.hS⟩,Nat.zero_le _,fun p9 g9=>?_⟩
  obtain⟨S9,t9⟩:=cA (K:=K) (ts:=[]) g9 (bJ.mpr rfl)
  have w9:=w8.grow S9
  have hS9:=w9.hS
  refine⟨S,rows',_,rfl,rfl,hS9,gG (by lia),?_⟩
  have Gx:Go K ao aB aG aN (fun a=>a=S) M2 M2 H₀ (upd H8 p9 (.tup [])) (upd (upd H8 p9 (.tup [])) S (.lst (.ref p9::rows'))):=.list w9.gh w9.mS hS9
  have w10:=w9.ahD (s':=sk++List.replicate (i+1) leaf) Gx upd_same (by
   rw [List.replicate_succ',← List.append_assoc,List.reverse_append]
   exact bh.cons (.inl (t9.mono (Kt.lst hS9))) (w9.sts.imp fun _ _ z=>Gx.rv z))
  refine⟨_,?_,i+1,_,rfl,w10,?_,by lia,rfl⟩
  ·lia
  ·rcases hv8 with hv | ⟨w',ws',bw,e1,e2,e3,e4⟩
   ·exact .inl hv
   ·exact .inr ⟨w',ws',bw,e1,e2,(e3.go (.grow w8.gh S9:Go K ao aB aG aN (fun _=>False) M2 M2 H₀ H8 _) id w8.gh).go Gx (gnl w9 hS9) w9.gh,e4⟩
 have hge:looks k≤rows'.length:=by
  have:¬ ((rows'.length:Int)<((looks k:Nat):Int)):=fun z=>h (decide_eq_true z)
  lia
 have aoI:sk++List.replicate i leaf=pad sk (looks k):=ah8 hi (by lia)
 rw [aoI] at w8
 have hpl:looks k≤(pad sk (looks k)).length:=aaf sk (looks k)
 have hB:=(Ql (looks k) (by lia) (by lia) bs).le (a':=395) (b':=8000010) (by lia) (by lia)
 have hkd:∀ t∈pad sk (looks k),t.kids.length≤8000000:=agy (agS (by lia))
 refine⟨_,rfl,o,dx,_,rfl,w8.ob,DK (by decide +kernel) (by decide +kernel) (by decide +kernel) (by decide +kernel),_,rfl,_,rfl,_,rfl,o,dx,G,S,N,gs0,g,rows',_,rest,pad sk (looks k),Du k c num,b - c,k,v2,M2,H₀,rfl,w8,hpl,hB,hkd,by lia,?_⟩
 rw [← hc] at q
 rcases hv8 with⟨rfl,he⟩ | ⟨w',ws',bw,rfl,hbw,rdy,he⟩
 ·have aiL:k=12:=by rw [← hK]; exact Vb (show (ats (T.node (tt.kids.drop j)::rest) 0).kids=[] from he)
  refine .inl ⟨aiL,fun M' H' wf=>q M' H' ?_⟩
  have on:=ada (s:=sk) (show (ats (T.node (tt.kids.drop j)::rest) 0).kids=[] from he)
  rw [on,xQ w0.n15 (by rw [hK]; lia),hK,← hc]
  rw [aiL] at wf ⊢
  rw [show pad sk (looks 12)=sk from dD (Nat.zero_le _)] at wf
  exact wf
 ·have mv:=ako (p:=T.node (tt.kids.drop j)) (rest:=rest) (s:=sk) (num:=num) (congrArg T.node he) w0.n15
  rw [hK,← hc] at mv
  have hlp:(bD w').parts≤8000000:=by
   have h1:=hbt.2
   have h2:=T.dN tt
   have h3:=T.Lp j tt.kids
   rw [he,T.aq] at h3
   have h4:=abp w'
   lia
  exact .inr ⟨w',ws',bw,_,_,_,congrArg T.node he,rfl,hbw,rdy,mv,bx2,hlp,fun M' H' wf=>q M' H' wf⟩
end
end fY
namespace fY
open PySem PySem.Spec PyProof.Rows L2 Sw
section
variable {P:Program}{w:World}{K:PySem.W.Frag}{mg:Str→Option Value}{base:Heap}{f:Addr}{fd:FuncData}{ao aB aG aN aP aM:Addr}
theorem adb (O:Own K ao aB aG aN aP aM)
  (WL:mg "Walk"=some (.ref aM))
  {jh:Addr}{zP:FuncData} (Tg:Mk K aM jh) (Qf:FnOk P w K mg base CX0 37 jh zP ["self","stand","budget"] (Vd K ao aB aG aN aP aM)) (uw:Binds K zP ["self","stand","budget"] [])
  {o8:Addr}{Ku:FuncData} (Bl:Meth K aM "step" o8) (Zx:FnOk P w K mg base CX0 38 o8 Ku ["self"] (ZR K ao aB aG aN aP aM)) (Bc:Binds K Ku ["self"] [])
  {gF:Addr}{oM:FuncData} (j9:Meth K aM "at_end" gF) (wL:FnOk P w K mg base CX0 38 gF oM ["self"] (QJ K ao aB aG aN aP aM)) (j8:Binds K oM ["self"] [])
  (F:Fun K "walked" "walked" pL f fd):FnOk P w K mg base CX0 39 f fd ["stand","budget"] (KY K ao aB aG aN aP aM):=by
 refine okQ F TQ (fun vs H Q E h=>?_) (fun cdv A outer s H vs Q E hr h=>?_)
 ·obtain⟨x,tx,sk,b,rfl,_⟩:=h
  rfl
 obtain⟨x,tx,sk,b,rfl,hx,hsn,q⟩:=h
 refine⟨_,(aA (bN (i:=2) TQ.nd rfl (Or.inl rfl) (j5 Tg Qf hr rfl WL uw .nil pass0 (aj (qv 0) (aj (qv 1) ak))))
   (aA (yC PassesOwn.never (QW.pt (BP (V0 (oG (nF (qv 2) O.dO j9 wL hr j8 .nil pass0))) (xM (oG (nF (qv 2) O.dO Bl Zx hr Bc .nil pass0))))) (aD agi))
   (aD (aV (qv 2))))),?_⟩
 refine ji (fun v=>[some x,some (.int (b:Int)),some v]) (fun _=>rfl) (fun v H'=>∃ o M,v=.ref o∧Wk K ao aB aG aN aP aM M H H' o tx sk gW b) (fun R r=>⟨_,rfl,_,rfl,fun o dx ho hd ne=>⟨o,dx,x,tx,sk,b,setM (fun _=>none) o .mine,H,rfl,(Go.made (X:=fun _=>False) (C:=aM) (fs:=[]) (Gh.nil H) ho hd ne).gh,fu,jf,hx.mono (.of (jC (C:=aM) (fs:=[]) ho hd ne)),hsn.bx,hsn.bs,fun M' H' wf=>⟨rfl,r _ _ ⟨o,M',rfl,wf⟩⟩⟩⟩) (fun v1 H1 h1=>?_)
 obtain⟨o,M1,rfl,w1⟩:=h1
 refine⟨fun μ σ H'=>∃ (M:Mp) (tx' s':List T) (num:List Nat) (b':Nat),σ=[some x,some (.int (b:Int)),some (.ref o)]∧Wk K ao aB aG aN aP aM M H H' o tx' s' num b'∧Sane b' tx' s'∧num.length=15∧goT b tx sk=((goT b' tx' s').1,(goT b' tx' s').2.1,eN num (goT b' tx' s').2.2)∧spT b tx sk+b'=b+spT b' tx' s'∧μ=b'+1,⟨_,M1,tx,sk,gW,b,rfl,w1,hsn,rfl,by rw [ad2 (rC _ _ _)],Nat.add_comm _ _,rfl⟩,?_⟩
 rintro μ σ H2 ⟨M,tx',s',num,b',rfl,w2,hs2,hn2,hgo,hsp,rfl⟩
 have stop:(tx'=[]∨b'<bF tx' s')→∀ M' H',Wk K ao aB aG aN aP aM M' H H' o tx' s' num b'→Q (.ref o) H':=fun hst M' H' wf=>by
  refine q o M' H' b' ?_
  rw [mH hst,Bu hst] at *
  rw [hgo]
  show Wk _ _ _ _ _ _ _ _ _ _ _ tx' s' (eN num gW) b'
  rw [ab_ hn2]
  exact wf
 refine⟨_,rfl,o,?_⟩
 obtain⟨dx,G,S,N,gs,rows,wx⟩:=id w2
 refine⟨dx,_,rfl,wx.ob,DK (by decide +kernel) (by decide +kernel) (by decide +kernel) (by decide +kernel),o,M,H,tx',s',num,b',rfl,w2,_,rfl,?_⟩
 by_cases he:tx'=[]
 ·rw [decide_eq_true he]
  refine iteF (iteF ⟨_,rfl,stop (.inl he) M H2 w2⟩)
 rw [decide_eq_false he]
 refine iteT ⟨_,rfl,o,dx,_,rfl,wx.ob,DK (by decide +kernel) (by decide +kernel) (by decide +kernel) (by decide +kernel),o,M,H,tx',s',num,b',rfl,w2,he,hs2.bx,hs2.bs,fun hc=>⟨(hs2.next he hc).bx,(hs2.next he hc).bs⟩,fun hc M' H' wf=>⟨_,rfl,iteF ⟨_,rfl,stop (.inr hc) M' H' wf⟩⟩,fun hc M' H' wf=>⟨_,rfl,iteT ?_⟩⟩
 have hcp:=qw tx' s'
 refine⟨fun σ' H''=>σ'=[some x,some (.int (b:Int)),some (.ref o)]∧H''=H',fun σ' H'' h=>⟨b' - bF tx' s'+1,by lia,?_⟩,rfl,rfl⟩
 obtain⟨rfl,rfl⟩:=h
 refine⟨M',_,_,_,_,rfl,wf,hs2.next he hc,u9 hn2 (HJ _ _),?_,?_,rfl⟩
 ·rw [hgo,mJ he hc]
  show (_,_,eN num (eN _ _))=(_,_,eN (eN num _) _)
  rw [acd]
 ·rw [Bv he hc] at hsp
  lia
end
end fY
namespace fY
open PySem PySem.Spec PyProof.Rows L2 Sw
section
variable {P:Program}{w:World}{K:PySem.W.Frag}{mg:Str→Option Value}{base:Heap}{f:Addr}{fd:FuncData}{ao aB aG aN aP aM:Addr}
theorem ae1
  (F:Fun K "begin" "begin" sJ f fd):FnOk P w K mg base CX0 31 f fd ["text","tree"] (QH K):=by
 refine okQ F aeG (fun vs H Q E h=>?_) (fun cdv A outer s H vs Q E hr h=>?_)
 ·obtain⟨x,t,y,u,rfl,_⟩:=h
  rfl
 obtain⟨x,t,y,u,rfl,hx,hy,q⟩:=h
 refine⟨_,(aD (aV (bA (aj (bA (aj (qv 0) ak)) (aj (bA (aj (qv 1) ak)) ak))))),?_⟩
 refine⟨_,rfl,(by show 1≤sizeLine; decide),fun p1 g1=>⟨_,rfl,(by show 1≤sizeLine; decide),fun p2 g2=>⟨(by show 2≤sizeLine; decide),fun p3 g3=>?_⟩⟩⟩
 obtain⟨S1,t1⟩:=cA (K:=K) g1 (fj hx)
 obtain⟨S2,t2⟩:=cA (K:=K) g2 (fj (hy.mono (.of S1)))
 obtain⟨S3,t3⟩:=cA (K:=K) g3 (Gn (t1.mono (.of S2)) t2)
 exact q _ _ (S1.trans (S2.trans S3)) t3
theorem aic (O:Own K ao aB aG aN aP aM)
  {sH:Addr}{su:FuncData} (Oc:Fun K "walked" "walked" pL sH su) (Oa:FnOk P w K mg base CX0 39 sH su ["stand","budget"] (KY K ao aB aG aN aP aM)) (NK:Binds K su ["stand","budget"] []) (Ml:mg "walked"=some (.ref sH))
  {vd:Addr}{uU:FuncData} (Tr:Fun K "begin" "begin" sJ vd uU) (Tj:FnOk P w K mg base CX0 39 vd uU ["text","tree"] (QH K)) (Sy:Binds K uU ["text","tree"] []) (Rx:mg "begin"=some (.ref vd))
  {zp:Addr}{yQ:FuncData} (Qj:Fun K "cost" "cost" vQ zp yQ) (Qd:FnOk P w K mg base CX0 39 zp yQ ["tally"] (Vr K)) (PK:Binds K yQ ["tally"] []) (Pk:mg "cost"=some (.ref zp))
  {Jf:Addr}{Ij:FuncData} (aek:Fun K "as_tree" "as_tree" pY Jf Ij) (aeb:FnOk P w K mg base CX0 39 Jf Ij ["row"] (Vs K ao aB aG aN)) (adY:Binds K Ij ["row"] []) (adA:mg "as_tree"=some (.ref Jf))
  {ig:Addr}{qu:FuncData} (mV:Meth K aM "tally" ig) (zA:FnOk P w K mg base CX0 39 ig qu ["self"] (QF K ao aB aG aN aP aM)) (mR:Binds K qu ["self"] [])
  {gF:Addr}{oM:FuncData} (j9:Meth K aM "at_end" gF) (wL:FnOk P w K mg base CX0 39 gF oM ["self"] (QJ K ao aB aG aN aP aM)) (j8:Binds K oM ["self"] [])
  {jr:Addr}{ug:FuncData} (ou:Meth K aM "top" jr) (xu:FnOk P w K mg base CX0 39 jr ug ["self"] (aaP K ao aB aG aN aP aM)) (nY:Binds K ug ["self"] [])
  (F:Fun K "run" "run" zJ f fd):FnOk P w K mg base CX0 40 f fd ["text","tree","budget"] (aaQ K):=by
 refine okQ F Vz (fun vs H Q E h=>?_) (fun cdv A outer s H vs Q E hr h=>?_)
 ·obtain⟨x,y,t,u,b,rfl,_⟩:=h
  rfl
 obtain⟨x,y,t,u,b,rfl,hx,hy,hsn,q⟩:=h
 refine⟨_,(aA (bN (i:=3) Vz.nd rfl (Or.inl rfl) (aF Oa hr rfl Ml Oc.kp NK .nil pass0 (aj (aF Tj hr rfl Rx Tr.kp Sy .nil pass0 (aj (qv 0) (aj (qv 1) ak))) (aj (qv 2) ak))))
   (aA (bN (i:=4) Vz.nd rfl (Or.inl rfl) (aF Qd hr rfl Pk Qj.kp PK .nil pass0 (aj (nF (qv 3) O.dO mV zA hr mR .nil pass0) ak)))
   (aA (cg (oG (nF (qv 3) O.dO j9 wL hr j8 .nil pass0)) (aD (aV (bA (aj eO (aj (aF aeb hr rfl adA aek.kp adY .nil pass0 (aj (nF (qv 3) O.dO ou xu hr nY .nil pass0) ak)) (aj (qv 4) ak)))))) bL)
   (aD (aV (bA (aj eO (aj (bA ak) (aj (qv 4) ak))))))))),?_⟩
 refine ji (fun v=>[some x,some y,some (.int (b:Int)),some v,none]) (fun _=>rfl) (fun v H'=>∃ o M b' H0,v=.ref o∧Same H H0∧Wk K ao aB aG aN aP aM M H0 H' o (goT b [t] [u]).1 (goT b [t] [u]).2.1 (goT b [t] [u]).2.2 b') (fun R r=>⟨_,rfl,_,rfl,x,t,y,u,rfl,hx,hy,fun z H1 S1 tz=>⟨_,rfl,z,[t],[u],b,rfl,tz,hsn,fun o M' H' b' wf=>r _ _ ⟨o,M',b',H1,rfl,S1,wf⟩⟩⟩) (fun v1 H1 h1=>?_)
 obtain⟨o,M1,b1,H0,rfl,S0,w1⟩:=h1
 obtain⟨dx,G,S,N,gs,rows,wx⟩:=id w1
 obtain⟨bl,sl⟩:=Sane.last b [t] [u] hsn
 have aoM:=rC b [t] [u]
 refine ji (fun v=>[some x,some y,some (.int (b:Int)),some (.ref o),some v]) (fun _=>rfl) (fun v H'=>Same H1 H'∧v=nv (spT b [t] [u])) (fun R r=>⟨_,rfl,o,dx,_,rfl,wx.ob,DK (by decide +kernel) (by decide +kernel) (by decide +kernel) (by decide +kernel),o,M1,H0,_,_,_,_,rfl,w1,fun c H2 S2 hc=>⟨c,_,rfl,hc,aoM,fun H3 S3=>r _ _ ⟨S2.trans S3,by rw [aap]⟩⟩⟩) (fun v2 H2 h2=>?_)
 obtain⟨S2,rfl⟩:=h2
 have w2:=wx.grow S2
 have e1:decide ((goT b [t] [u]).1=[])=true∨decide ((goT b [t] [u]).1=[])=false:=by cases decide ((goT b [t] [u]).1=[]) <;> simp
 refine⟨_,rfl,o,dx,_,rfl,w2.ob,DK (by decide +kernel) (by decide +kernel) (by decide +kernel) (by decide +kernel),o,M1,H0,_,_,_,_,rfl,⟨dx,G,S,N,gs,rows,w2⟩,_,rfl,ite2 (fun he=>?_) (fun he=>?_)⟩
 ·have he:=of_decide_eq_true he
  have hp:(ats (goT b [t] [u]).2.1 0).parts≤8000000:=(lX sl 0).2
  refine⟨_,rfl,o,dx,_,rfl,w2.ob,DK (by decide +kernel) (by decide +kernel) (by decide +kernel) (by decide +kernel),o,M1,H0,_,_,_,_,rfl,⟨dx,G,S,N,gs,rows,w2⟩,fun x3 H3 S3 hx3=>⟨x3,_,M1,H0,rfl,w2.gh.grow S3,hx3,hp,fun y4 H4 S4 t4=>⟨_,rfl,(by show 3≤sizeLine; decide),fun p5 g5=>?_⟩⟩⟩
  have S5:=same_new g5 (.tup [.str (PySem.Str.ofString "told"),y4,nv (spT b [t] [u])])
  refine q p5 y4 _ (S0.trans (wx.gh.same.trans (S2.trans (S3.trans (S4.trans S5))))) (SqT.of (upd_same.trans ?_)) ?_
  ·unfold sZ
   rw [if_pos he]
   rfl
  ·unfold zH
   rw [if_pos he]
   exact t4.mono (.of S5)
 ·have he:¬ (goT b [t] [u]).1=[]:=fun z=>he (decide_eq_true z)
  refine⟨Nat.zero_le _,fun p4 g4=>⟨_,rfl,(by show 3≤sizeLine; decide),fun p5 g5=>?_⟩⟩
  obtain⟨S4,t4⟩:=cA (K:=K) (ts:=[]) g4 (bJ.mpr rfl)
  have S5:=same_new g5 (.tup [.str (PySem.Str.ofString "out"),.ref p4,nv (spT b [t] [u])])
  refine q p5 (.ref p4) _ (S0.trans (wx.gh.same.trans (S2.trans (S4.trans S5)))) (SqT.of (upd_same.trans ?_)) ?_
  ·unfold sZ
   rw [if_neg he]
   rfl
  ·unfold zH
   rw [if_neg he]
   exact t4.mono (.of S5)
theorem YL (O:Own K ao aB aG aN aP aM)
  {sH:Addr}{su:FuncData} (Oc:Fun K "walked" "walked" pL sH su) (Oa:FnOk P w K mg base CX0 39 sH su ["stand","budget"] (KY K ao aB aG aN aP aM)) (NK:Binds K su ["stand","budget"] []) (Ml:mg "walked"=some (.ref sH))
  {vd:Addr}{uU:FuncData} (Tr:Fun K "begin" "begin" sJ vd uU) (Tj:FnOk P w K mg base CX0 39 vd uU ["text","tree"] (QH K)) (Sy:Binds K uU ["text","tree"] []) (Rx:mg "begin"=some (.ref vd))
  {ig:Addr}{qu:FuncData} (mV:Meth K aM "tally" ig) (zA:FnOk P w K mg base CX0 39 ig qu ["self"] (QF K ao aB aG aN aP aM)) (mR:Binds K qu ["self"] [])
  (F:Fun K "tally_of" "tally_of" m_ f fd):FnOk P w K mg base CX0 40 f fd ["text","tree","budget"] (Tz K):=by
 refine okQ F Yx (fun vs H Q E h=>?_) (fun cdv A outer s H vs Q E hr h=>?_)
 ·obtain⟨x,y,t,u,b,rfl,_⟩:=h
  rfl
 obtain⟨x,y,t,u,b,rfl,hx,hy,hsn,q⟩:=h
 refine⟨_,(aD (aV (nF (aF Oa hr rfl Ml Oc.kp NK .nil pass0 (aj (aF Tj hr rfl Rx Tr.kp Sy .nil pass0 (aj (qv 0) (aj (qv 1) ak))) (aj (qv 2) ak))) O.dO mV zA hr mR .nil pass0))),?_⟩
 refine⟨_,rfl,_,rfl,x,t,y,u,rfl,hx,hy,fun z H1 S1 tz=>⟨_,rfl,z,[t],[u],b,rfl,tz,hsn,fun o M' H' b' wf=>?_⟩⟩
 obtain⟨dx,G,S,N,gs,rows,wx⟩:=id wf
 exact⟨o,dx,_,rfl,wx.ob,DK (by decide +kernel) (by decide +kernel) (by decide +kernel) (by decide +kernel),o,M',H1,_,_,_,_,rfl,wf,fun c H2 S2 hc=>q c _ (S1.trans (wx.gh.same.trans S2)) hc⟩
end
end fY
namespace fY
open PySem PySem.Spec PyProof.Rows L2 Sw
section
variable {P:Program}{w:World}{K:PySem.W.Frag}{mg:Str→Option Value}{base:Heap}{f:Addr}{fd:FuncData}
theorem ae0
  (F:Fun K "first" "first" oU f fd):FnOk P w K mg base CX0 31 f fd ["tree"] (Jw K):=by
 refine okQ F aeF (fun vs H Q E h=>?_) (fun cdv A outer s H vs Q E hr h=>?_)
 ·obtain⟨x,t,rfl,_⟩:=h
  rfl
 obtain⟨x,t,rfl,ht,hd,q⟩:=h
 have hE:=hr.un
 have hE:(A.deeper (envOfC "first" (defScope oU) s.heap.objs.size f cdv)).units+401<cLine:=by lia
 refine⟨_,(aA (cg (aZ (aag hE) (qv 0) (bA ak) (nomark _)) (aD (aV (bA ak))) bL)
   (aD (aV (gB jl (qv 0) aH (fun _ _=>rfl))))),?_⟩
 refine⟨_,rfl,Nat.zero_le _,fun p1 g1=>⟨t,leaf,ht.mono (.new g1),Ci upd_same,by lia,_,rfl,ite2 (fun hb=>?_) (fun hb=>?_)⟩⟩
 ·have e:=(T.beq_iff _ _).mp hb
  rw [e] at q
  exact⟨Nat.zero_le _,fun p2 g2=>q _ _ ((same_new g1 _).trans (same_new g2 _)) (Ci upd_same)⟩
 ·cases t with
  | node ts =>
   cases ts with
   | nil=>exact absurd ((T.beq_iff _ _).mpr rfl) hb
   | cons u us=>exact⟨_,rfl,anH (ht.mono (.new g1)) 0 rfl (fun z tz=>q _ _ (same_new g1 _) tz)⟩
theorem agC
  (F:Fun K "rest" "rest" vP f fd):FnOk P w K mg base CX0 31 f fd ["tree"] (Gv K):=by
 refine okQ F af9 (fun vs H Q E h=>?_) (fun cdv A outer s H vs Q E hr h=>?_)
 ·obtain⟨x,t,rfl,_⟩:=h
  rfl
 obtain⟨x,t,rfl,ht,q⟩:=h
 refine⟨_,(aD (aV (nD BJ (qv 0) (oY aH) sS))),?_⟩
 cases t with
 | node ts=>exact⟨_,rfl,1,rfl,aiw ht 1 (fun z H' S tz=>q z H' S tz)⟩
theorem aa5 (wZ:mg "min"=none) (gj:mg "len"=none) {j_:Value} (qK:mg "NAMELESS"=some j_) (kY:RelV (.int 9) j_)
  {mU:Addr}{mQ:FuncData} (Cy:Fun K "first" "first" oU mU mQ) (Cu:FnOk P w K mg base CX0 31 mU mQ ["tree"] (Jw K)) (Cp:Binds K mQ ["tree"] []) (Cd:mg "first"=some (.ref mU))
  (F:Fun K "sort_of" "sort_of" pP f fd):FnOk P w K mg base CX0 32 f fd ["word"] (ZS K):=by
 refine okQ F aaS (fun vs H Q E h=>?_) (fun cdv A outer s H vs Q E hr h=>?_)
 ·obtain⟨x,t,rfl,_⟩:=h
  rfl
 obtain⟨x,t,rfl,ht,h1,q⟩:=h
 refine⟨_,(aD (aV (cO (Ir rfl) rfl wZ XR (aj (cO call_len_seq rfl gj oN (aj (aF Cu hr rfl Cd Cy.kp Cp .nil pass0 (aj (qv 0) ak)) ak)) (aj (bC (v:=.int 9) rfl qK kY) ak))))),?_⟩
 refine⟨_,rfl,x,t,rfl,ht,h1,fun y H1 S1 t1=>?_⟩
 obtain⟨b,ys,rfl,hb',rb⟩:=cN.mp (xT t1)
 refine⟨b,ys,rfl,.inr hb',_,_,rfl,?_⟩
 rw [rb.length,show (if (9:Int)<((ats t.kids 0).kids.length:Int) then (9:Int) else ((ats t.kids 0).kids.length:Int))=((aJ t:Nat):Int) by rw [Vt]; split <;> lia]
 exact q _ S1
theorem aa8
  {zm:Addr}{yP:FuncData} (Yr:Fun K "rest" "rest" vP zm yP) (Ym:FnOk P w K mg base CX0 31 zm yP ["tree"] (Gv K)) (X5:Binds K yP ["tree"] []) (Wy:mg "rest"=some (.ref zm))
  (F:Fun K "load_of" "load_of" pU f fd):FnOk P w K mg base CX0 32 f fd ["word"] (Gv K):=by
 refine okQ F aaU (fun vs H Q E h=>?_) (fun cdv A outer s H vs Q E hr h=>?_)
 ·obtain⟨x,t,rfl,_⟩:=h
  rfl
 obtain⟨x,t,rfl,ht,q⟩:=h
 refine⟨_,(aD (aV (aF Ym hr rfl Wy Yr.kp X5 .nil pass0 (aj (qv 0) ak)))),?_⟩
 exact⟨_,rfl,x,t,rfl,ht,fun y H' S ty=>q _ _ S ty⟩
theorem aie
  (F:Fun K "lay" "lay" vA f fd):FnOk P w K mg base CX0 31 f fd ["tree"] (Oh K):=by
 refine okQ F ahE (fun vs H Q E h=>?_) (fun cdv A outer s H vs Q E hr h=>?_)
 ·obtain⟨x,t,rfl,_⟩:=h
  rfl
 obtain⟨x,t,rfl,ht,h1,h2,q⟩:=h
 refine⟨_,(aD (aV (aW bH (bA (aj (bA ak) ak)) (qv 0)))),?_⟩
 have hl:=(show B 400 1000000 t from ⟨h1,h2⟩)
 rw [← gM t] at hl
 have hl:=hl.len
 refine⟨Nat.zero_le _,fun p1 g1=>⟨(by show 1≤sizeLine; decide),fun p2 g2=>?_⟩⟩
 obtain⟨S1,t1⟩:=cA (K:=K) (ts:=[]) g1 (bJ.mpr rfl)
 obtain⟨S2,t2⟩:=cA (K:=K) g2 (fj t1)
 exact⟨_,rfl,cG t2 (xT (ht.mono (.of (S1.trans S2)))) (small (by rw [List.length_singleton]; lia)) (fun z H' S tz=>q _ _ (S1.trans (S2.trans S)) tz)⟩
theorem aeX
  (F:Fun K "plain" "plain" uE f fd):FnOk P w K mg base CX0 31 f fd ["sort"] (ZV K):=by
 refine okQ F aeD (fun vs H Q E h=>?_) (fun cdv A outer s H vs Q E hr h=>?_)
 ·obtain⟨n,rfl,_⟩:=h
  rfl
 obtain⟨n,rfl,h1,h6,q⟩:=h
 refine⟨_,(aD (aV (bA (aj (aW qd (bA (aj (bA ak) ak)) (qv 0)) ak)))),?_⟩
 refine⟨Nat.zero_le _,fun p1 g1=>⟨(by show 1≤sizeLine; decide),fun p2 g2=>?_⟩⟩
 obtain⟨S1,t1⟩:=cA (K:=K) (ts:=[]) g1 (bJ.mpr rfl)
 obtain⟨S2,t2⟩:=cA (K:=K) g2 (fj t1)
 refine⟨_,rfl,aiv n t2 rfl (by lia) (by lia) (by lia) (fun z H' S tz=>⟨(by show 1≤sizeLine; decide),fun p3 g3=>?_⟩)⟩
 obtain⟨S3,t3⟩:=cA (K:=K) g3 (fj tz)
 exact q _ _ (S1.trans (S2.trans (S.trans S3))) t3
theorem agF {kj:Value} (oJ:mg "FORK"=some kj) (k_:RelV (.int 7) kj)
  (F:Fun K "fork" "fork" qZ f fd):FnOk P w K mg base CX0 31 f fd ["yes","no"] (Gy K):=by
 refine okQ F agb (fun vs H Q E h=>?_) (fun cdv A outer s H vs Q E hr h=>?_)
 ·obtain⟨x,t,y,u,rfl,_⟩:=h
  rfl
 obtain⟨x,t,y,u,rfl,ht,hu,⟨h1,h2⟩,⟨h3,h4⟩,q⟩:=h
 refine⟨_,(aD (aV (aW bH (bA (aj (aW qd (bA (aj (bA ak) ak)) (bC (v:=.int 7) rfl oJ k_)) (aj (qv 0) ak))) (qv 1)))),?_⟩
 have hl:=(show B 400 1000000 u from ⟨h3,h4⟩)
 rw [← gM u] at hl
 have hl:=hl.len
 refine⟨Nat.zero_le _,fun p1 g1=>⟨(by show 1≤sizeLine; decide),fun p2 g2=>?_⟩⟩
 obtain⟨S1,t1⟩:=cA (K:=K) (ts:=[]) g1 (bJ.mpr rfl)
 obtain⟨S2,t2⟩:=cA (K:=K) g2 (fj t1)
 refine afV (k:=7) 7 t2 rfl rfl (by decide) (by decide) (fun z H' S tz=>⟨_,rfl,(by show 2≤sizeLine; decide),fun p3 g3=>?_⟩)
 obtain⟨S3,t3⟩:=cA (K:=K) g3 (Gn tz (ht.mono (.of (S1.trans (S2.trans S)))))
 exact⟨_,rfl,cG t3 (xT (hu.mono (.of (S1.trans (S2.trans (S.trans S3)))))) (Bx (by show 2+_≤_; lia)) (fun z4 H4 S4 t4=>q _ _ (S1.trans (S2.trans (S.trans (S3.trans S4)))) t4)⟩
theorem agD {eV:Value} (gA:mg "WHILE"=some eV) (eX:RelV (.int 8) eV)
  (F:Fun K "loop" "loop" yq f fd):FnOk P w K mg base CX0 31 f fd ["body"] (acP K):=by
 refine okQ F af_ (fun vs H Q E h=>?_) (fun cdv A outer s H vs Q E hr h=>?_)
 ·obtain⟨x,t,rfl,_⟩:=h
  rfl
 obtain⟨x,t,rfl,ht,h1,h2,q⟩:=h
 refine⟨_,(aD (aV (aW bH (bA (aj (aW qd (bA (aj (bA ak) ak)) (bC (v:=.int 8) rfl gA eX)) ak)) (qv 0)))),?_⟩
 have hl:=(show B 400 1000000 t from ⟨h1,h2⟩)
 rw [← gM t] at hl
 have hl:=hl.len
 refine⟨Nat.zero_le _,fun p1 g1=>⟨(by show 1≤sizeLine; decide),fun p2 g2=>?_⟩⟩
 obtain⟨S1,t1⟩:=cA (K:=K) (ts:=[]) g1 (bJ.mpr rfl)
 obtain⟨S2,t2⟩:=cA (K:=K) g2 (fj t1)
 refine afV (k:=8) 8 t2 rfl rfl (by decide) (by decide) (fun z H' S tz=>⟨(by show 1≤sizeLine; decide),fun p3 g3=>?_⟩)
 obtain⟨S3,t3⟩:=cA (K:=K) g3 (fj tz)
 exact⟨_,rfl,cG t3 (xT (ht.mono (.of (S1.trans (S2.trans (S.trans S3)))))) (small (by show 1+_≤_; lia)) (fun z4 H4 S4 t4=>q _ _ (S1.trans (S2.trans (S.trans (S3.trans S4)))) t4)⟩
theorem aeY
  (F:Fun K "parts" "parts" uF f fd):FnOk P w K mg base CX0 31 f fd ["tree"] (Vk K):=by
 refine okQ F yh (fun vs H Q E h=>?_) (fun cdv A outer s H vs Q E hr h=>?_)
 ·obtain⟨x,t,rfl,_⟩:=h
  rfl
 obtain⟨x,t,rfl,ht,hz,q⟩:=h
 refine⟨_,(aA (bN (i:=1) yh.nd rfl (Or.inl rfl) (oH (aj (qv 0) ak)))
   (aA (bN (i:=2) yh.nd rfl (Or.inl rfl) aH)
   (aA (yC PassesOwn.never (Dj (qv 1) (fun _=>rfl)) (aA (bN (i:=3) yh.nd rfl (Or.inl rfl) (rA PySem.F.plainAttrs_list PySem.F.slot_list_pop PySem.F.type_list_pop tO (qv 1)))
   (aA (ac0 (i:=2) yh.nd rfl (Or.inl rfl) aH Hz)
   (aD (cU (gC PySem.F.plainAttrs_list PySem.F.slot_list_extend PySem.F.type_list_extend aal (qv 1) (aj (qv 3) ak)))))))
   (aD (aV (qv 2)))))),?_⟩
 refine⟨_,rfl,(by show 1≤sizeLine; decide),fun p hp=>?_⟩
 refine⟨aay K H x t.parts p,⟨_,[x],[t],0,none,rfl,same_new hp _,upd_same,cH.mpr ⟨x,[],rfl,ht.mono (Kt.new hp),bJ.mpr rfl⟩,by rw [T.aq,T.aR]; lia,rfl⟩,?_⟩
 rintro m σ H' ⟨ys,ts,c,o,rfl,S,hl,htr,hc,rfl⟩
 refine⟨_,rfl,!ys.isEmpty,.inl ⟨ys,SqL.of hl,rfl⟩,?_⟩
 refine ite2 (fun hb=>?_) (fun hb=>?_)
 ·have hne:ys≠[]:=by rintro rfl; exact absurd hb (by decide)
  obtain⟨y,hy⟩:=agR hne
  obtain⟨u,hu,hyu⟩:=htr.get hy
  rw [htr.length] at hu
  obtain⟨a,zs,rfl,h1,h2⟩:=Fb hyu
  have hpl:=T.Ov hu
  refine⟨fun σ' H'=>∃ m',m'<T.au ts∧aay K H x t.parts p m' σ' H',fun _ _ h=>h,?_⟩
  refine⟨_,rfl,.inl ⟨rfl,_,SqL.of hl⟩,p,ys,_,rfl,rfl,hl,hy,?_⟩
  refine⟨_,rfl,_,_,rfl,rfl,?_⟩
  have hk:=T.dN u
  have aqZ:=T.cQ ts.dropLast
  have hlen2:=T.cQ u.kids
  have e1:=htr.dropLast.length
  have e2:=h2.length
  refine⟨_,rfl,.inl ⟨rfl,_,SqL.of upd_same⟩,_,rfl,p,a,ys.dropLast,zs,rfl,rfl,upd_same,dM (Kt.lst hl) h1,Bx (by lia),?_⟩
  refine⟨_,?_,ys.dropLast++zs,ts.dropLast++u.kids,c+1,_,rfl,?_,upd_same,?_,?_,rfl⟩
  ·rw [T.cB]
   lia
  ·rw [ZM]
   exact eG S hp
  ·rw [ZM]
   exact (htr.dropLast.append h2).mono (Kt.lst hl)
  ·rw [T.cB]
   lia
 ·have hys:ys=[]:=by
   cases ys with
   | nil=>rfl
   | cons _ _=>exact absurd rfl hb
  subst hys
  have hts:ts=[]:=List.length_eq_zero_iff.mp htr.length.symm
  subst hts
  rw [T.aR] at hc
  refine⟨_,rfl,?_⟩
  have:(c:Int)=(t.parts:Int):=by lia
  rw [this]
  exact q _ S
theorem agG (JM:mg "sum"=none) {pJ:Value} (rP:mg "COPIED"=some pJ) (nA:RelV (.int 13) pJ) {pI:Value} (rB:mg "TWIN"=some pI) (oF:RelV (.int 2) pI)
  (F:Fun K "cost" "cost" vQ f fd):FnOk P w K mg base CX0 31 f fd ["tally"] (Vr K):=by
 refine okQ F agc (fun vs H Q E h=>?_) (fun cdv A outer s H vs Q E hr h=>?_)
 ·obtain⟨a,ns,rfl,_⟩:=h
  rfl
 obtain⟨a,ns,rfl,ha,hn,q⟩:=h
 refine⟨_,(aD (aV (aW op_add (aW op_sub (cO (adL rfl) rfl JM adO (aj (nD BJ (qv 0) sS (oY (bC (v:=.int 13) rfl rP nA))) ak)) (gB jl (qv 0) (bC (v:=.int 2) rfl rB oF) (fun _ _=>rfl))) (gB jl (qv 0) (bC (v:=.int 13) rfl rP nA) (fun _ _=>rfl))))),?_⟩
 refine⟨_,rfl,13,rfl,a,_,rfl,ha,fun p H1 S1 h1=>?_⟩
 rw [show (some (13:Int))=some ((13:Nat):Int) from rfl,XH,agK] at h1
 have ha1:=dM (.of S1) ha
 refine⟨p,_,rfl,h1,_,rfl,a,_,_,_,rfl,rfl,ha1,afU (k:=2) (by lia),_,_,rfl,rfl,_,rfl,a,_,_,_,rfl,rfl,ha1,afU (k:=13) (by lia),_,_,rfl,rfl,q _ S1⟩
end
end fY
namespace fY
open PySem PySem.Spec PyProof.Rows L2 Sw
theorem all_mk {l:PySem.W.OpenLaw}{w:World}{K:PySem.W.Frag}{h:Heap}{mg:Str→Option Value}{fa f1 f2 f3 f4 f5 f6 f7 f8 f9 f10 f11 f12 f13 f14 f15 f16 f17 f18 f19 f20 f21 f22 f23 f24 f25 f26 f27 f28 f29 f30 f31 f32 f33 f34 f35 f36 f37 f38 f39 f40 f41 f42 f43 f44 f45 f46 f47 f48 f49 f50 f51 f52 f53:Addr} (X:K.In h) (G:h.Ns mainGlobals mg) (hfa:mg "law"=some (.ref fa))  {ao:Addr}{aB:Addr}{aG:Addr}{aN:Addr}{aP:Addr}{aM:Addr}{jc:Addr}{FW Gf:Option Addr}{Fz:Array (Option Value)}{FZ Ga Gd FN uD Ge:Value}{jN:Addr}{J9 Ko:Option Addr}{J1:Array (Option Value)}{Ka Kd Kg J5 wO Kl:Value}{lA:Addr}{Ly NP:Option Addr}{K3:Array (Option Value)}{LK MF Nj Lg yW Nr:Value}{jm:Addr}{Hj IK:Option Addr}{Gz:Array (Option Value)}{Hl Hx HY Hf wg Ik:Value}{lC:Addr}{LC NT:Option Addr}{K5:Array (Option Value)}{LR MK Nm Li yZ Nu:Value}{mK:Addr}{OJ PL:Option Addr}{Oj:Array (Option Value)}{O_ Pn Px Ou zQ Py:Value}{jO:Addr}{J_ Kp:Option Addr}{J2:Array (Option Value)}{Kc Ke Kh J6 wQ Km:Value}{lB:Addr}{Lz NQ:Option Addr}{K4:Array (Option Value)}{LQ MJ Nk Lh yX Nt:Value}{oK:Addr}{Rp SJ:Option Addr}{QL:Array (Option Value)}{Rq RN R6 Rc Cm Sd:Value}{ud:Addr}{Y4 Zn:Option Addr}{Yv:Array (Option Value)}{Y5 Zb Ze YK Ky Zf:Value}{qp:Addr}{Ur Ux:Option Addr}{Ub:Array (Option Value)}{Us Ut Uu Uh Fw Uv:Value}{rD:Addr}{Wi X7:Option Addr}{Vv:Array (Option Value)}{Wm W4 Xy V3 Io XJ:Value}{rE:Addr}{Wj X8:Option Addr}{Vw:Array (Option Value)}{Wn W5 Xz V4 Ip XM:Value}{mW:Value}{kh:Value}{pH:Value}{iW:Value}{vK:Value}{Gm:Value}{Gi:Value}{Bt:Value}{Gj:Value}{Gg:Value}{xW:Value}{vJ:Value}{xX:Value}{vh:Addr}{aaj:Obj}{qN:Addr}{JK:Obj}{bE0 bE1 bE2 bE3 bE4 bE5 bE6 bE7 bE8 bE9 afH afG afF afE afD:Addr}{oE0 oE1 oE2 oE3 oE4 oE5 oE6 oE7 oE8 oE9 aiq aip aio ain ail:Obj}{j_:Value}{kj:Value}{eV:Value}{zG:Value}{Gk:Value}{iz:Value}{vL:Value}{tD:Value}{lY:Value}{jk:Addr}{Ws:Obj}{qW:Value}{qX:Value}{pJ:Value}{pI:Value}{qC:Addr}{Wt:Obj}{wu:Addr}{adk:Obj}
  {od1 an1 od2 an2 od3 an3 od4 an4 od5 an5 od6 an6 od7 an7 od8 an8 od9 an9 amV aqT amU aqS amT aqR amS aqQ amR aqP amQ aqO amP aqN amO aqM amN aqL amM aqK amL aqJ amK aqI amJ aqH amI aqG amH aqF amG aqE amF aqD amE aqC amD aqB amC aqA amB aqz amA aqy amy aqx amx aqw amw aqv amv aqu amu aqt amt aqs ams aqr amr aqq amq aqp amo aqo amn aqn amm aqm aml aql amk aqk amj aqj ami aqi amh aqh amg aqg amf aqf ame aqe amd aqd amc ajH:Option Addr}{sl1 sl2 sl3 sl4 sl5 sl6 sl7 sl8 sl9 alk alj ali alh alg alf ale ald alc alb ala ak_ ak9 ak8 ak7 ak6 ak5 ak4 ak3 ak2 ak1 ak0 akZ akY akX akW akV akU akT akS akR akQ akP akO akN akM akL akK akJ akI akH akG akF akE:Array (Option Value)}{oc1 kV1 dc1 pm1 cd1 ct1 oc2 kV2 dc2 pm2 cd2 ct2 oc3 kV3 dc3 pm3 cd3 ct3 oc4 kV4 dc4 pm4 cd4 ct4 oc5 kV5 dc5 pm5 cd5 ct5 oc6 kV6 dc6 pm6 cd6 ct6 oc7 kV7 dc7 pm7 cd7 ct7 oc8 kV8 dc8 pm8 cd8 ct8 oc9 kV9 dc9 pm9 cd9 ct9 anG aoB apu amb ajB aqc anF aoA apt ama ajA aqb anE aoz aps al_ ajz aqa anD aoy apr al9 ajy ap_ anC aox apq al8 ajx ap9 anB aow apo al7 ajw ap8 anA aov apn al6 ajv ap7 anz aou apm al5 aju ap6 anx aot apl al4 ajt ap5 anw aos apk al3 ajs ap4 anv aor apj al2 ajr ap3 anu aoq aph al1 ajq ap2 ant aop apg al0 ajp ap1 anr aoo apf alZ ajo ap0 anq aon ape alY ajn apZ anp aom apd alX ajm apY ano aol apc alW ajl apW anm aok apb alV ajk apV anl aoj apa alU ajj apU ank aoi ao_ alT aji apT anj aoh ao9 alS ajh apS ani aog ao8 alR ajg apR anh aof ao7 alQ ajf apQ ang aoe ao6 alP aje apP anf aod ao5 alO ajd apO ane aoc ao4 alN ajc apM anc aob ao3 alM ajb apL anb aoa ao2 alL aja apK ana an_ ao1 alK ai_ apJ am_ an0 ao0 alJ ai9 apI am9 anZ aoZ alI ai8 apH am8 anY aoY alH ai7 apG am7 anW aoX alG ai6 apF am6 anV aoW alF ai5 apE am5 anU aoV alE ai4 apD am4 anT aoU alD ai3 apC am3 anS aoT alC ai2 apB am2 anR aoS alB ai1 apA am1 anQ aoR alA ai0 apz am0 anP aoQ alz aiZ apy amZ anO aoP aly aiY apx amY anN aoO alx aiX apw amX anM aoN alw aiW apv amW aiD aiU ahY afz aiV:Value}
  (a1:PySem.W.nsIn K mainGlobals "first"=some (some (.ref f1))) (l1:K.lookup f1=some ⟨oc1,od1,.func (PySem.W.fnOf "first" "first" (defArgs oU) (defBody oU) (defScope oU) .none kV1 dc1 pm1 an1 cd1 ct1),sl1⟩) (c1:PySem.W.codeIn K cd1 "first"=true) (k1:PySem.W.keepIn K (.ref f1)=true)
  (a2:PySem.W.nsIn K mainGlobals "rest"=some (some (.ref f2))) (l2:K.lookup f2=some ⟨oc2,od2,.func (PySem.W.fnOf "rest" "rest" (defArgs vP) (defBody vP) (defScope vP) .none kV2 dc2 pm2 an2 cd2 ct2),sl2⟩) (c2:PySem.W.codeIn K cd2 "rest"=true) (k2:PySem.W.keepIn K (.ref f2)=true)
  (a3:PySem.W.nsIn K mainGlobals "parts"=some (some (.ref f3))) (l3:K.lookup f3=some ⟨oc3,od3,.func (PySem.W.fnOf "parts" "parts" (defArgs uF) (defBody uF) (defScope uF) .none kV3 dc3 pm3 an3 cd3 ct3),sl3⟩) (c3:PySem.W.codeIn K cd3 "parts"=true) (k3:PySem.W.keepIn K (.ref f3)=true)
  (a4:PySem.W.nsIn K mainGlobals "sort_of"=some (some (.ref f4))) (l4:K.lookup f4=some ⟨oc4,od4,.func (PySem.W.fnOf "sort_of" "sort_of" (defArgs pP) (defBody pP) (defScope pP) .none kV4 dc4 pm4 an4 cd4 ct4),sl4⟩) (c4:PySem.W.codeIn K cd4 "sort_of"=true) (k4:PySem.W.keepIn K (.ref f4)=true)
  (a5:PySem.W.nsIn K mainGlobals "load_of"=some (some (.ref f5))) (l5:K.lookup f5=some ⟨oc5,od5,.func (PySem.W.fnOf "load_of" "load_of" (defArgs pU) (defBody pU) (defScope pU) .none kV5 dc5 pm5 an5 cd5 ct5),sl5⟩) (c5:PySem.W.codeIn K cd5 "load_of"=true) (k5:PySem.W.keepIn K (.ref f5)=true)
  (a6:PySem.W.nsIn K mainGlobals "lay"=some (some (.ref f6))) (l6:K.lookup f6=some ⟨oc6,od6,.func (PySem.W.fnOf "lay" "lay" (defArgs vA) (defBody vA) (defScope vA) .none kV6 dc6 pm6 an6 cd6 ct6),sl6⟩) (c6:PySem.W.codeIn K cd6 "lay"=true) (k6:PySem.W.keepIn K (.ref f6)=true)
  (a7:PySem.W.nsIn K mainGlobals "plain"=some (some (.ref f7))) (l7:K.lookup f7=some ⟨oc7,od7,.func (PySem.W.fnOf "plain" "plain" (defArgs uE) (defBody uE) (defScope uE) .none kV7 dc7 pm7 an7 cd7 ct7),sl7⟩) (c7:PySem.W.codeIn K cd7 "plain"=true) (k7:PySem.W.keepIn K (.ref f7)=true)
  (a8:PySem.W.nsIn K mainGlobals "fork"=some (some (.ref f8))) (l8:K.lookup f8=some ⟨oc8,od8,.func (PySem.W.fnOf "fork" "fork" (defArgs qZ) (defBody qZ) (defScope qZ) .none kV8 dc8 pm8 an8 cd8 ct8),sl8⟩) (c8:PySem.W.codeIn K cd8 "fork"=true) (k8:PySem.W.keepIn K (.ref f8)=true)
  (a9:PySem.W.nsIn K mainGlobals "loop"=some (some (.ref f9))) (l9:K.lookup f9=some ⟨oc9,od9,.func (PySem.W.fnOf "loop" "loop" (defArgs yq) (defBody yq) (defScope yq) .none kV9 dc9 pm9 an9 cd9 ct9),sl9⟩) (c9:PySem.W.codeIn K cd9 "loop"=true) (k9:PySem.W.keepIn K (.ref f9)=true)
  (a10:PySem.W.nsIn K mainGlobals "plains"=some (some (.ref f10))) (l10:K.lookup f10=some ⟨anG,amV,.func (PySem.W.fnOf "plains" "plains" (defArgs fC) (defBody fC) (defScope fC) .none aoB apu amb aqT ajB aqc),alk⟩) (c10:PySem.W.codeIn K ajB "plains"=true) (k10:PySem.W.keepIn K (.ref f10)=true)
  (a11:PySem.W.nsIn K mainGlobals "selfrunner"=some (some (.ref f11))) (l11:K.lookup f11=some ⟨anF,amU,.func (PySem.W.fnOf "selfrunner" "selfrunner" (defArgs jJ) (defBody jJ) (defScope jJ) .none aoA apt ama aqS ajA aqb),alj⟩) (c11:PySem.W.codeIn K ajA "selfrunner"=true) (k11:PySem.W.keepIn K (.ref f11)=true)
  (a12:PySem.W.nsIn K mainGlobals "opening"=some (some (.ref f12))) (l12:K.lookup f12=some ⟨anE,amT,.func (PySem.W.fnOf "opening" "opening" (defArgs pR) (defBody pR) (defScope pR) .none aoz aps al_ aqR ajz aqa),ali⟩) (c12:PySem.W.codeIn K ajz "opening"=true) (k12:PySem.W.keepIn K (.ref f12)=true)
  (a13:PySem.W.nsIn K mainGlobals "from_head"=some (some (.ref f13))) (l13:K.lookup f13=some ⟨anD,amS,.func (PySem.W.fnOf "from_head" "from_head" (defArgs lK) (defBody lK) (defScope lK) .none aoy apr al9 aqQ ajy ap_),alh⟩) (c13:PySem.W.codeIn K ajy "from_head"=true) (k13:PySem.W.keepIn K (.ref f13)=true)
  (a14:PySem.W.nsIn K mainGlobals "stepped"=some (some (.ref f14))) (l14:K.lookup f14=some ⟨anC,amR,.func (PySem.W.fnOf "stepped" "stepped" (defArgs pO) (defBody pO) (defScope pO) .none aox apq al8 aqP ajx ap9),alg⟩) (c14:PySem.W.codeIn K ajx "stepped"=true) (k14:PySem.W.keepIn K (.ref f14)=true)
  (a15:PySem.W.nsIn K mainGlobals "by_sort"=some (some (.ref f15))) (l15:K.lookup f15=some ⟨anB,amQ,.func (PySem.W.fnOf "by_sort" "by_sort" (defArgs pX) (defBody pX) (defScope pX) .none aow apo al7 aqO ajw ap8),alf⟩) (c15:PySem.W.codeIn K ajw "by_sort"=true) (k15:PySem.W.keepIn K (.ref f15)=true)
  (a16:PySem.W.nsIn K mainGlobals "gone_of"=some (some (.ref f16))) (l16:K.lookup f16=some ⟨anA,amP,.func (PySem.W.fnOf "gone_of" "gone_of" (defArgs pW) (defBody pW) (defScope pW) .none aov apn al6 aqN ajv ap7),ale⟩) (c16:PySem.W.codeIn K ajv "gone_of"=true) (k16:PySem.W.keepIn K (.ref f16)=true)
  (a17:PySem.W.nsIn K mainGlobals "while_gone"=some (some (.ref f17))) (l17:K.lookup f17=some ⟨anz,amO,.func (PySem.W.fnOf "while_gone" "while_gone" (defArgs jH) (defBody jH) (defScope jH) .none aou apm al5 aqM aju ap6),ald⟩) (c17:PySem.W.codeIn K aju "while_gone"=true) (k17:PySem.W.keepIn K (.ref f17)=true)
  (a18:PySem.W.nsIn K mainGlobals "nameless_gone"=some (some (.ref f18))) (l18:K.lookup f18=some ⟨anx,amN,.func (PySem.W.fnOf "nameless_gone" "nameless_gone" (defArgs gY) (defBody gY) (defScope gY) .none aot apl al4 aqL ajt ap5),alc⟩) (c18:PySem.W.codeIn K ajt "nameless_gone"=true) (k18:PySem.W.keepIn K (.ref f18)=true)
  (a19:PySem.W.nsIn K mainGlobals "begin"=some (some (.ref f19))) (l19:K.lookup f19=some ⟨anw,amM,.func (PySem.W.fnOf "begin" "begin" (defArgs sJ) (defBody sJ) (defScope sJ) .none aos apk al3 aqK ajs ap4),alb⟩) (c19:PySem.W.codeIn K ajs "begin"=true) (k19:PySem.W.keepIn K (.ref f19)=true)
  (a20:PySem.W.nsIn K mainGlobals "place_of"=some (some (.ref f20))) (l20:K.lookup f20=some ⟨anv,amL,.func (PySem.W.fnOf "place_of" "place_of" (defArgs kJ) (defBody kJ) (defScope kJ) .none aor apj al2 aqJ ajr ap3),ala⟩) (c20:PySem.W.codeIn K ajr "place_of"=true) (k20:PySem.W.keepIn K (.ref f20)=true)
  (a21:PySem.W.nsIn K mainGlobals "cost"=some (some (.ref f21))) (l21:K.lookup f21=some ⟨anu,amK,.func (PySem.W.fnOf "cost" "cost" (defArgs vQ) (defBody vQ) (defScope vQ) .none aoq aph al1 aqI ajq ap2),ak_⟩) (c21:PySem.W.codeIn K ajq "cost"=true) (k21:PySem.W.keepIn K (.ref f21)=true)
  (a22:PySem.W.nsIn K mainGlobals "added"=some (some (.ref f22))) (l22:K.lookup f22=some ⟨ant,amJ,.func (PySem.W.fnOf "added" "added" (defArgs sO) (defBody sO) (defScope sO) .none aop apg al0 aqH ajp ap1),ak9⟩) (c22:PySem.W.codeIn K ajp "added"=true) (k22:PySem.W.keepIn K (.ref f22)=true)
  (a23:PySem.W.nsIn K mainGlobals "turned"=some (some (.ref f23))) (l23:K.lookup f23=some ⟨anr,amI,.func (PySem.W.fnOf "turned" "turned" (defArgs pN) (defBody pN) (defScope pN) .none aoo apf alZ aqG ajo ap0),ak8⟩) (c23:PySem.W.codeIn K ajo "turned"=true) (k23:PySem.W.keepIn K (.ref f23)=true)
  (a24:PySem.W.nsIn K mainGlobals "selfmade"=some (some (.ref f24))) (l24:K.lookup f24=some ⟨anq,amH,.func (PySem.W.fnOf "selfmade" "selfmade" (defArgs ni) (defBody ni) (defScope ni) .none aon ape alY aqF ajn apZ),ak7⟩) (c24:PySem.W.codeIn K ajn "selfmade"=true) (k24:PySem.W.keepIn K (.ref f24)=true)
  (a25:PySem.W.nsIn K mainGlobals "selfmaker"=some (some (.ref f25))) (l25:K.lookup f25=some ⟨anp,amG,.func (PySem.W.fnOf "selfmaker" "selfmaker" (defArgs lH) (defBody lH) (defScope lH) .none aom apd alX aqE ajm apY),ak6⟩) (c25:PySem.W.codeIn K ajm "selfmaker"=true) (k25:PySem.W.keepIn K (.ref f25)=true)
  (a26:PySem.W.nsIn K mainGlobals "lay_made"=some (some (.ref f26))) (l26:K.lookup f26=some ⟨ano,amF,.func (PySem.W.fnOf "lay_made" "lay_made" (defArgs nj) (defBody nj) (defScope nj) .none aol apc alW aqD ajl apW),ak5⟩) (c26:PySem.W.codeIn K ajl "lay_made"=true) (k26:PySem.W.keepIn K (.ref f26)=true)
  (a27:PySem.W.nsIn K mainGlobals "knot"=some (some (.ref f27))) (l27:K.lookup f27=some ⟨anm,amE,.func (PySem.W.fnOf "knot" "knot" (defArgs yt) (defBody yt) (defScope yt) .none aok apb alV aqC ajk apV),ak4⟩) (c27:PySem.W.codeIn K ajk "knot"=true) (k27:PySem.W.keepIn K (.ref f27)=true)
  (a28:PySem.W.nsIn K mainGlobals "knot_body"=some (some (.ref f28))) (l28:K.lookup f28=some ⟨anl,amD,.func (PySem.W.fnOf "knot_body" "knot_body" (defArgs lJ) (defBody lJ) (defScope lJ) .none aoj apa alU aqB ajj apU),ak3⟩) (c28:PySem.W.codeIn K ajj "knot_body"=true) (k28:PySem.W.keepIn K (.ref f28)=true)
  (a29:PySem.W.nsIn K mainGlobals "both_run"=some (some (.ref f29))) (l29:K.lookup f29=some ⟨ank,amC,.func (PySem.W.fnOf "both_run" "both_run" (defArgs nu) (defBody nu) (defScope nu) .none aoi ao_ alT aqA aji apT),ak2⟩) (c29:PySem.W.codeIn K aji "both_run"=true) (k29:PySem.W.keepIn K (.ref f29)=true)
  (a30:PySem.W.nsIn K mainGlobals "first_of"=some (some (.ref f30))) (l30:K.lookup f30=some ⟨anj,amB,.func (PySem.W.fnOf "first_of" "first_of" (defArgs nq) (defBody nq) (defScope nq) .none aoh ao9 alS aqz ajh apS),ak1⟩) (c30:PySem.W.codeIn K ajh "first_of"=true) (k30:PySem.W.keepIn K (.ref f30)=true)
  (a31:PySem.W.nsIn K mainGlobals "rest_of"=some (some (.ref f31))) (l31:K.lookup f31=some ⟨ani,amA,.func (PySem.W.fnOf "rest_of" "rest_of" (defArgs pQ) (defBody pQ) (defScope pQ) .none aog ao8 alR aqy ajg apR),ak0⟩) (c31:PySem.W.codeIn K ajg "rest_of"=true) (k31:PySem.W.keepIn K (.ref f31)=true)
  (a32:PySem.W.nsIn K mainGlobals "later"=some (some (.ref f32))) (l32:K.lookup f32=some ⟨anh,amy,.func (PySem.W.fnOf "later" "later" (defArgs uG) (defBody uG) (defScope uG) .none aof ao7 alQ aqx ajf apQ),akZ⟩) (c32:PySem.W.codeIn K ajf "later"=true) (k32:PySem.W.keepIn K (.ref f32)=true)
  (a33:PySem.W.nsIn K mainGlobals "unfronted"=some (some (.ref f33))) (l33:K.lookup f33=some ⟨ang,amx,.func (PySem.W.fnOf "unfronted" "unfronted" (defArgs jt) (defBody jt) (defScope jt) .none aoe ao6 alP aqw aje apP),akY⟩) (c33:PySem.W.codeIn K aje "unfronted"=true) (k33:PySem.W.keepIn K (.ref f33)=true)
  (a34:PySem.W.nsIn K mainGlobals "parts_within"=some (some (.ref f34))) (l34:K.lookup f34=some ⟨anf,amw,.func (PySem.W.fnOf "parts_within" "parts_within" (defArgs iG) (defBody iG) (defScope iG) .none aod ao5 alO aqv ajd apO),akX⟩) (c34:PySem.W.codeIn K ajd "parts_within"=true) (k34:PySem.W.keepIn K (.ref f34)=true)
  (a35:PySem.W.nsIn K mainGlobals "as_tree"=some (some (.ref f35))) (l35:K.lookup f35=some ⟨ane,amv,.func (PySem.W.fnOf "as_tree" "as_tree" (defArgs pY) (defBody pY) (defScope pY) .none aoc ao4 alN aqu ajc apM),akW⟩) (c35:PySem.W.codeIn K ajc "as_tree"=true) (k35:PySem.W.keepIn K (.ref f35)=true)
  (a36:PySem.W.nsIn K mainGlobals "run"=some (some (.ref f36))) (l36:K.lookup f36=some ⟨anc,amu,.func (PySem.W.fnOf "run" "run" (defArgs zJ) (defBody zJ) (defScope zJ) .none aob ao3 alM aqt ajb apL),akV⟩) (c36:PySem.W.codeIn K ajb "run"=true) (k36:PySem.W.keepIn K (.ref f36)=true)
  (a37:PySem.W.nsIn K mainGlobals "tally_of"=some (some (.ref f37))) (l37:K.lookup f37=some ⟨anb,amt,.func (PySem.W.fnOf "tally_of" "tally_of" (defArgs m_) (defBody m_) (defScope m_) .none aoa ao2 alL aqs aja apK),akU⟩) (c37:PySem.W.codeIn K aja "tally_of"=true) (k37:PySem.W.keepIn K (.ref f37)=true)
  (a38:PySem.W.nsIn K mainGlobals "walked"=some (some (.ref f38))) (l38:K.lookup f38=some ⟨ana,ams,.func (PySem.W.fnOf "walked" "walked" (defArgs pL) (defBody pL) (defScope pL) .none an_ ao1 alK aqr ai_ apJ),akT⟩) (c38:PySem.W.codeIn K ai_ "walked"=true) (k38:PySem.W.keepIn K (.ref f38)=true)
  (a39:PySem.W.nsIn K mainGlobals "work"=some (some (.ref f39))) (l39:K.lookup f39=some ⟨am_,amr,.func (PySem.W.fnOf "work" "work" (defArgs yp) (defBody yp) (defScope yp) .none an0 ao0 alJ aqq ai9 apI),akS⟩) (c39:PySem.W.codeIn K ai9 "work"=true) (k39:PySem.W.keepIn K (.ref f39)=true)
  (a40:PySem.W.nsIn K mainGlobals "_law_deck"=some (some (.ref f40))) (l40:K.lookup f40=some ⟨am9,amq,.func (PySem.W.fnOf "_law_deck" "_law_deck" (defArgs lM) (defBody lM) (defScope lM) .none anZ aoZ alI aqp ai8 apH),akR⟩) (c40:PySem.W.codeIn K ai8 "_law_deck"=true) (k40:PySem.W.keepIn K (.ref f40)=true)
  (a41:PySem.W.nsIn K mainGlobals "_law_next"=some (some (.ref f41))) (l41:K.lookup f41=some ⟨am8,amo,.func (PySem.W.fnOf "_law_next" "_law_next" (defArgs gR) (defBody gR) (defScope gR) .none anY aoY alH aqo ai7 apG),akQ⟩) (c41:PySem.W.codeIn K ai7 "_law_next"=true) (k41:PySem.W.keepIn K (.ref f41)=true)
  (a42:PySem.W.nsIn K mainGlobals "_law_tree"=some (some (.ref f42))) (l42:K.lookup f42=some ⟨am7,amn,.func (PySem.W.fnOf "_law_tree" "_law_tree" (defArgs iQ) (defBody iQ) (defScope iQ) .none anW aoX alG aqn ai6 apF),akP⟩) (c42:PySem.W.codeIn K ai6 "_law_tree"=true) (k42:PySem.W.keepIn K (.ref f42)=true)
  (a43:PySem.W.nsIn K mainGlobals "_law_leaves"=some (some (.ref f43))) (l43:K.lookup f43=some ⟨am6,amm,.func (PySem.W.fnOf "_law_leaves" "_law_leaves" (defArgs fU) (defBody fU) (defScope fU) .none anV aoW alF aqm ai5 apE),akO⟩) (c43:PySem.W.codeIn K ai5 "_law_leaves"=true) (k43:PySem.W.keepIn K (.ref f43)=true)
  (a44:PySem.W.nsIn K mainGlobals "_law_word"=some (some (.ref f44))) (l44:K.lookup f44=some ⟨am5,aml,.func (PySem.W.fnOf "_law_word" "_law_word" (defArgs oV) (defBody oV) (defScope oV) .none anU aoV alE aql ai4 apD),akN⟩) (c44:PySem.W.codeIn K ai4 "_law_word"=true) (k44:PySem.W.keepIn K (.ref f44)=true)
  (a45:PySem.W.nsIn K mainGlobals "_law_any"=some (some (.ref f45))) (l45:K.lookup f45=some ⟨am4,amk,.func (PySem.W.fnOf "_law_any" "_law_any" (defArgs kW) (defBody kW) (defScope kW) .none anT aoU alD aqk ai3 apC),akM⟩) (c45:PySem.W.codeIn K ai3 "_law_any"=true) (k45:PySem.W.keepIn K (.ref f45)=true)
  (a46:PySem.W.nsIn K mainGlobals "_law_text"=some (some (.ref f46))) (l46:K.lookup f46=some ⟨am3,amj,.func (PySem.W.fnOf "_law_text" "_law_text" (defArgs ju) (defBody ju) (defScope ju) .none anS aoT alC aqj ai2 apB),akL⟩) (c46:PySem.W.codeIn K ai2 "_law_text"=true) (k46:PySem.W.keepIn K (.ref f46)=true)
  (a47:PySem.W.nsIn K mainGlobals "_law_parts"=some (some (.ref f47))) (l47:K.lookup f47=some ⟨am2,ami,.func (PySem.W.fnOf "_law_parts" "_law_parts" (defArgs gZ) (defBody gZ) (defScope gZ) .none anR aoS alB aqi ai1 apA),akK⟩) (c47:PySem.W.codeIn K ai1 "_law_parts"=true) (k47:PySem.W.keepIn K (.ref f47)=true)
  (a48:PySem.W.nsIn K mainGlobals "_law_lay"=some (some (.ref f48))) (l48:K.lookup f48=some ⟨am1,amh,.func (PySem.W.fnOf "_law_lay" "_law_lay" (defArgs kO) (defBody kO) (defScope kO) .none anQ aoR alA aqh ai0 apz),akJ⟩) (c48:PySem.W.codeIn K ai0 "_law_lay"=true) (k48:PySem.W.keepIn K (.ref f48)=true)
  (a49:PySem.W.nsIn K mainGlobals "_law_plain"=some (some (.ref f49))) (l49:K.lookup f49=some ⟨am0,amg,.func (PySem.W.fnOf "_law_plain" "_law_plain" (defArgs jK) (defBody jK) (defScope jK) .none anP aoQ alz aqg aiZ apy),akI⟩) (c49:PySem.W.codeIn K aiZ "_law_plain"=true) (k49:PySem.W.keepIn K (.ref f49)=true)
  (a50:PySem.W.nsIn K mainGlobals "_law_goes_on"=some (some (.ref f50))) (l50:K.lookup f50=some ⟨amZ,amf,.func (PySem.W.fnOf "_law_goes_on" "_law_goes_on" (defArgs iH) (defBody iH) (defScope iH) .none anO aoP aly aqf aiY apx),akH⟩) (c50:PySem.W.codeIn K aiY "_law_goes_on"=true) (k50:PySem.W.keepIn K (.ref f50)=true)
  (a51:PySem.W.nsIn K mainGlobals "_law_maker"=some (some (.ref f51))) (l51:K.lookup f51=some ⟨amY,ame,.func (PySem.W.fnOf "_law_maker" "_law_maker" (defArgs jL) (defBody jL) (defScope jL) .none anN aoO alx aqe aiX apw),akG⟩) (c51:PySem.W.codeIn K aiX "_law_maker"=true) (k51:PySem.W.keepIn K (.ref f51)=true)
  (a52:PySem.W.nsIn K mainGlobals "_law_knows"=some (some (.ref f52))) (l52:K.lookup f52=some ⟨amX,amd,.func (PySem.W.fnOf "_law_knows" "_law_knows" (defArgs iY) (defBody iY) (defScope iY) .none anM aoN alw aqd aiW apv),akF⟩) (c52:PySem.W.codeIn K aiW "_law_knows"=true) (k52:PySem.W.keepIn K (.ref f52)=true)
  (a53:PySem.W.nsIn K mainGlobals "law"=some (some (.ref f53))) (l53:K.lookup f53=some ⟨amW,amc,.func (PySem.W.fnOf "law" "law" (defArgs vB) (defBody vB) (defScope vB) .none aiD aiU ahY ajH afz aiV),akE⟩) (c53:PySem.W.codeIn K afz "law"=true) (k53:PySem.W.keepIn K (.ref f53)=true)
  (E_:PySem.W.nsIn K mainGlobals "Fronted"=some (some (.ref ao)))
  (Dl:PySem.W.plainGet K ao Str.empty=true)
  (DW:PySem.W.hasDictIn K ao=true)
  (Dk:PySem.W.plainOver K ao=true)
  (Dg:PySem.W.findIn K (.ref ao) "__setattr__"=some (some (.builtin "object.__setattr__")))
  (Dw:PySem.W.makesIn K ao=true)
  (DP:PySem.W.keepIn K (.ref ao)=true)
  (uK:PySem.W.findIn K (.ref ao) "item"=some none)
  (rO:PySem.W.findIn K (.ref ao) "behind"=some none)
  (N5:PySem.W.nsIn K mainGlobals "Later"=some (some (.ref aB)))
  (Lk:PySem.W.plainGet K aB Str.empty=true)
  (M4:PySem.W.hasDictIn K aB=true)
  (Le:PySem.W.plainOver K aB=true)
  (La:PySem.W.findIn K (.ref aB) "__setattr__"=some (some (.builtin "object.__setattr__")))
  (Mi:PySem.W.makesIn K aB=true)
  (Mx:PySem.W.keepIn K (.ref aB)=true)
  (yG:PySem.W.findIn K (.ref aB) "tree"=some none)
  (wD:PySem.W.findIn K (.ref aB) "place"=some none)
  (S_:PySem.W.nsIn K mainGlobals "Word"=some (some (.ref aG)))
  (Rf:PySem.W.plainGet K aG Str.empty=true)
  (RQ:PySem.W.hasDictIn K aG=true)
  (Q_:PySem.W.plainOver K aG=true)
  (Q0:PySem.W.findIn K (.ref aG) "__setattr__"=some (some (.builtin "object.__setattr__")))
  (Rr:PySem.W.makesIn K aG=true)
  (RK:PySem.W.keepIn K (.ref aG)=true)
  (Ab:PySem.W.findIn K (.ref aG) "kind"=some none)
  (Aa:PySem.W.findIn K (.ref aG) "load"=some none)
  (Dv:PySem.W.findIn K (.ref aG) "yes"=some none)
  (Hq:PySem.W.findIn K (.ref aG) "no"=some none)
  (Ac:PySem.W.findIn K (.ref aG) "body"=some none)
  (z_:PySem.W.findIn K (.ref aG) "size"=some none)
  (Td:PySem.W.nsIn K mainGlobals "Text"=some (some (.ref aN)))
  (Rh:PySem.W.plainGet K aN Str.empty=true)
  (RW:PySem.W.hasDictIn K aN=true)
  (Rb:PySem.W.plainOver K aN=true)
  (Q6:PySem.W.findIn K (.ref aN) "__setattr__"=some (some (.builtin "object.__setattr__")))
  (Ru:PySem.W.makesIn K aN=true)
  (RM:PySem.W.keepIn K (.ref aN)=true)
  (Ae:PySem.W.findIn K (.ref aN) "tree"=some none)
  (yF:PySem.W.findIn K (.ref aN) "words"=some none)
  (N6:PySem.W.nsIn K mainGlobals "Going"=some (some (.ref aP)))
  (Ln:PySem.W.plainGet K aP Str.empty=true)
  (M5:PySem.W.hasDictIn K aP=true)
  (Lf:PySem.W.plainOver K aP=true)
  (Lb:PySem.W.findIn K (.ref aP) "__setattr__"=some (some (.builtin "object.__setattr__")))
  (Mj:PySem.W.makesIn K aP=true)
  (Mz:PySem.W.keepIn K (.ref aP)=true)
  (yH:PySem.W.findIn K (.ref aP) "text"=some none)
  (wF:PySem.W.findIn K (.ref aP) "place"=some none)
  (Tc:PySem.W.nsIn K mainGlobals "Walk"=some (some (.ref aM)))
  (Rg:PySem.W.plainGet K aM Str.empty=true)
  (RT:PySem.W.hasDictIn K aM=true)
  (Ra:PySem.W.plainOver K aM=true)
  (Q5:PySem.W.findIn K (.ref aM) "__setattr__"=some (some (.builtin "object.__setattr__")))
  (Rt:PySem.W.makesIn K aM=true)
  (RL:PySem.W.keepIn K (.ref aM)=true)
  (wC:PySem.W.findIn K (.ref aM) "goings"=some none)
  (yE:PySem.W.findIn K (.ref aM) "stack"=some none)
  (uJ:PySem.W.findIn K (.ref aM) "numbers"=some none)
  (Ad:PySem.W.findIn K (.ref aM) "left"=some none)
  (DX:PySem.W.findIn K (.ref ao) "__eq__"=some (some (.builtin "object.__eq__")))
  (Dq:PySem.W.mroIn K ao (.type "object")=some true)
  (C_:PySem.W.mroIn K ao (.type "tuple")=some false)
  (Df:PySem.W.subIn K (.type "tuple") (.ref ao)=some false)
  (En:PySem.W.findIn K (.ref ao) "__class__"=some (some (.builtin "object.__class__")))
  (M_:PySem.W.findIn K (.ref aB) "__eq__"=some (some (.builtin "object.__eq__")))
  (L_:PySem.W.mroIn K aB (.type "object")=some true)
  (KD:PySem.W.mroIn K aB (.type "tuple")=some false)
  (K_:PySem.W.subIn K (.type "tuple") (.ref aB)=some false)
  (Ny:PySem.W.findIn K (.ref aB) "__class__"=some (some (.builtin "object.__class__")))
  (cn:PySem.W.specialIn K (.builtin "object.__class__") "__get__"=some (some (.builtin "getset_descriptor.__get__")))
  (ct:PySem.W.takesIn K (.builtin "object.__class__")=some true)
  (iTF:PySem.W.kitOne K (.type "tuple") (.ref ao)=some false)
  (iTL:PySem.W.kitOne K (.type "tuple") (.ref aB)=some false)
  (iFF:PySem.W.kitOne K (.ref ao) (.ref ao)=some true)
  (iLF:PySem.W.kitOne K (.ref aB) (.ref ao)=some false)
  (iLL:PySem.W.kitOne K (.ref aB) (.ref aB)=some true)
  (gO:PySem.W.findIn K (.ref ao) "__init__"=some (some (.ref jc)))
  (qm:PySem.W.isFn K (.ref jc)=true)
  (qj:K.lookup jc=some ⟨FZ,FW,.func (PySem.W.fnOf "__init__" "Fronted.__init__" (defArgs gH) (defBody gH) (defScope gH) .none Ga Gd FN Gf uD Ge),Fz⟩)
  (qx:PySem.W.codeIn K uD "Fronted.__init__"=true)
  (ql:PySem.W.keepIn K (.ref jc)=true)
  (iM:PySem.W.findIn K (.ref aB) "__init__"=some (some (.ref jN)))
  (rY:PySem.W.isFn K (.ref jN)=true)
  (rQ:K.lookup jN=some ⟨Ka,J9,.func (PySem.W.fnOf "__init__" "Later.__init__" (defArgs iI) (defBody iI) (defScope iI) .none Kd Kg J5 Ko wO Kl),J1⟩)
  (sy:PySem.W.codeIn K wO "Later.__init__"=true)
  (rT:PySem.W.keepIn K (.ref jN)=true)
  (jg:PySem.W.findIn K (.ref aG) "__init__"=some (some (.ref lA)))
  (tZ:PySem.W.isFn K (.ref lA)=true)
  (tQ:K.lookup lA=some ⟨LK,Ly,.func (PySem.W.fnOf "__init__" "Word.__init__" (defArgs jd) (defBody jd) (defScope jd) .none MF Nj Lg NP yW Nr),K3⟩)
  (um:PySem.W.codeIn K yW "Word.__init__"=true)
  (tV:PySem.W.keepIn K (.ref lA)=true)
  (iy:PySem.W.findIn K (.ref aG) "body_parts"=some (some (.ref jm)))
  (qP:PySem.W.isFn K (.ref jm)=true)
  (qO:K.lookup jm=some ⟨Hl,Hj,.func (PySem.W.fnOf "body_parts" "Word.body_parts" (defArgs iu) (defBody iu) (defScope iu) .none Hx HY Hf IK wg Ik),Gz⟩)
  (qQ:PySem.W.codeIn K wg "Word.body_parts"=true)
  (lW:PySem.W.keepIn K (.ref jm)=true)
  (eU:PySem.W.findIn K (.ref aN) "__init__"=some (some (.ref lC)))
  (uc:PySem.W.isFn K (.ref lC)=true)
  (tU:K.lookup lC=some ⟨LR,LC,.func (PySem.W.fnOf "__init__" "Text.__init__" (defArgs je) (defBody je) (defScope je) .none MK Nm Li NT yZ Nu),K5⟩)
  (uq:PySem.W.codeIn K yZ "Text.__init__"=true)
  (tY:PySem.W.keepIn K (.ref lC)=true)
  (jE:PySem.W.findIn K (.ref aN) "word_at"=some (some (.ref mK)))
  (uP:PySem.W.isFn K (.ref mK)=true)
  (uN:K.lookup mK=some ⟨O_,OJ,.func (PySem.W.fnOf "word_at" "Text.word_at" (defArgs jB) (defBody jB) (defScope jB) .none Pn Px Ou PL zQ Py),Oj⟩)
  (uX:PySem.W.codeIn K zQ "Text.word_at"=true)
  (qM:PySem.W.keepIn K (.ref mK)=true)
  (dR:PySem.W.findIn K (.ref aP) "__init__"=some (some (.ref jO)))
  (rZ:PySem.W.isFn K (.ref jO)=true)
  (rR:K.lookup jO=some ⟨Kc,J_,.func (PySem.W.fnOf "__init__" "Going.__init__" (defArgs iJ) (defBody iJ) (defScope iJ) .none Ke Kh J6 Kp wQ Km),J2⟩)
  (sE:PySem.W.codeIn K wQ "Going.__init__"=true)
  (rW:PySem.W.keepIn K (.ref jO)=true)
  (jh:PySem.W.findIn K (.ref aM) "__init__"=some (some (.ref lB)))
  (t_:PySem.W.isFn K (.ref lB)=true)
  (tR:K.lookup lB=some ⟨LQ,Lz,.func (PySem.W.fnOf "__init__" "Walk.__init__" (defArgs g_) (defBody g_) (defScope g_) .none MJ Nk Lh NQ yX Nt),K4⟩)
  (uo:PySem.W.codeIn K yX "Walk.__init__"=true)
  (tX:PySem.W.keepIn K (.ref lB)=true)
  (gF:PySem.W.findIn K (.ref aM) "at_end"=some (some (.ref oK)))
  (wH:PySem.W.isFn K (.ref oK)=true)
  (wG:K.lookup oK=some ⟨Rq,Rp,.func (PySem.W.fnOf "at_end" "Walk.at_end" (defArgs j4) (defBody j4) (defScope j4) .none RN R6 Rc SJ Cm Sd),QL⟩)
  (wJ:PySem.W.codeIn K Cm "Walk.at_end"=true)
  (rJ:PySem.W.keepIn K (.ref oK)=true)
  (jr:PySem.W.findIn K (.ref aM) "top"=some (some (.ref ud)))
  (DQ:PySem.W.isFn K (.ref ud)=true)
  (DN:K.lookup ud=some ⟨Y5,Y4,.func (PySem.W.fnOf "top" "Walk.top" (defArgs qI) (defBody qI) (defScope qI) .none Zb Ze YK Zn Ky Zf),Yv⟩)
  (Eo:PySem.W.codeIn K Ky "Walk.top"=true)
  (xg:PySem.W.keepIn K (.ref ud)=true)
  (ig:PySem.W.findIn K (.ref aM) "tally"=some (some (.ref qp)))
  (yK:PySem.W.isFn K (.ref qp)=true)
  (yJ:K.lookup qp=some ⟨Us,Ur,.func (PySem.W.fnOf "tally" "Walk.tally" (defArgs lZ) (defBody lZ) (defScope lZ) .none Ut Uu Uh Ux Fw Uv),Ub⟩)
  (za:PySem.W.codeIn K Fw "Walk.tally"=true)
  (tW:PySem.W.keepIn K (.ref qp)=true)
  (o8:PySem.W.findIn K (.ref aM) "step"=some (some (.ref rD)))
  (Ak:PySem.W.isFn K (.ref rD)=true)
  (Ai:K.lookup rD=some ⟨Wm,Wi,.func (PySem.W.fnOf "step" "Walk.step" (defArgs oW) (defBody oW) (defScope oW) .none W4 Xy V3 X7 Io XJ),Vv⟩)
  (Az:PySem.W.codeIn K Io "Walk.step"=true)
  (vC:PySem.W.keepIn K (.ref rD)=true)
  (o9:PySem.W.findIn K (.ref aM) "move"=some (some (.ref rE)))
  (Al:PySem.W.isFn K (.ref rE)=true)
  (Aj:K.lookup rE=some ⟨Wn,Wj,.func (PySem.W.fnOf "move" "Walk.move" (defArgs oX) (defBody oX) (defScope oX) .none W5 Xz V4 X8 Ip XM),Vw⟩)
  (A_:PySem.W.codeIn K Ip "Walk.move"=true)
  (vD:PySem.W.keepIn K (.ref rE)=true)
  (HW:PySem.W.nsIn K mainGlobals "FORK_NO"=some (some mW))
  (mX:RelV (.int 8) mW)
  (Eb:PySem.W.nsIn K mainGlobals "FORK_YES"=some (some kh))
  (kZ:RelV (.int 7) kh)
  (yL:PySem.W.nsIn K mainGlobals "WHILE_PAST"=some (some pH))
  (pZ:RelV (.int 10) pH)
  (yM:PySem.W.nsIn K mainGlobals "WHILE_INTO"=some (some iW))
  (iZ:RelV (.int 9) iW)
  (HN:PySem.W.nsIn K mainGlobals "NO_WORD"=some (some vK))
  (vU:RelV (.int 11) vK)
  (Xq:PySem.W.nsIn K mainGlobals "DROP"=some (some Gm))
  (GZ:RelV (.int 1) Gm)
  (Xk:PySem.W.nsIn K mainGlobals "SWAP"=some (some Gi))
  (GQ:RelV (.int 3) Gi)
  (R4:PySem.W.nsIn K mainGlobals "FRONT"=some (some Bt))
  (BL:RelV (.int 4) Bt)
  (Xm:PySem.W.nsIn K mainGlobals "PART"=some (some Gj))
  (GR:RelV (.int 5) Gj)
  (Xj:PySem.W.nsIn K mainGlobals "TURN"=some (some Gg))
  (GK:RelV (.int 6) Gg)
  (Nf:PySem.W.nsIn K mainGlobals "PLACES"=some (some xW))
  (yw:RelV (.int 15) xW)
  (Xl:PySem.W.nsIn K mainGlobals "SHUT"=some (some vJ))
  (vR:RelV (.int 12) vJ)
  (Nh:PySem.W.nsIn K mainGlobals "BODIES"=some (some xX))
  (yx:RelV (.int 14) xX)
  (R3:PySem.W.nsIn K mainGlobals "LOOKS"=some (some (.ref vh)))
  (RG:K.lookup vh=some aaj)
  (Qw:jZ aaj [.int 0,.int 1,.int 1,.int 2,.int 2,.int 1,.int 3,.int 1,.int 1,.int 1,.int 1,.int 0,.int 0])
  (R0:PySem.W.nsIn K mainGlobals "NAMES"=some (some (.ref qN)))
  (JQ:K.lookup qN=some JK)
  (Qo:jZ JK [.str (PySem.Str.ofString "lay"),.str (PySem.Str.ofString "drop"),.str (PySem.Str.ofString "twin"),.str (PySem.Str.ofString "swap"),.str (PySem.Str.ofString "front"),.str (PySem.Str.ofString "part"),.str (PySem.Str.ofString "turn"),.str (PySem.Str.ofString "fork"),.str (PySem.Str.ofString "while")])
  (Qp:JK.cls=.type "tuple"∧JK.dict=none)
  (D_:PySem.W.nsIn K mainGlobals "NAMELESS"=some (some j_))
  (kY:RelV (.int 9) j_)
  (Xo:PySem.W.nsIn K mainGlobals "FORK"=some (some kj))
  (k_:RelV (.int 7) kj)
  (RZ:PySem.W.nsIn K mainGlobals "WHILE"=some (some eV))
  (eX:RelV (.int 8) eV)
  (abH:PySem.W.nsIn K mainGlobals "LAY"=some (some zG))
  (zK:RelV (.int 0) zG)
  (Xn:PySem.W.nsIn K mainGlobals "LAID"=some (some Gk))
  (GX:RelV (.str (PySem.Str.ofString "turn turn front turn turn front swap")) Gk)
  (wI:PySem.W.nsIn K mainGlobals "TOP_REACHED"=some (some iz))
  (iB:RelV (.str (PySem.Str.ofString "turn turn front turn part")) iz)
  (HS:PySem.W.nsIn K mainGlobals "INTO_NO"=some (some vL))
  (vV:RelV (.str (PySem.Str.ofString "front swap turn part drop front")) vL)
  (Ea:PySem.W.nsIn K mainGlobals "INTO_YES"=some (some tD))
  (tH:RelV (.str (PySem.Str.ofString "front swap turn part swap drop front")) tD)
  (uQ:PySem.W.nsIn K mainGlobals "STACK_PARTED"=some (some lY))
  (mj:RelV (.str (PySem.Str.ofString "drop front swap part")) lY)
  (Nb:PySem.W.nsIn K mainGlobals "WORKED"=some (some (.ref jk)))
  (Mu:K.lookup jk=some Ws)
  (KN:jZ Ws [.str (PySem.Str.ofString ""),.str (PySem.Str.ofString "drop"),.str (PySem.Str.ofString "twin turn swap front swap front"),.str (PySem.Str.ofString "swap part swap turn front swap front"),.str (PySem.Str.ofString "swap part turn front front"),.str (PySem.Str.ofString "part turn turn front swap front"),.str (PySem.Str.ofString "swap part swap part swap turn front turn front swap front")])
  (Ao:PySem.W.nsIn K mainGlobals "PAST_BODY"=some (some qW))
  (q_:RelV (.str (PySem.Str.ofString "front turn drop swap")) qW)
  (Aq:PySem.W.nsIn K mainGlobals "INTO_BODY"=some (some qX))
  (rm:RelV (.str (PySem.Str.ofString "front swap turn part swap twin turn front turn part turn front front swap front")) qX)
  (Ng:PySem.W.nsIn K mainGlobals "COPIED"=some (some pJ))
  (nA:RelV (.int 13) pJ)
  (Xi:PySem.W.nsIn K mainGlobals "TWIN"=some (some pI))
  (oF:RelV (.int 2) pI)
  (Ni:PySem.W.nsIn K mainGlobals "ALWAYS"=some (some (.ref qC)))
  (Mv:K.lookup qC=some Wt)
  (KQ:jZ Wt [.int 2,.int 2,.int 0,.int 1,.int 2,.int 2,.int 2,.int 0,.int 0,.int 0,.int 1,.int 0,.int 1,.int 0,.int 0])
  (Xp:PySem.W.nsIn K mainGlobals "EACH"=some (some (.ref wu)))
  (W0:K.lookup wu=some adk)
  (U8:jZ adk [.ref bE0,.ref bE1,.ref bE2,.ref bE3,.ref bE4,.ref bE5,.ref bE6,.ref bE7,.ref bE8,.ref bE9,.ref afH,.ref afG,.ref afF,.ref afE,.ref afD])
  (lE0:K.lookup bE0=some oE0) (tE0:jZ oE0 [.int 0,.int 1,.int 0,.int 1,.int 2,.int 3,.int 4,.int 1,.int 1,.int 1,.int 0,.int 0,.int 3,.int 0,.int 1169])
  (lE1:K.lookup bE1=some oE1) (tE1:jZ oE1 [.int 0,.int 4,.int 0,.int 3,.int 1,.int 5,.int 0,.int 2,.int 1,.int 1,.int 0,.int 0,.int 4,.int 0,.int 1169])
  (lE2:K.lookup bE2=some oE2) (tE2:jZ oE2 [.int 0,.int 4,.int 1,.int 6,.int 3,.int 6,.int 1,.int 3,.int 1,.int 1,.int 0,.int 0,.int 5,.int 0,.int 1169])
  (lE3:K.lookup bE3=some oE3) (tE3:jZ oE3 [.int 0,.int 5,.int 0,.int 8,.int 3,.int 8,.int 1,.int 4,.int 1,.int 1,.int 0,.int 0,.int 6,.int 0,.int 1169])
  (lE4:K.lookup bE4=some oE4) (tE4:jZ oE4 [.int 0,.int 6,.int 0,.int 7,.int 3,.int 9,.int 1,.int 5,.int 1,.int 1,.int 0,.int 0,.int 7,.int 0,.int 1169])
  (lE5:K.lookup bE5=some oE5) (tE5:jZ oE5 [.int 0,.int 7,.int 0,.int 8,.int 3,.int 10,.int 2,.int 6,.int 1,.int 1,.int 0,.int 0,.int 8,.int 0,.int 1169])
  (lE6:K.lookup bE6=some oE6) (tE6:jZ oE6 [.int 0,.int 8,.int 0,.int 12,.int 4,.int 12,.int 2,.int 7,.int 1,.int 1,.int 0,.int 0,.int 9,.int 0,.int 1169])
  (lE7:K.lookup bE7=some oE7) (tE7:jZ oE7 [.int 0,.int 9,.int 0,.int 9,.int 3,.int 12,.int 4,.int 9,.int 1,.int 1,.int 0,.int 0,.int 11,.int 0,.int 1169])
  (lE8:K.lookup bE8=some oE8) (tE8:jZ oE8 [.int 0,.int 9,.int 0,.int 8,.int 3,.int 12,.int 4,.int 8,.int 2,.int 1,.int 0,.int 0,.int 11,.int 0,.int 1169])
  (lE9:K.lookup bE9=some oE9) (tE9:jZ oE9 [.int 0,.int 0,.int 1,.int 19,.int 15,.int 14,.int 7,.int 10,.int 1,.int 1,.int 0,.int 0,.int 12,.int 0,.int 1169])
  (afd:K.lookup afH=some aiq) (aez:jZ aiq [.int 0,.int 1,.int 0,.int 17,.int 11,.int 12,.int 4,.int 9,.int 2,.int 1,.int 0,.int 0,.int 12,.int 0,.int 1169])
  (afc:K.lookup afG=some aip) (aey:jZ aip [.int 0,.int 10,.int 0,.int 8,.int 1,.int 11,.int 0,.int 10,.int 0,.int 1,.int 0,.int 0,.int 11,.int 0,.int 1169])
  (afb:K.lookup afF=some aio) (aex:jZ aio [.int 0,.int 1,.int 0,.int 0,.int 0,.int 1,.int 0,.int 0,.int 1,.int 1,.int 0,.int 0,.int 2,.int 0,.int 1169])
  (afa:K.lookup afE=some ain) (aew:jZ ain [.int 0,.int 0,.int 0,.int 0,.int 0,.int 0,.int 0,.int 0,.int 0,.int 0,.int 0,.int 0,.int 0,.int 1,.int 0])
  (ae_:K.lookup afD=some ail) (aev:jZ ail [.int 0,.int 0,.int 0,.int 0,.int 0,.int 0,.int 0,.int 0,.int 0,.int 0,.int 0,.int 0,.int 0,.int 1,.int 0])
  (aaE:PySem.W.nsIn K mainGlobals "min"=some none) (aaF:PySem.W.nsIn K mainGlobals "len"=some none) (Qm:PySem.W.nsIn K mainGlobals "tuple"=some none) (CN:PySem.W.nsIn K mainGlobals "reversed"=some none) (Qn:PySem.W.nsIn K mainGlobals "range"=some none) (aaD:PySem.W.nsIn K mainGlobals "sum"=some none) (aaC:PySem.W.nsIn K mainGlobals "zip"=some none) (xV:PySem.W.nsIn K mainGlobals "isinstance"=some none) (aaG:PySem.W.nsIn K mainGlobals "int"=some none) (U4:PySem.W.nsIn K mainGlobals "list"=some none) :
  ∃ fd:FuncData,(∀ (s:Shared) (v:Value),BindsTo s fd ⟨[v],[]⟩ [("_law_script",v)])∧∀ base:Heap,K.In base→base.Ns mainGlobals mg→FnOk l.prog w K mg base CX0 140 fa fd ["_law_script"] (spLaw K):=by
 have e:=hfa.symm.trans (PySem.W.mg_of X G a53)
 cases e
 have F1:=fun_mk (st:=oU) l1 c1 k1
 have F2:=fun_mk (st:=vP) l2 c2 k2
 have F3:=fun_mk (st:=uF) l3 c3 k3
 have F4:=fun_mk (st:=pP) l4 c4 k4
 have F5:=fun_mk (st:=pU) l5 c5 k5
 have F6:=fun_mk (st:=vA) l6 c6 k6
 have F7:=fun_mk (st:=uE) l7 c7 k7
 have F8:=fun_mk (st:=qZ) l8 c8 k8
 have F9:=fun_mk (st:=yq) l9 c9 k9
 have F10:=fun_mk (st:=fC) l10 c10 k10
 have F11:=fun_mk (st:=jJ) l11 c11 k11
 have F12:=fun_mk (st:=pR) l12 c12 k12
 have F13:=fun_mk (st:=lK) l13 c13 k13
 have F14:=fun_mk (st:=pO) l14 c14 k14
 have F15:=fun_mk (st:=pX) l15 c15 k15
 have F16:=fun_mk (st:=pW) l16 c16 k16
 have F17:=fun_mk (st:=jH) l17 c17 k17
 have F18:=fun_mk (st:=gY) l18 c18 k18
 have F19:=fun_mk (st:=sJ) l19 c19 k19
 have F20:=fun_mk (st:=kJ) l20 c20 k20
 have F21:=fun_mk (st:=vQ) l21 c21 k21
 have F22:=fun_mk (st:=sO) l22 c22 k22
 have F23:=fun_mk (st:=pN) l23 c23 k23
 have F24:=fun_mk (st:=ni) l24 c24 k24
 have F25:=fun_mk (st:=lH) l25 c25 k25
 have F26:=fun_mk (st:=nj) l26 c26 k26
 have F27:=fun_mk (st:=yt) l27 c27 k27
 have F28:=fun_mk (st:=lJ) l28 c28 k28
 have F29:=fun_mk (st:=nu) l29 c29 k29
 have F30:=fun_mk (st:=nq) l30 c30 k30
 have F31:=fun_mk (st:=pQ) l31 c31 k31
 have F32:=fun_mk (st:=uG) l32 c32 k32
 have F33:=fun_mk (st:=jt) l33 c33 k33
 have F34:=fun_mk (st:=iG) l34 c34 k34
 have F35:=fun_mk (st:=pY) l35 c35 k35
 have F36:=fun_mk (st:=zJ) l36 c36 k36
 have F37:=fun_mk (st:=m_) l37 c37 k37
 have F38:=fun_mk (st:=pL) l38 c38 k38
 have F39:=fun_mk (st:=yp) l39 c39 k39
 have F40:=fun_mk (st:=lM) l40 c40 k40
 have F41:=fun_mk (st:=gR) l41 c41 k41
 have F42:=fun_mk (st:=iQ) l42 c42 k42
 have F43:=fun_mk (st:=fU) l43 c43 k43
 have F44:=fun_mk (st:=oV) l44 c44 k44
 have F45:=fun_mk (st:=kW) l45 c45 k45
 have F46:=fun_mk (st:=ju) l46 c46 k46
 have F47:=fun_mk (st:=gZ) l47 c47 k47
 have F48:=fun_mk (st:=kO) l48 c48 k48
 have F49:=fun_mk (st:=jK) l49 c49 k49
 have F50:=fun_mk (st:=iH) l50 c50 k50
 have F51:=fun_mk (st:=jL) l51 c51 k51
 have F52:=fun_mk (st:=iY) l52 c52 k52
 have F53:=fun_mk (st:=vB) l53 c53 k53
 have b1:=F1.binds (ps:=["tree"]) fun _ _ _ _ _ _ us hl=>match us,hl with | [_],_=>rfl
 have m1:=PySem.W.mg_of X G a1
 have b2:=F2.binds (ps:=["tree"]) fun _ _ _ _ _ _ us hl=>match us,hl with | [_],_=>rfl
 have m2:=PySem.W.mg_of X G a2
 have b3:=F3.binds (ps:=["tree"]) fun _ _ _ _ _ _ us hl=>match us,hl with | [_],_=>rfl
 have m3:=PySem.W.mg_of X G a3
 have b4:=F4.binds (ps:=["word"]) fun _ _ _ _ _ _ us hl=>match us,hl with | [_],_=>rfl
 have m4:=PySem.W.mg_of X G a4
 have b5:=F5.binds (ps:=["word"]) fun _ _ _ _ _ _ us hl=>match us,hl with | [_],_=>rfl
 have m5:=PySem.W.mg_of X G a5
 have b6:=F6.binds (ps:=["tree"]) fun _ _ _ _ _ _ us hl=>match us,hl with | [_],_=>rfl
 have m6:=PySem.W.mg_of X G a6
 have b7:=F7.binds (ps:=["sort"]) fun _ _ _ _ _ _ us hl=>match us,hl with | [_],_=>rfl
 have m7:=PySem.W.mg_of X G a7
 have b8:=F8.binds (ps:=["yes","no"]) fun _ _ _ _ _ _ us hl=>match us,hl with | [_,_],_=>rfl
 have m8:=PySem.W.mg_of X G a8
 have b9:=F9.binds (ps:=["body"]) fun _ _ _ _ _ _ us hl=>match us,hl with | [_],_=>rfl
 have m9:=PySem.W.mg_of X G a9
 have b10:=F10.binds (ps:=["names"]) fun _ _ _ _ _ _ us hl=>match us,hl with | [_],_=>rfl
 have m10:=PySem.W.mg_of X G a10
 have b11:=F11.binds (ps:=[]) fun _ _ _ _ _ _ us hl=>match us,hl with | [],_=>rfl
 have m11:=PySem.W.mg_of X G a11
 have b12:=F12.binds (ps:=[]) fun _ _ _ _ _ _ us hl=>match us,hl with | [],_=>rfl
 have m12:=PySem.W.mg_of X G a12
 have b13:=F13.binds (ps:=[]) fun _ _ _ _ _ _ us hl=>match us,hl with | [],_=>rfl
 have m13:=PySem.W.mg_of X G a13
 have b14:=F14.binds (ps:=[]) fun _ _ _ _ _ _ us hl=>match us,hl with | [],_=>rfl
 have m14:=PySem.W.mg_of X G a14
 have b15:=F15.binds (ps:=[]) fun _ _ _ _ _ _ us hl=>match us,hl with | [],_=>rfl
 have m15:=PySem.W.mg_of X G a15
 have b16:=F16.binds (ps:=["sort"]) fun _ _ _ _ _ _ us hl=>match us,hl with | [_],_=>rfl
 have m16:=PySem.W.mg_of X G a16
 have b17:=F17.binds (ps:=[]) fun _ _ _ _ _ _ us hl=>match us,hl with | [],_=>rfl
 have m17:=PySem.W.mg_of X G a17
 have b18:=F18.binds (ps:=[]) fun _ _ _ _ _ _ us hl=>match us,hl with | [],_=>rfl
 have m18:=PySem.W.mg_of X G a18
 have b19:=F19.binds (ps:=["text","tree"]) fun _ _ _ _ _ _ us hl=>match us,hl with | [_,_],_=>rfl
 have m19:=PySem.W.mg_of X G a19
 have b20:=F20.binds (ps:=["sort","top"]) fun _ _ _ _ _ _ us hl=>match us,hl with | [_,_],_=>rfl
 have m20:=PySem.W.mg_of X G a20
 have b21:=F21.binds (ps:=["tally"]) fun _ _ _ _ _ _ us hl=>match us,hl with | [_],_=>rfl
 have m21:=PySem.W.mg_of X G a21
 have b22:=F22.binds (ps:=["one","other"]) fun _ _ _ _ _ _ us hl=>match us,hl with | [_,_],_=>rfl
 have m22:=PySem.W.mg_of X G a22
 have b23:=F23.binds (ps:=["tally"]) fun _ _ _ _ _ _ us hl=>match us,hl with | [_],_=>rfl
 have m23:=PySem.W.mg_of X G a23
 have b24:=F24.binds (ps:=["body"]) fun _ _ _ _ _ _ us hl=>match us,hl with | [_],_=>rfl
 have m24:=PySem.W.mg_of X G a24
 have b25:=F25.binds (ps:=[]) fun _ _ _ _ _ _ us hl=>match us,hl with | [],_=>rfl
 have m25:=PySem.W.mg_of X G a25
 have b26:=F26.binds (ps:=[]) fun _ _ _ _ _ _ us hl=>match us,hl with | [],_=>rfl
 have m26:=PySem.W.mg_of X G a26
 have b27:=F27.binds (ps:=["text"]) fun _ _ _ _ _ _ us hl=>match us,hl with | [_],_=>rfl
 have m27:=PySem.W.mg_of X G a27
 have b28:=F28.binds (ps:=["text"]) fun _ _ _ _ _ _ us hl=>match us,hl with | [_],_=>rfl
 have m28:=PySem.W.mg_of X G a28
 have b29:=F29.binds (ps:=["own_made"]) fun _ _ _ _ _ _ us hl=>match us,hl with | [_],_=>rfl
 have m29:=PySem.W.mg_of X G a29
 have b30:=F30.binds (ps:=["row"]) fun _ _ _ _ _ _ us hl=>match us,hl with | [_],_=>rfl
 have m30:=PySem.W.mg_of X G a30
 have b31:=F31.binds (ps:=["row"]) fun _ _ _ _ _ _ us hl=>match us,hl with | [_],_=>rfl
 have m31:=PySem.W.mg_of X G a31
 have b32:=F32.binds (ps:=["tree","place"]) fun _ _ _ _ _ _ us hl=>match us,hl with | [_,_],_=>rfl
 have m32:=PySem.W.mg_of X G a32
 have b33:=F33.binds (ps:=["row"]) fun _ _ _ _ _ _ us hl=>match us,hl with | [_],_=>rfl
 have m33:=PySem.W.mg_of X G a33
 have b34:=F34.binds (ps:=["row","most"]) fun _ _ _ _ _ _ us hl=>match us,hl with | [_,_],_=>rfl
 have m34:=PySem.W.mg_of X G a34
 have b35:=F35.binds (ps:=["row"]) fun _ _ _ _ _ _ us hl=>match us,hl with | [_],_=>rfl
 have m35:=PySem.W.mg_of X G a35
 have b36:=F36.binds (ps:=["text","tree","budget"]) fun _ _ _ _ _ _ us hl=>match us,hl with | [_,_,_],_=>rfl
 have m36:=PySem.W.mg_of X G a36
 have b37:=F37.binds (ps:=["text","tree","budget"]) fun _ _ _ _ _ _ us hl=>match us,hl with | [_,_,_],_=>rfl
 have m37:=PySem.W.mg_of X G a37
 have b38:=F38.binds (ps:=["stand","budget"]) fun _ _ _ _ _ _ us hl=>match us,hl with | [_,_],_=>rfl
 have m38:=PySem.W.mg_of X G a38
 have b39:=F39.binds (ps:=["step","load","stack"]) fun _ _ _ _ _ _ us hl=>match us,hl with | [_,_,_],_=>rfl
 have m39:=PySem.W.mg_of X G a39
 have b40:=F40.binds (ps:=["_law_script"]) fun _ _ _ _ _ _ us hl=>match us,hl with | [_],_=>rfl
 have m40:=PySem.W.mg_of X G a40
 have b41:=F41.binds (ps:=["_law_deck_here","_law_many"]) fun _ _ _ _ _ _ us hl=>match us,hl with | [_,_],_=>rfl
 have m41:=PySem.W.mg_of X G a41
 have b42:=F42.binds (ps:=["_law_deck_here","_law_deep"]) fun _ _ _ _ _ _ us hl=>match us,hl with | [_,_],_=>rfl
 have m42:=PySem.W.mg_of X G a42
 have b43:=F43.binds (ps:=["_law_many"]) fun _ _ _ _ _ _ us hl=>match us,hl with | [_],_=>rfl
 have m43:=PySem.W.mg_of X G a43
 have b44:=F44.binds (ps:=["_law_deck_here","_law_deep"]) fun _ _ _ _ _ _ us hl=>match us,hl with | [_,_],_=>rfl
 have m44:=PySem.W.mg_of X G a44
 have b45:=F45.binds (ps:=["_law_deck_here"]) fun _ _ _ _ _ _ us hl=>match us,hl with | [_],_=>rfl
 have m45:=PySem.W.mg_of X G a45
 have b46:=F46.binds (ps:=["_law_deck_here","_law_deep"]) fun _ _ _ _ _ _ us hl=>match us,hl with | [_,_],_=>rfl
 have m46:=PySem.W.mg_of X G a46
 have b47:=F47.binds (ps:=["_law_tree_here"]) fun _ _ _ _ _ _ us hl=>match us,hl with | [_],_=>rfl
 have m47:=PySem.W.mg_of X G a47
 have b48:=F48.binds (ps:=["_law_tree_here"]) fun _ _ _ _ _ _ us hl=>match us,hl with | [_],_=>rfl
 have m48:=PySem.W.mg_of X G a48
 have b49:=F49.binds (ps:=["_law_sort"]) fun _ _ _ _ _ _ us hl=>match us,hl with | [_],_=>rfl
 have m49:=PySem.W.mg_of X G a49
 have b50:=F50.binds (ps:=["_law_words"]) fun _ _ _ _ _ _ us hl=>match us,hl with | [_],_=>rfl
 have m50:=PySem.W.mg_of X G a50
 have b51:=F51.binds (ps:=["_law_deck_here","_law_way"]) fun _ _ _ _ _ _ us hl=>match us,hl with | [_,_],_=>rfl
 have m51:=PySem.W.mg_of X G a51
 have b52:=F52.binds (ps:=["_law_text_here","_law_made","_law_tree_here","_law_room"]) fun _ _ _ _ _ _ us hl=>match us,hl with | [_,_,_,_],_=>rfl
 have m52:=PySem.W.mg_of X G a52
 have wZ:=PySem.W.mg_none_of X G aaE
 have gj:=PySem.W.mg_none_of X G aaF
 have cW:=PySem.W.mg_none_of X G Qm
 have nH:=PySem.W.mg_none_of X G CN
 have gK:=PySem.W.mg_none_of X G Qn
 have JM:=PySem.W.mg_none_of X G aaD
 have JL:=PySem.W.mg_none_of X G aaC
 have cI:=PySem.W.mg_none_of X G xV
 have abm:=PySem.W.mg_none_of X G aaG
 have Wz:=PySem.W.mg_none_of X G U4
 have fJ:=PySem.W.mg_of X G E_
 have j7:=PySem.W.mg_of X G N5
 have WK:=PySem.W.mg_of X G S_
 have vY:=PySem.W.mg_of X G Td
 have sU:=PySem.W.mg_of X G N6
 have WL:=PySem.W.mg_of X G Tc
 have O:Own K ao aB aG aN aP aM:=⟨⟨⟨Dl,DW,Dk,Dg⟩,DX,Dq,C_,Df,En,cn,ct⟩,⟨⟨Lk,M4,Le,La⟩,M_,L_,KD,K_,Ny,cn,ct⟩,⟨Rf,RQ,Q_,Q0⟩,⟨Rh,RW,Rb,Q6⟩,⟨Ln,M5,Lf,Lb⟩,⟨Rg,RT,Ra,Q5⟩,uK,rO,yG,wD,Ab,Aa,Dv,Hq,Ac,z_,Ae,yF,yH,wF,wC,yE,uJ,Ad,iTF,iTL,iFF,iLF,iLL⟩
 have wB:=fun_mk (st:=gH) qj qx ql
 have qz:=wB.binds (ps:=["self","item","behind"]) fun _ _ _ _ _ _ us hl=>match us,hl with | [_,_,_],_=>rfl
 have Fe:Mk K ao jc:=⟨Dw,gO,qm,DP⟩
 have zB:=fun_mk (st:=iI) rQ sy rT
 have sG:=zB.binds (ps:=["self","tree","place"]) fun _ _ _ _ _ _ us hl=>match us,hl with | [_,_,_],_=>rfl
 have N_:Mk K aB jN:=⟨Mi,iM,rY,Mx⟩
 have zT:=fun_mk (st:=jd) tQ um tV
 have ur:=zT.binds (ps:=["self","tree"]) fun _ _ _ _ _ _ us hl=>match us,hl with | [_,_],_=>rfl
 have Tf:Mk K aG lA:=⟨Rr,jg,tZ,RK⟩
 have wR:=fun_mk (st:=iu) qO qQ lW
 have qR:=wR.binds (ps:=["self"]) fun _ _ _ _ _ _ us hl=>match us,hl with | [_],_=>rfl
 have qT:Meth K aG "body_parts" jm:=⟨iy,qP,lW⟩
 have zV:=fun_mk (st:=je) tU uq tY
 have gw:=zV.binds (ps:=["self","tree"]) fun _ _ _ _ _ _ us hl=>match us,hl with | [_,_],_=>rfl
 have sY:Mk K aN lC:=⟨Ru,eU,uc,RM⟩
 have CJ:=fun_mk (st:=jB) uN uX qM
 have uZ:=CJ.binds (ps:=["self","place"]) fun _ _ _ _ _ _ us hl=>match us,hl with | [_,_],_=>rfl
 have vo:Meth K aN "word_at" mK:=⟨jE,uP,qM⟩
 have zE:=fun_mk (st:=iJ) rR sE rW
 have fM:=zE.binds (ps:=["self","text"]) fun _ _ _ _ _ _ us hl=>match us,hl with | [_,_],_=>rfl
 have qD:Mk K aP jO:=⟨Mj,dR,rZ,Mz⟩
 have zU:=fun_mk (st:=g_) tR uo tX
 have uw:=zU.binds (ps:=["self","stand","budget"]) fun _ _ _ _ _ _ us hl=>match us,hl with | [_,_,_],_=>rfl
 have Tg:Mk K aM lB:=⟨Rt,jh,t_,RL⟩
 have Fy:=fun_mk (st:=j4) wG wJ rJ
 have j8:=Fy.binds (ps:=["self"]) fun _ _ _ _ _ _ us hl=>match us,hl with | [_],_=>rfl
 have j9:Meth K aM "at_end" oK:=⟨gF,wH,rJ⟩
 have Qk:=fun_mk (st:=qI) DN Eo xg
 have nY:=Qk.binds (ps:=["self"]) fun _ _ _ _ _ _ us hl=>match us,hl with | [_],_=>rfl
 have ou:Meth K aM "top" ud:=⟨jr,DQ,xg⟩
 have Jq:=fun_mk (st:=lZ) yJ za tW
 have mR:=Jq.binds (ps:=["self"]) fun _ _ _ _ _ _ us hl=>match us,hl with | [_],_=>rfl
 have mV:Meth K aM "tally" qp:=⟨ig,yK,tW⟩
 have Kz:=fun_mk (st:=oW) Ai Az vC
 have Bc:=Kz.binds (ps:=["self"]) fun _ _ _ _ _ _ us hl=>match us,hl with | [_],_=>rfl
 have Bl:Meth K aM "step" rD:=⟨o8,Ak,vC⟩
 have KC:=fun_mk (st:=oX) Aj A_ vD
 have Bd:=KC.binds (ps:=["self","step","going","word"]) fun _ _ _ _ _ _ us hl=>match us,hl with | [_,_,_,_],_=>rfl
 have Bm:Meth K aM "move" rE:=⟨o9,Al,vD⟩
 have sV:=PySem.W.mg_of X G HW
 have qL:=PySem.W.mg_of X G Eb
 have yI:=PySem.W.mg_of X G yL
 have mF:=PySem.W.mg_of X G yM
 have Hu:=PySem.W.mg_of X G HN
 have WX:=PySem.W.mg_of X G Xq
 have WQ:=PySem.W.mg_of X G Xk
 have RB:=PySem.W.mg_of X G R4
 have WR:=PySem.W.mg_of X G Xm
 have WM:=PySem.W.mg_of X G Xj
 have Mr:=PySem.W.mg_of X G Nf
 have Cg:=PySem.W.mg_of X G Xl
 have Ms:=PySem.W.mg_of X G Nh
 have Rz:=PySem.W.mg_of X G R3
 have Q9:=fun H=>Qw.sq (H:=H) RG
 have Ry:=PySem.W.mg_of X G R0
 have Q8:=fun H=>Qo.sq (H:=H) JQ
 have Qv:∃ ob,K.lookup qN=some ob∧ob.cls=.type "tuple"∧ob.dict=none:=⟨_,JQ,Qp⟩
 have qK:=PySem.W.mg_of X G D_
 have oJ:=PySem.W.mg_of X G Xo
 have gA:=PySem.W.mg_of X G RZ
 have JN:=PySem.W.mg_of X G abH
 have WT:=PySem.W.mg_of X G Xn
 have j6:=PySem.W.mg_of X G wI
 have Hv:=PySem.W.mg_of X G HS
 have DG:=PySem.W.mg_of X G Ea
 have uL:=PySem.W.mg_of X G uQ
 have Mq:=PySem.W.mg_of X G Nb
 have p8:=fun H=>KN.sq (H:=H) Mu
 have Ag:=PySem.W.mg_of X G Ao
 have Ah:=PySem.W.mg_of X G Aq
 have rP:=PySem.W.mg_of X G Ng
 have rB:=PySem.W.mg_of X G Xi
 have Mt:=PySem.W.mg_of X G Ni
 have Ld:=fun H=>KQ.sq (H:=H) Mv
 have WW:=PySem.W.mg_of X G Xp
 have G_:=fun H=>U8.sq (H:=H) W0
 have G_:∀ H,af2 K H wu xq:=fun H=>⟨_,G_ H,.cons ⟨bE0,rfl,tE0.sq lE0⟩ (.cons ⟨bE1,rfl,tE1.sq lE1⟩ (.cons ⟨bE2,rfl,tE2.sq lE2⟩ (.cons ⟨bE3,rfl,tE3.sq lE3⟩ (.cons ⟨bE4,rfl,tE4.sq lE4⟩ (.cons ⟨bE5,rfl,tE5.sq lE5⟩ (.cons ⟨bE6,rfl,tE6.sq lE6⟩ (.cons ⟨bE7,rfl,tE7.sq lE7⟩ (.cons ⟨bE8,rfl,tE8.sq lE8⟩ (.cons ⟨bE9,rfl,tE9.sq lE9⟩ (.cons ⟨afH,rfl,aez.sq afd⟩ (.cons ⟨afG,rfl,aey.sq afc⟩ (.cons ⟨afF,rfl,aex.sq afb⟩ (.cons ⟨afE,rfl,aew.sq afa⟩ (.cons ⟨afD,rfl,aev.sq ae_⟩ (.nil)))))))))))))))⟩
 refine⟨PySem.W.fnOf "law" "law" (defArgs vB) (defBody vB) (defScope vB) .none aiD aiU ahY ajH afz aiV,fun s v=>.of_eq rfl,fun base _ _=>?_⟩
 have O1:=ae0 (P:=l.prog) (w:=w) (mg:=mg) (base:=base) F1
 have O2:=agC (P:=l.prog) (w:=w) (mg:=mg) (base:=base) F2
 have O3:=aeY (P:=l.prog) (w:=w) (mg:=mg) (base:=base) F3
 have O6:=aie (P:=l.prog) (w:=w) (mg:=mg) (base:=base) F6
 have O7:=aeX (P:=l.prog) (w:=w) (mg:=mg) (base:=base) F7
 have O8:=agF (P:=l.prog) (w:=w) (mg:=mg) (base:=base) oJ k_ F8
 have O9:=agD (P:=l.prog) (w:=w) (mg:=mg) (base:=base) gA eX F9
 have O19:=ae1 (P:=l.prog) (w:=w) (mg:=mg) (base:=base) F19
 have O20:=YQ (P:=l.prog) (w:=w) (mg:=mg) (base:=base) O oJ k_ sV mX qL kZ gA eX yI pZ mF iZ qK kY Hu vU F20
 have O21:=agG (P:=l.prog) (w:=w) (mg:=mg) (base:=base) JM rP nA rB oF F21
 have O22:=ae2 (P:=l.prog) (w:=w) (mg:=mg) (base:=base) cW JL F22
 have O33:=V9 (P:=l.prog) (w:=w) (mg:=mg) (base:=base) O cI j7 F33
 have O41:=Wc (P:=l.prog) (w:=w) (mg:=mg) (base:=base) gj F41
 have O43:=Rn (P:=l.prog) (w:=w) (mg:=mg) (base:=base) F43
 have O48:=YX (P:=l.prog) (w:=w) (mg:=mg) (base:=base) F48
 have Ji:=FQ (P:=l.prog) (w:=w) (mg:=mg) (base:=base) O wB
 have N8:=J7 (P:=l.prog) (w:=w) (mg:=mg) (base:=base) O zB
 have zR:=Lx (P:=l.prog) (w:=w) (mg:=mg) (base:=base) O zV
 have zy:=J8 (P:=l.prog) (w:=w) (mg:=mg) (base:=base) O zE
 have Fx:=Ro (P:=l.prog) (w:=w) (mg:=mg) (base:=base) O Fy
 have PX:=Y0 (P:=l.prog) (w:=w) (mg:=mg) (base:=base) O Qk
 have Jh:=Uq (P:=l.prog) (w:=w) (mg:=mg) (base:=base) O cW Jq
 have O4:=aa5 (P:=l.prog) (w:=w) (mg:=mg) (base:=base) wZ gj qK kY F1 (O1.mono (by decide)) b1 m1 F4
 have O5:=aa8 (P:=l.prog) (w:=w) (mg:=mg) (base:=base) F2 (O2.mono (by decide)) b2 m2 F5
 have O10:=adf (P:=l.prog) (w:=w) (mg:=mg) (base:=base) cW Ry Q8 F7 (O7.mono (by decide)) b7 m7 Qv F10
 have O23:=ade (P:=l.prog) (w:=w) (mg:=mg) (base:=base) JL cW Mt Ld WW G_ F22 (O22.mono (by decide)) b22 m22 F23
 have O24:=YM (P:=l.prog) (w:=w) (mg:=mg) (base:=base) F6 (O6.mono (by decide)) b6 m6 F24
 have O30:=YT (P:=l.prog) (w:=w) (mg:=mg) (base:=base) O cI F1 (O1.mono (by decide)) b1 m1 fJ j7 F30
 have O34:=Ox (P:=l.prog) (w:=w) (mg:=mg) (base:=base) O cI F33 (O33.mono (by decide)) b33 m33 fJ F34
 have O35:=abb (P:=l.prog) (w:=w) (mg:=mg) (base:=base) O cI cW F33 (O33.mono (by decide)) b33 m33 fJ F35
 have O40:=Wd (P:=l.prog) (w:=w) (mg:=mg) (base:=base) gj gK wZ F40
 have O49:=Ul (P:=l.prog) (w:=w) (mg:=mg) (base:=base) F43 (O43.mono (by decide)) b43 m43 F49
 have O12:=aa7 (P:=l.prog) (w:=w) (mg:=mg) (base:=base) F6 (O6.mono (by decide)) b6 m6 F10 (O10.mono (by decide)) b10 m10 F12
 have O17:=Uj (P:=l.prog) (w:=w) (mg:=mg) (base:=base) gA eX j6 iB Ag q_ Ah rm F10 (O10.mono (by decide)) b10 m10 F8 (O8.mono (by decide)) b8 m8 F17
 have O18:=Lr (P:=l.prog) (w:=w) (mg:=mg) (base:=base) gA eX F10 (O10.mono (by decide)) b10 m10 F18
 have O26:=YS (P:=l.prog) (w:=w) (mg:=mg) (base:=base) F6 (O6.mono (by decide)) b6 m6 F10 (O10.mono (by decide)) b10 m10 F26
 have O32:=aeZ (P:=l.prog) (w:=w) (mg:=mg) (base:=base) O gj j7 N_ (N8.mono (by decide)) sG F32
 have O45:=YZ (P:=l.prog) (w:=w) (mg:=mg) (base:=base) gK wZ gj cW F41 (O41.mono (by decide)) b41 m41 F45
 have O50:=Oz (P:=l.prog) (w:=w) (mg:=mg) (base:=base) F43 (O43.mono (by decide)) b43 m43 F48 (O48.mono (by decide)) b48 m48 F50
 have Kq:=Hh (P:=l.prog) (w:=w) (mg:=mg) (base:=base) O F3 (O3.mono (by decide)) b3 m3 wR
 have P0:=Lw (P:=l.prog) (w:=w) (mg:=mg) (base:=base) O nH Wz Mr yw sU vY qD (zy.mono (by decide)) fM sY (zR.mono (by decide)) gw zU
 have O16:=aa9 (P:=l.prog) (w:=w) (mg:=mg) (base:=base) JN zK WT GX oJ k_ j6 iB Hv vV DG tH uL mj Mq p8 F10 (O10.mono (by decide)) b10 m10 F8 (O8.mono (by decide)) b8 m8 F16
 have O25:=V_ (P:=l.prog) (w:=w) (mg:=mg) (base:=base) F10 (O10.mono (by decide)) b10 m10 F26 (O26.mono (by decide)) b26 m26 F25
 have O31:=aa6 (P:=l.prog) (w:=w) (mg:=mg) (base:=base) O cI F32 (O32.mono (by decide)) b32 m32 fJ j7 F31
 have PN:=Ls (P:=l.prog) (w:=w) (mg:=mg) (base:=base) O oJ k_ gA eX F4 (O4.mono (by decide)) b4 m4 F5 (O5.mono (by decide)) b5 m5 F1 (O1.mono (by decide)) b1 m1 F2 (O2.mono (by decide)) b2 m2 vY sY (zR.mono (by decide)) gw zT
 have O42:=ae3 (P:=l.prog) (w:=w) (mg:=mg) (base:=base) cW gK F41 (O41.mono (by decide)) b41 m41 F42 b42 m42 3
 have O15:=aa_ (P:=l.prog) (w:=w) (mg:=mg) (base:=base) gK nH gA eX F8 (O8.mono (by decide)) b8 m8 F17 (O17.mono (by decide)) b17 m17 F18 (O18.mono (by decide)) b18 m18 F16 (O16.mono (by decide)) b16 m16 F10 (O10.mono (by decide)) b10 m10 F15
 have O14:=aa4 (P:=l.prog) (w:=w) (mg:=mg) (base:=base) F10 (O10.mono (by decide)) b10 m10 F15 (O15.mono (by decide)) b15 m15 F8 (O8.mono (by decide)) b8 m8 F14
 have O39:=agB (P:=l.prog) (w:=w) (mg:=mg) (base:=base) O JN zK WX GZ rB oF WQ GQ RB BL WR GR WM GK F31 (O31.mono (by decide)) b31 m31 F30 (O30.mono (by decide)) b30 m30 fJ Fe (Ji.mono (by decide)) qz F39
 have Te:=OD (P:=l.prog) (w:=w) (mg:=mg) (base:=base) O gj WK Tf (PN.mono (by decide)) ur CJ
 have O13:=Wb (P:=l.prog) (w:=w) (mg:=mg) (base:=base) F9 (O9.mono (by decide)) b9 m9 F14 (O14.mono (by decide)) b14 m14 F10 (O10.mono (by decide)) b10 m10 F13
 have Zq:=Wg (P:=l.prog) (w:=w) (mg:=mg) (base:=base) O Cg vR mF iZ Ms yx qL kZ sV mX F39 (O39.mono (by decide)) b39 m39 sU qT (Kq.mono (by decide)) qR qD (zy.mono (by decide)) fM KC
 have O11:=Uk (P:=l.prog) (w:=w) (mg:=mg) (base:=base) F12 (O12.mono (by decide)) b12 m12 F13 (O13.mono (by decide)) b13 m13 F11
 have Zo:=Wf (P:=l.prog) (w:=w) (mg:=mg) (base:=base) O gj Cg vR rB oF rP nA Rz Q9 F20 (O20.mono (by decide)) b20 m20 F34 (O34.mono (by decide)) b34 m34 vo (Te.mono (by decide)) uZ ou (PX.mono (by decide)) nY Bm (Zq.mono (by decide)) Bd Kz
 have O29:=YW (P:=l.prog) (w:=w) (mg:=mg) (base:=base) F10 (O10.mono (by decide)) b10 m10 F11 (O11.mono (by decide)) b11 m11 F29
 have O38:=adb (P:=l.prog) (w:=w) (mg:=mg) (base:=base) O WL Tg (P0.mono (by decide)) uw Bl (Zo.mono (by decide)) Bc j9 (Fx.mono (by decide)) j8 F38
 have O28:=Wa (P:=l.prog) (w:=w) (mg:=mg) (base:=base) F6 (O6.mono (by decide)) b6 m6 F29 (O29.mono (by decide)) b29 m29 F25 (O25.mono (by decide)) b25 m25 F28
 have O36:=aic (P:=l.prog) (w:=w) (mg:=mg) (base:=base) O F38 (O38.mono (by decide)) b38 m38 F19 (O19.mono (by decide)) b19 m19 F21 (O21.mono (by decide)) b21 m21 F35 (O35.mono (by decide)) b35 m35 mV (Jh.mono (by decide)) mR j9 (Fx.mono (by decide)) j8 ou (PX.mono (by decide)) nY F36
 have O37:=YL (P:=l.prog) (w:=w) (mg:=mg) (base:=base) O F38 (O38.mono (by decide)) b38 m38 F19 (O19.mono (by decide)) b19 m19 mV (Jh.mono (by decide)) mR F37
 have O27:=agE (P:=l.prog) (w:=w) (mg:=mg) (base:=base) F24 (O24.mono (by decide)) b24 m24 F28 (O28.mono (by decide)) b28 m28 F27
 have O44:=(adg (P:=l.prog) (w:=w) (mg:=mg) (base:=base) gK cW F41 (O41.mono (by decide)) b41 m41 F42 (O42.mono (by decide)) b42 m42 F43 (O43.mono (by decide)) b43 m43 F45 (O45.mono (by decide)) b45 m45 F44 b44 m44 F46 b46 m46 3 (by decide)).1
 have O46:=(adg (P:=l.prog) (w:=w) (mg:=mg) (base:=base) gK cW F41 (O41.mono (by decide)) b41 m41 F42 (O42.mono (by decide)) b42 m42 F43 (O43.mono (by decide)) b43 m43 F45 (O45.mono (by decide)) b45 m45 F44 b44 m44 F46 b46 m46 3 (by decide)).2
 have O51:=Um (P:=l.prog) (w:=w) (mg:=mg) (base:=base) abm F46 (O46.mono (by decide)) b46 m46 F49 (O49.mono (by decide)) b49 m49 F48 (O48.mono (by decide)) b48 m48 F50 (O50.mono (by decide)) b50 m50 F43 (O43.mono (by decide)) b43 m43 F51
 have O47:=adh (P:=l.prog) (w:=w) (mg:=mg) (base:=base) JM F47 b47 m47 100
 have O52:=Uo (P:=l.prog) (w:=w) (mg:=mg) (base:=base) F36 (O36.mono (by decide)) b36 m36 F21 (O21.mono (by decide)) b21 m21 F23 (O23.mono (by decide)) b23 m23 F37 (O37.mono (by decide)) b37 m37 F47 (O47.mono (by decide)) b47 m47 F52
 exact ok_law (P:=l.prog) (w:=w) (mg:=mg) (base:=base) F40 (O40.mono (by decide)) b40 m40 F41 (O41.mono (by decide)) b41 m41 F51 (O51.mono (by decide)) b51 m51 F45 (O45.mono (by decide)) b45 m45 F27 (O27.mono (by decide)) b27 m27 F36 (O36.mono (by decide)) b36 m36 F47 (O47.mono (by decide)) b47 m47 F52 (O52.mono (by decide)) b52 m52 F42 (O42.mono (by decide)) b42 m42 F53
theorem walk {l:PySem.W.OpenLaw}{q:Program}{loose:List Str}{XP:(Str→Option Value)→Heap→Prop}{YP:World→Heap→Prop}{d:DefRec}{K:Params→PySem.W.Frag} (hn:l.most=some 63) (hdf:d.params.defaults=[])
  (hY:∀ (w:World) (h:Heap),YP w h→(K w.params).In h)
  (F:∀ (w:World) (mg:Str→Option Value) (fa:Addr) (h:Heap),(K w.params).In h→h.Ns mainGlobals mg→mg d.name=some (.ref fa) →
   ∃ fd:FuncData,(∀ (s:Shared) (u:Value),BindsTo s fd ⟨[u],[]⟩ [("_law_script",u)])∧∀ base:Heap,(K w.params).In base→base.Ns mainGlobals mg→FnOk l.prog w (K w.params) mg base CX0 140 fa fd ["_law_script"] (spLaw (K w.params))) :
  PySem.W.WalkO q loose XP YP l.row.toRowW d [] (fun f vs=>PySem.call f vs) :=
 L2.walk_of (n:=63) (k:=140) (x:="_law_script") (CX:=fun _=>CX0) (sp:=fun w=>spLaw (K w.params)) hn (by decide) hdf ⟨rfl,by decide,by decide⟩ hY F (fun _ _ a ns hl _ hS=>⟨a,ns,rfl,hS,hl,fun _=>rfl⟩) fun _ _ _ _ _ z=>z
theorem aen {q:Program}{loose:List Str}{XP:(Str→Option Value)→Heap→Prop}{K:Params→PySem.W.Frag}{n t:Nat}{ad:List Addr}{r:PySem.W.RowW}{d:DefRec}{kwd:List (Str×Expr)}{run:Value→List Value→Sem Value}
  (h:PySem.W.WalkO q loose XP (fun w hp=>(K w.params).In hp) r d kwd run)
  (hI:∀ (w:World) (s₀ s₁:Shared) (args:List PySem.W.WData) (vals:List Value) (as:List Addr),PySem.W.X.obsZ ad s₀=PySem.W.X.valZ K n t w→PySem.W.Laid r.records w s₀ s₁ args vals as→(K w.params).In s₁.heap) :
  PySem.W.WalkX q loose XP (PySem.W.X.obsZ ad) (PySem.W.X.valZ K n t) r d kwd run :=
 fun w s₀ s₁ mg mb G y a o pm cd doc dV kV ho hd hcd hD hmg hg args vals as L hpre hlay hrd hwl hlo=>h w s₀ s₁ mg mb G (hI w s₀ s₁ args vals as y L) a o pm cd doc dV kV ho hd hcd hD hmg hg args vals as hpre hlay hrd hwl hlo
end fY
def PySem.W.Fast.tw1605847150136099894:Nat:=0
def PySem.W.Fast.tw9586846955028809067:Nat:=0
def PySem.W.Fast.tw15638316062257837238:Nat:=0
def PySem.W.Fast.tw12070687693730324531:Nat:=0
def PySem.W.Fast.tw9083438315749375924:Nat:=0
def PySem.W.Fast.tw13678347602544349257:Nat:=0
def PySem.W.Fast.tw12677798726817141187:Nat:=0
def PySem.W.Fast.tw6242542069977460037:Nat:=0
def PySem.W.Fast.tw2853272953089216429:Nat:=0
def PySem.W.Fast.tw11083341255025142348:Nat:=0
def PySem.W.Fast.tw12307473067914967067:Nat:=0
def PySem.W.Fast.tw6490045745533817873:Nat:=0
def PySem.W.Fast.tw12614559581392629490:Nat:=0
def PySem.W.Fast.tw1017957613417976505:Nat:=0
def PySem.W.Fast.tw5700315671673349335:Nat:=0
def PySem.W.Fast.tw1205222686310010187:Nat:=0
def PySem.W.Fast.tw7111839549679451320:Nat:=0
def PySem.W.Fast.tw4803847873863189779:Nat:=0
def PySem.W.Fast.tw12244545464075687179:Nat:=0
def PySem.W.Fast.tw17543030335256051232:Nat:=0
def PySem.W.Fast.tw17929251190562091512:Nat:=0
def PySem.W.Fast.tw1434974700334821483:Nat:=0
def PySem.W.Fast.tw17176176728114459292:Nat:=0
def PySem.W.Fast.tw8498081558049791932:Nat:=0
def PySem.W.Fast.tw17709039596824670265:Nat:=0
def PySem.W.Fast.tw10555071633546511880:Nat:=0
def PySem.W.Fast.tw8786620400332720168:Nat:=0
def PySem.W.Fast.tw8433157039502621184:Nat:=0
def PySem.W.Fast.tw16339089450982067247:Nat:=0
def PySem.W.Fast.tw17836908286113654805:Nat:=0
def PySem.W.Fast.tw1509021912072484084:Nat:=0
def PySem.W.Fast.tw9482145939973876382:Nat:=0
def PySem.W.Fast.tw7748123398821090972:Nat:=0
def PySem.W.Fast.tw3878711945120992690:Nat:=0
def PySem.W.Fast.tw14724177900747542393:Nat:=0
def PySem.W.Fast.tw6739841021624491272:Nat:=0
def PySem.W.Fast.tw11077410670685159106:Nat:=0
def PySem.W.Fast.tw1296249229855889069:Nat:=0
def PySem.W.Fast.tw3686638737368649340:Nat:=0
def PySem.W.Fast.tw17546193471559897639:Nat:=0
def PySem.W.Fast.tw5389588636989535470:Nat:=0
def PySem.W.Fast.tw9007569283601537686:Nat:=0
open PySem PySem.W PyProof.Rows
set_option maxRecDepth 100000 in
set_option maxHeartbeats 0 in
theorem PySem.Challenge.cw_selfword_k72_whole_a_knot_does_what_it_m_holds : PySem.Challenge.rw_selfword_k72_whole_a_knot_does_what_it_m.Holds := by
 w_on; o_law; z_head; (case hw=>w_witness2)
 k_fill
 refine fY.aen (fY.walk (l:=PySem.Challenge.rw_selfword_k72_whole_a_knot_does_what_it_m) rfl rfl (fun w h Y=>Y) ?F) ?I
 case I =>
  intro w s₀ s₁ args vals as y L
  z_open y L KX ZH ZN ZT
  exact KX
 case F =>
  intro w mg fa h KX G hmg
  refine' fY.all_mk KX G hmg ?a1 ?l1 ?c1 ?k1 ?a2 ?l2 ?c2 ?k2 ?a3 ?l3 ?c3 ?k3 ?a4 ?l4 ?c4 ?k4 ?a5 ?l5 ?c5 ?k5 ?a6 ?l6 ?c6 ?k6 ?a7 ?l7 ?c7 ?k7 ?a8 ?l8 ?c8 ?k8 ?a9 ?l9 ?c9 ?k9 ?a10 ?l10 ?c10 ?k10 ?a11 ?l11 ?c11 ?k11 ?a12 ?l12 ?c12 ?k12 ?a13 ?l13 ?c13 ?k13 ?a14 ?l14 ?c14 ?k14 ?a15 ?l15 ?c15 ?k15 ?a16 ?l16 ?c16 ?k16 ?a17 ?l17 ?c17 ?k17 ?a18 ?l18 ?c18 ?k18 ?a19 ?l19 ?c19 ?k19 ?a20 ?l20 ?c20 ?k20 ?a21 ?l21 ?c21 ?k21 ?a22 ?l22 ?c22 ?k22 ?a23 ?l23 ?c23 ?k23 ?a24 ?l24 ?c24 ?k24 ?a25 ?l25 ?c25 ?k25 ?a26 ?l26 ?c26 ?k26 ?a27 ?l27 ?c27 ?k27 ?a28 ?l28 ?c28 ?k28 ?a29 ?l29 ?c29 ?k29 ?a30 ?l30 ?c30 ?k30 ?a31 ?l31 ?c31 ?k31 ?a32 ?l32 ?c32 ?k32 ?a33 ?l33 ?c33 ?k33 ?a34 ?l34 ?c34 ?k34 ?a35 ?l35 ?c35 ?k35 ?a36 ?l36 ?c36 ?k36 ?a37 ?l37 ?c37 ?k37 ?a38 ?l38 ?c38 ?k38 ?a39 ?l39 ?c39 ?k39 ?a40 ?l40 ?c40 ?k40 ?a41 ?l41 ?c41 ?k41 ?a42 ?l42 ?c42 ?k42 ?a43 ?l43 ?c43 ?k43 ?a44 ?l44 ?c44 ?k44 ?a45 ?l45 ?c45 ?k45 ?a46 ?l46 ?c46 ?k46 ?a47 ?l47 ?c47 ?k47 ?a48 ?l48 ?c48 ?k48 ?a49 ?l49 ?c49 ?k49 ?a50 ?l50 ?c50 ?k50 ?a51 ?l51 ?c51 ?k51 ?a52 ?l52 ?c52 ?k52 ?a53 ?l53 ?c53 ?k53 ?E_ ?Dl ?DW ?Dk ?Dg ?Dw ?DP ?uK ?rO ?N5 ?Lk ?M4 ?Le ?La ?Mi ?Mx ?yG ?wD ?S_ ?Rf ?RQ ?Q_ ?Q0 ?Rr ?RK ?Ab ?Aa ?Dv ?Hq ?Ac ?z_ ?Td ?Rh ?RW ?Rb ?Q6 ?Ru ?RM ?Ae ?yF ?N6 ?Ln ?M5 ?Lf ?Lb ?Mj ?Mz ?yH ?wF ?Tc ?Rg ?RT ?Ra ?Q5 ?Rt ?RL ?wC ?yE ?uJ ?Ad ?DX ?Dq ?C_ ?Df ?En ?M_ ?L_ ?KD ?K_ ?Ny ?cn ?ct ?iTF ?iTL ?iFF ?iLF ?iLL ?gO ?qm ?qj ?qx ?ql ?iM ?rY ?rQ ?sy ?rT ?jg ?tZ ?tQ ?um ?tV ?iy ?qP ?qO ?qQ ?lW ?eU ?uc ?tU ?uq ?tY ?jE ?uP ?uN ?uX ?qM ?dR ?rZ ?rR ?sE ?rW ?jh ?t_ ?tR ?uo ?tX ?gF ?wH ?wG ?wJ ?rJ ?jr ?DQ ?DN ?Eo ?xg ?ig ?yK ?yJ ?za ?tW ?o8 ?Ak ?Ai ?Az ?vC ?o9 ?Al ?Aj ?A_ ?vD ?HW ?mX ?Eb ?kZ ?yL ?pZ ?yM ?iZ ?HN ?vU ?Xq ?GZ ?Xk ?GQ ?R4 ?BL ?Xm ?GR ?Xj ?GK ?Nf ?yw ?Xl ?vR ?Nh ?yx ?R3 ?RG ?Qw ?R0 ?JQ ?Qo ?Qp ?D_ ?kY ?Xo ?k_ ?RZ ?eX ?abH ?zK ?Xn ?GX ?wI ?iB ?HS ?vV ?Ea ?tH ?uQ ?mj ?Nb ?Mu ?KN ?Ao ?q_ ?Aq ?rm ?Ng ?nA ?Xi ?oF ?Ni ?Mv ?KQ ?Xp ?W0 ?U8 ?lE0 ?tE0 ?lE1 ?tE1 ?lE2 ?tE2 ?lE3 ?tE3 ?lE4 ?tE4 ?lE5 ?tE5 ?lE6 ?tE6 ?lE7 ?tE7 ?lE8 ?tE8 ?lE9 ?tE9 ?afd ?aez ?afc ?aey ?afb ?aex ?afa ?aew ?ae_ ?aev ?aaE ?aaF ?Qm ?CN ?Qn ?aaD ?aaC ?xV ?aaG ?U4
  (case a1=>k_is); (case l1=>k_is); (case c1=>k_is); (case k1=>k_is)
  (case a2=>k_is); (case l2=>k_is); (case c2=>k_is); (case k2=>k_is)
  (case a3=>k_is); (case l3=>k_is); (case c3=>k_is); (case k3=>k_is)
  (case a4=>k_is); (case l4=>k_is); (case c4=>k_is); (case k4=>k_is)
  (case a5=>k_is); (case l5=>k_is); (case c5=>k_is); (case k5=>k_is)
  (case a6=>k_is); (case l6=>k_is); (case c6=>k_is); (case k6=>k_is)
  (case a7=>k_is); (case l7=>k_is); (case c7=>k_is); (case k7=>k_is)
  (case a8=>k_is); (case l8=>k_is); (case c8=>k_is); (case k8=>k_is)
  (case a9=>k_is); (case l9=>k_is); (case c9=>k_is); (case k9=>k_is)
  (case a10=>k_is); (case l10=>k_is); (case c10=>k_is); (case k10=>k_is)
  (case a11=>k_is); (case l11=>k_is); (case c11=>k_is); (case k11=>k_is)
  (case a12=>k_is); (case l12=>k_is); (case c12=>k_is); (case k12=>k_is)
  (case a13=>k_is); (case l13=>k_is); (case c13=>k_is); (case k13=>k_is)
  (case a14=>k_is); (case l14=>k_is); (case c14=>k_is); (case k14=>k_is)
  (case a15=>k_is); (case l15=>k_is); (case c15=>k_is); (case k15=>k_is)
  (case a16=>k_is); (case l16=>k_is); (case c16=>k_is); (case k16=>k_is)
  (case a17=>k_is); (case l17=>k_is); (case c17=>k_is); (case k17=>k_is)
  (case a18=>k_is); (case l18=>k_is); (case c18=>k_is); (case k18=>k_is)
  (case a19=>k_is); (case l19=>k_is); (case c19=>k_is); (case k19=>k_is)
  (case a20=>k_is); (case l20=>k_is); (case c20=>k_is); (case k20=>k_is)
  (case a21=>k_is); (case l21=>k_is); (case c21=>k_is); (case k21=>k_is)
  (case a22=>k_is); (case l22=>k_is); (case c22=>k_is); (case k22=>k_is)
  (case a23=>k_is); (case l23=>k_is); (case c23=>k_is); (case k23=>k_is)
  (case a24=>k_is); (case l24=>k_is); (case c24=>k_is); (case k24=>k_is)
  (case a25=>k_is); (case l25=>k_is); (case c25=>k_is); (case k25=>k_is)
  (case a26=>k_is); (case l26=>k_is); (case c26=>k_is); (case k26=>k_is)
  (case a27=>k_is); (case l27=>k_is); (case c27=>k_is); (case k27=>k_is)
  (case a28=>k_is); (case l28=>k_is); (case c28=>k_is); (case k28=>k_is)
  (case a29=>k_is); (case l29=>k_is); (case c29=>k_is); (case k29=>k_is)
  (case a30=>k_is); (case l30=>k_is); (case c30=>k_is); (case k30=>k_is)
  (case a31=>k_is); (case l31=>k_is); (case c31=>k_is); (case k31=>k_is)
  (case a32=>k_is); (case l32=>k_is); (case c32=>k_is); (case k32=>k_is)
  (case a33=>k_is); (case l33=>k_is); (case c33=>k_is); (case k33=>k_is)
  (case a34=>k_is); (case l34=>k_is); (case c34=>k_is); (case k34=>k_is)
  (case a35=>k_is); (case l35=>k_is); (case c35=>k_is); (case k35=>k_is)
  (case a36=>k_is); (case l36=>k_is); (case c36=>k_is); (case k36=>k_is)
  (case a37=>k_is); (case l37=>k_is); (case c37=>k_is); (case k37=>k_is)
  (case a38=>k_is); (case l38=>k_is); (case c38=>k_is); (case k38=>k_is)
  (case a39=>k_is); (case l39=>k_is); (case c39=>k_is); (case k39=>k_is)
  (case a40=>k_is); (case l40=>k_is); (case c40=>k_is); (case k40=>k_is)
  (case a41=>k_is); (case l41=>k_is); (case c41=>k_is); (case k41=>k_is)
  (case a42=>k_is); (case l42=>k_is); (case c42=>k_is); (case k42=>k_is)
  (case a43=>k_is); (case l43=>k_is); (case c43=>k_is); (case k43=>k_is)
  (case a44=>k_is); (case l44=>k_is); (case c44=>k_is); (case k44=>k_is)
  (case a45=>k_is); (case l45=>k_is); (case c45=>k_is); (case k45=>k_is)
  (case a46=>k_is); (case l46=>k_is); (case c46=>k_is); (case k46=>k_is)
  (case a47=>k_is); (case l47=>k_is); (case c47=>k_is); (case k47=>k_is)
  (case a48=>k_is); (case l48=>k_is); (case c48=>k_is); (case k48=>k_is)
  (case a49=>k_is); (case l49=>k_is); (case c49=>k_is); (case k49=>k_is)
  (case a50=>k_is); (case l50=>k_is); (case c50=>k_is); (case k50=>k_is)
  (case a51=>k_is); (case l51=>k_is); (case c51=>k_is); (case k51=>k_is)
  (case a52=>k_is); (case l52=>k_is); (case c52=>k_is); (case k52=>k_is)
  (case a53=>k_is); (case l53=>k_is); (case c53=>k_is); (case k53=>k_is)
  (case E_=>k_is)
  (case Dl=>k_is)
  (case DW=>k_is)
  (case Dk=>k_is)
  (case Dg=>k_is)
  (case Dw=>k_is)
  (case DP=>k_is)
  (case uK=>k_is)
  (case rO=>k_is)
  (case N5=>k_is)
  (case Lk=>k_is)
  (case M4=>k_is)
  (case Le=>k_is)
  (case La=>k_is)
  (case Mi=>k_is)
  (case Mx=>k_is)
  (case yG=>k_is)
  (case wD=>k_is)
  (case S_=>k_is)
  (case Rf=>k_is)
  (case RQ=>k_is)
  (case Q_=>k_is)
  (case Q0=>k_is)
  (case Rr=>k_is)
  (case RK=>k_is)
  (case Ab=>k_is)
  (case Aa=>k_is)
  (case Dv=>k_is)
  (case Hq=>k_is)
  (case Ac=>k_is)
  (case z_=>k_is)
  (case Td=>k_is)
  (case Rh=>k_is)
  (case RW=>k_is)
  (case Rb=>k_is)
  (case Q6=>k_is)
  (case Ru=>k_is)
  (case RM=>k_is)
  (case Ae=>k_is)
  (case yF=>k_is)
  (case N6=>k_is)
  (case Ln=>k_is)
  (case M5=>k_is)
  (case Lf=>k_is)
  (case Lb=>k_is)
  (case Mj=>k_is)
  (case Mz=>k_is)
  (case yH=>k_is)
  (case wF=>k_is)
  (case Tc=>k_is)
  (case Rg=>k_is)
  (case RT=>k_is)
  (case Ra=>k_is)
  (case Q5=>k_is)
  (case Rt=>k_is)
  (case RL=>k_is)
  (case wC=>k_is)
  (case yE=>k_is)
  (case uJ=>k_is)
  (case Ad=>k_is)
  (case DX=>k_is)
  (case Dq=>k_is)
  (case C_=>k_is)
  (case Df=>k_is)
  (case En=>k_is)
  (case M_=>k_is)
  (case L_=>k_is)
  (case KD=>k_is)
  (case K_=>k_is)
  (case Ny=>k_is)
  (case cn=>k_is)
  (case ct=>k_is)
  (case iTF=>kit_is)
  (case iTL=>kit_is)
  (case iFF=>kit_is)
  (case iLF=>kit_is)
  (case iLL=>kit_is)
  (case gO=>k_is)
  (case qm=>k_is)
  (case qj=>k_is)
  (case qx=>k_is)
  (case ql=>k_is)
  (case iM=>k_is)
  (case rY=>k_is)
  (case rQ=>k_is)
  (case sy=>k_is)
  (case rT=>k_is)
  (case jg=>k_is)
  (case tZ=>k_is)
  (case tQ=>k_is)
  (case um=>k_is)
  (case tV=>k_is)
  (case iy=>k_is)
  (case qP=>k_is)
  (case qO=>k_is)
  (case qQ=>k_is)
  (case lW=>k_is)
  (case eU=>k_is)
  (case uc=>k_is)
  (case tU=>k_is)
  (case uq=>k_is)
  (case tY=>k_is)
  (case jE=>k_is)
  (case uP=>k_is)
  (case uN=>k_is)
  (case uX=>k_is)
  (case qM=>k_is)
  (case dR=>k_is)
  (case rZ=>k_is)
  (case rR=>k_is)
  (case sE=>k_is)
  (case rW=>k_is)
  (case jh=>k_is)
  (case t_=>k_is)
  (case tR=>k_is)
  (case uo=>k_is)
  (case tX=>k_is)
  (case gF=>k_is)
  (case wH=>k_is)
  (case wG=>k_is)
  (case wJ=>k_is)
  (case rJ=>k_is)
  (case jr=>k_is)
  (case DQ=>k_is)
  (case DN=>k_is)
  (case Eo=>k_is)
  (case xg=>k_is)
  (case ig=>k_is)
  (case yK=>k_is)
  (case yJ=>k_is)
  (case za=>k_is)
  (case tW=>k_is)
  (case o8=>k_is)
  (case Ak=>k_is)
  (case Ai=>k_is)
  (case Az=>k_is)
  (case vC=>k_is)
  (case o9=>k_is)
  (case Al=>k_is)
  (case Aj=>k_is)
  (case A_=>k_is)
  (case vD=>k_is)
  (case HW=>k_is)
  (case mX=>exact⟨_,rfl⟩)
  (case Eb=>k_is)
  (case kZ=>exact⟨_,rfl⟩)
  (case yL=>k_is)
  (case pZ=>exact⟨_,rfl⟩)
  (case yM=>k_is)
  (case iZ=>exact⟨_,rfl⟩)
  (case HN=>k_is)
  (case vU=>exact⟨_,rfl⟩)
  (case Xq=>k_is)
  (case GZ=>exact⟨_,rfl⟩)
  (case Xk=>k_is)
  (case GQ=>exact⟨_,rfl⟩)
  (case R4=>k_is)
  (case BL=>exact⟨_,rfl⟩)
  (case Xm=>k_is)
  (case GR=>exact⟨_,rfl⟩)
  (case Xj=>k_is)
  (case GK=>exact⟨_,rfl⟩)
  (case Nf=>k_is)
  (case yw=>exact⟨_,rfl⟩)
  (case Xl=>k_is)
  (case vR=>exact⟨_,rfl⟩)
  (case Nh=>k_is)
  (case yx=>exact⟨_,rfl⟩)
  (case R3=>k_is)
  (case RG=>k_is)
  (case Qw=>exact⟨_,_,rfl,rfl,by decide,by repeat (first | exact .nil | refine .cons ⟨_,rfl⟩ ?_)⟩)
  (case R0=>k_is)
  (case JQ=>k_is)
  (case Qo=>exact⟨_,_,rfl,rfl,by decide,by repeat (first | exact .nil | refine .cons ⟨_,rfl⟩ ?_)⟩)
  (case Qp=>exact⟨rfl,rfl⟩)
  (case D_=>k_is)
  (case kY=>exact⟨_,rfl⟩)
  (case Xo=>k_is)
  (case k_=>exact⟨_,rfl⟩)
  (case RZ=>k_is)
  (case eX=>exact⟨_,rfl⟩)
  (case abH=>k_is)
  (case zK=>exact⟨_,rfl⟩)
  (case Xn=>k_is)
  (case GX=>exact⟨_,rfl⟩)
  (case wI=>k_is)
  (case iB=>exact⟨_,rfl⟩)
  (case HS=>k_is)
  (case vV=>exact⟨_,rfl⟩)
  (case Ea=>k_is)
  (case tH=>exact⟨_,rfl⟩)
  (case uQ=>k_is)
  (case mj=>exact⟨_,rfl⟩)
  (case Nb=>k_is)
  (case Mu=>k_is)
  (case KN=>exact⟨_,_,rfl,rfl,by decide,by repeat (first | exact .nil | refine .cons ⟨_,rfl⟩ ?_)⟩)
  (case Ao=>k_is)
  (case q_=>exact⟨_,rfl⟩)
  (case Aq=>k_is)
  (case rm=>exact⟨_,rfl⟩)
  (case Ng=>k_is)
  (case nA=>exact⟨_,rfl⟩)
  (case Xi=>k_is)
  (case oF=>exact⟨_,rfl⟩)
  (case Ni=>k_is)
  (case Mv=>k_is)
  (case KQ=>exact⟨_,_,rfl,rfl,by decide,by repeat (first | exact .nil | refine .cons ⟨_,rfl⟩ ?_)⟩)
  (case Xp=>k_is)
  (case W0=>k_is)
  (case U8=>exact⟨_,_,rfl,rfl,by decide,by repeat (first | exact .nil | refine .cons rfl ?_)⟩)
  (case lE0=>k_is)
  (case tE0=>exact⟨_,_,rfl,rfl,by decide,by repeat (first | exact .nil | refine .cons ⟨_,rfl⟩ ?_)⟩)
  (case lE1=>k_is)
  (case tE1=>exact⟨_,_,rfl,rfl,by decide,by repeat (first | exact .nil | refine .cons ⟨_,rfl⟩ ?_)⟩)
  (case lE2=>k_is)
  (case tE2=>exact⟨_,_,rfl,rfl,by decide,by repeat (first | exact .nil | refine .cons ⟨_,rfl⟩ ?_)⟩)
  (case lE3=>k_is)
  (case tE3=>exact⟨_,_,rfl,rfl,by decide,by repeat (first | exact .nil | refine .cons ⟨_,rfl⟩ ?_)⟩)
  (case lE4=>k_is)
  (case tE4=>exact⟨_,_,rfl,rfl,by decide,by repeat (first | exact .nil | refine .cons ⟨_,rfl⟩ ?_)⟩)
  (case lE5=>k_is)
  (case tE5=>exact⟨_,_,rfl,rfl,by decide,by repeat (first | exact .nil | refine .cons ⟨_,rfl⟩ ?_)⟩)
  (case lE6=>k_is)
  (case tE6=>exact⟨_,_,rfl,rfl,by decide,by repeat (first | exact .nil | refine .cons ⟨_,rfl⟩ ?_)⟩)
  (case lE7=>k_is)
  (case tE7=>exact⟨_,_,rfl,rfl,by decide,by repeat (first | exact .nil | refine .cons ⟨_,rfl⟩ ?_)⟩)
  (case lE8=>k_is)
  (case tE8=>exact⟨_,_,rfl,rfl,by decide,by repeat (first | exact .nil | refine .cons ⟨_,rfl⟩ ?_)⟩)
  (case lE9=>k_is)
  (case tE9=>exact⟨_,_,rfl,rfl,by decide,by repeat (first | exact .nil | refine .cons ⟨_,rfl⟩ ?_)⟩)
  (case afd=>k_is)
  (case aez=>exact⟨_,_,rfl,rfl,by decide,by repeat (first | exact .nil | refine .cons ⟨_,rfl⟩ ?_)⟩)
  (case afc=>k_is)
  (case aey=>exact⟨_,_,rfl,rfl,by decide,by repeat (first | exact .nil | refine .cons ⟨_,rfl⟩ ?_)⟩)
  (case afb=>k_is)
  (case aex=>exact⟨_,_,rfl,rfl,by decide,by repeat (first | exact .nil | refine .cons ⟨_,rfl⟩ ?_)⟩)
  (case afa=>k_is)
  (case aew=>exact⟨_,_,rfl,rfl,by decide,by repeat (first | exact .nil | refine .cons ⟨_,rfl⟩ ?_)⟩)
  (case ae_=>k_is)
  (case aev=>exact⟨_,_,rfl,rfl,by decide,by repeat (first | exact .nil | refine .cons ⟨_,rfl⟩ ?_)⟩)
  (case aaE=>k_is)
  (case aaF=>k_is)
  (case Qm=>k_is)
  (case CN=>k_is)
  (case Qn=>k_is)
  (case aaD=>k_is)
  (case aaC=>k_is)
  (case xV=>k_is)
  (case aaG=>k_is)
  (case U4=>k_is)
#print axioms PySem.Challenge.cw_selfword_k72_whole_a_knot_does_what_it_m_holds
