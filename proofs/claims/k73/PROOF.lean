import PyProof.Rows.All
import Wide.All
import OpenK.AllK
import Wide.FinOn
import PyProof.EqAt
import PyProof.EqKinds
import PyProof.TupleCall
import PySem.Challenge.RW_selfword_k73_a_knots_tally
set_option Elab.async false
set_option linter.all false
set_option maxRecDepth 100000
namespace L2
open PySem PySem.Spec PyProof.Rows
abbrev Key:=Sum Int Str
def keyIs:Key→Value→Bool
 | .inl k,v=>Value.isInt k v
 | .inr x,v=>Value.isStrOf x v
def keyH (w:World):Key→Int
 | .inl k=>hashInt k
 | .inr x=>hashStr w x
theorem keyIs_shape:∀ {k:Key}{v:Value},keyIs k v=true→(∃ i t,k=Sum.inl i∧v=Value.int i t)∨(∃ x t,k=Sum.inr x∧v=Value.str x t)
 | .inl i,v,h=>by
  obtain⟨t,e⟩:=Value.isInt_shape (k:=i) (v:=v) h
  exact .inl ⟨i,t,rfl,e⟩
 | .inr x,v,h=>by
  obtain⟨t,e⟩:=Value.isStrOf_shape (x:=x) (v:=v) h
  exact .inr ⟨x,t,rfl,e⟩
theorem key_ll (a b:Int):decide ((Sum.inl a:Key)=Sum.inl b)=(a == b):=by
 by_cases e:a=b
 ·subst e; simp
 ·have h:¬ (Sum.inl a:Key)=Sum.inl b:=fun q=>e (Sum.inl.inj q)
  rw [decide_eq_false h]
  exact (beq_eq_false_iff_ne.mpr e).symm
theorem key_rr (a b:Str):decide ((Sum.inr a:Key)=Sum.inr b)=decide (a=b):=by
 by_cases e:a=b
 ·subst e; simp
 ·have h:¬ (Sum.inr a:Key)=Sum.inr b:=fun q=>e (Sum.inr.inj q)
  rw [decide_eq_false h,decide_eq_false e]
theorem key_lr (a:Int) (b:Str):decide ((Sum.inl a:Key)=Sum.inr b)=false:=decide_eq_false (fun q=>nomatch q)
theorem key_rl (a:Str) (b:Int):decide ((Sum.inr a:Key)=Sum.inl b)=false:=decide_eq_false (fun q=>nomatch q)
def mixKind (prog:Program) (w:World):PySem.KeyKind prog w Key where
 is:=keyIs
 hash:=keyH w
 inj:=fun v a b ha hb=>by
  rcases keyIs_shape ha with⟨i,t,rfl,rfl⟩ | ⟨x,t,rfl,rfl⟩
  ·rcases keyIs_shape hb with⟨j,u,rfl,e⟩ | ⟨y,u,rfl,e⟩
   ·injection e with e1 _; rw [e1]
   ·exact nomatch e
  ·rcases keyIs_shape hb with⟨j,u,rfl,e⟩ | ⟨y,u,rfl,e⟩
   ·exact nomatch e
   ·injection e with e1 _; rw [e1]
 byValue:=fun k v h=>by
  rcases keyIs_shape h with⟨i,t,rfl,rfl⟩ | ⟨x,t,rfl,rfl⟩ <;> rfl
 pyHash:=fun hv h=>by
  rcases keyIs_shape hv with⟨i,t,rfl,rfl⟩ | ⟨x,t,rfl,rfl⟩
  ·exact wpAny_pyHash_int h
  ·exact wpAny_pyHash_str h
 eqBool:=fun hu hv h=>by
  rcases keyIs_shape hu with⟨i,t,rfl,rfl⟩ | ⟨x,t,rfl,rfl⟩
  ·rcases keyIs_shape hv with⟨j,u,rfl,rfl⟩ | ⟨y,u,rfl,rfl⟩
   ·rw [key_ll] at h; exact wpAny_eqBool_int h
   ·rw [key_lr] at h; exact SeqAt.EqAt.int_str i t y u _ _ _ _ h
  ·rcases keyIs_shape hv with⟨j,u,rfl,rfl⟩ | ⟨y,u,rfl,rfl⟩
   ·rw [key_rl] at h; exact SeqAt.EqAt.str_int x t j u _ _ _ _ h
   ·rw [key_rr] at h; exact wpAny_eqBool_str h
 «strs»:=fun k x t v h=>by
  rcases keyIs_shape h with⟨i,u,rfl,e⟩ | ⟨y,u,rfl,e⟩
  ·exact nomatch e
  ·injection e with e1 _
   subst e1
   cases v <;> rfl
end L2
namespace L2
open PySem PySem.Spec PyProof.Rows
inductive V where
 | non | bl (b:Bool) | int (i:Int) | str (x:Str) | byt (b:Array UInt8) | flt (b:UInt64) | ref (a:Addr) | ty (n:String)
 deriving DecidableEq
def RelV:V→Value→Prop
 | .non,u=>u=Value.none
 | .bl b,u=>u=Value.bool b
 | .int i,u=>∃ t,u=Value.int i t
 | .str x,u=>∃ t,u=Value.str x t
 | .byt b,u=>∃ t,u=Value.bytes b t
 | .flt b,u=>∃ t,u=Value.float b t
 | .ref a,u=>u=Value.ref a
 | .ty n,u=>u=Value.type n
abbrev Vals:List V→List Value→Prop:=Paired RelV
theorem Vals.length {xs:List V}{us:List Value} (r:Vals xs us):xs.length=us.length:=Paired.length r
theorem Vals.get:∀ {xs:List V}{us:List Value}{i:Nat}{x:V},Vals xs us→xs[i]?=some x→∃ u,us[i]?=some u∧RelV x u
 | _,_,_,_,.nil,e=>by simp at e
 | _,_,0,_,.cons r _,e=>by simp at e; subst e; exact⟨_,rfl,r⟩
 | _,_,i+1,x,.cons _ t,e=>by
  obtain⟨u,h1,h2⟩:=Vals.get (i:=i) (x:=x) t (by simpa using e)
  exact⟨u,by simpa using h1,h2⟩
theorem Vals.set {x:V}{u:Value} (r:RelV x u):∀ {xs:List V}{us:List Value} (i:Nat),Vals xs us→Vals (xs.set i x) (us.set i u)
 | _,_,_,.nil=>.nil
 | _,_,0,.cons _ t=>.cons r t
 | _,_,i+1,.cons q t=>.cons q (Vals.set r i t)
theorem Vals.append:∀ {xs ys:List V}{us ws:List Value},Vals xs us→Vals ys ws→Vals (xs++ys) (us++ws)
 | _,_,_,_,.nil,s=>s
 | _,_,_,_,.cons r t,s=>.cons r (Vals.append t s)
theorem Vals.take:∀ {xs:List V}{us:List Value} (n:Nat),Vals xs us→Vals (xs.take n) (us.take n)
 | _,_,0,_=>.nil
 | _,_,_+1,.nil=>.nil
 | _,_,n+1,.cons r t=>.cons r (Vals.take n t)
theorem Vals.drop:∀ {xs:List V}{us:List Value} (n:Nat),Vals xs us→Vals (xs.drop n) (us.drop n)
 | _,_,0,r=>r
 | _,_,_+1,.nil=>.nil
 | _,_,n+1,.cons _ t=>Vals.drop n t
def RelO:Option V→Option Value→Prop
 | some v,some u=>RelV v u
 | none,none=>True
 | _,_=>False
def KV {κ:Type}:List (κ×V)→List (κ×Value)→Prop:=Paired fun (p:κ×V) (q:κ×Value)=>p.1=q.1∧RelV p.2 q.2
def kV:Key→V
 | .inl i=>.int i
 | .inr x=>.str x
inductive HO where
 | lst (xs:List V)
 | tup (xs:List V)
 | dK (kvs:List (Key×V)) | dT (kvs:List (List Key×V))
 | set (S:Int→Bool) (n:Nat)
 | ins (C dx:Addr) (fs:List (Str×V))
 | own (x:Addr)
 | xd (fs:List (Str×V))
 | met (f x:Addr)
 | rng (lo hi:Int)
 | frz (o:Obj) (u:HO)
 | tbl (ps:Array Value)
 | ext (φ:Heap→Prop)
abbrev Hp:=Addr→Option HO
def upd (H:Hp) (a:Addr) (o:HO):Hp:=fun b=>if b=a then some o else H b
theorem upd_same {H:Hp}{a:Addr}{o:HO}:upd H a o a=some o:=by unfold upd; rw [if_pos rfl]
theorem upd_ne {H:Hp}{a b:Addr}{o:HO} (h:b≠a):upd H a o b=H b:=by unfold upd; rw [if_neg h]
theorem Ob {H:Hp}{a:Addr}{o u:HO}:upd (upd H a o) a u=upd H a u:=by
 funext b; unfold upd; split <;> rfl
theorem ne_of {H:Hp}{a b:Addr}{o u:HO} (h:H a=some o) (h':H b=some u) (d:o≠u):a≠b:=by
 intro e; subst e; rw [h] at h'; exact d (Option.some.inj h')
theorem ne_of_none {H:Hp}{a b:Addr}{o:HO} (h:H a=some o) (h':H b=none):a≠b:=by
 intro e; subst e; rw [h] at h'; cases h'
section
variable (P:Program) (w:World)
def ObjOk (H:Hp) (h:Heap) (a:Addr):HO→Prop
 | .lst xs=>xs.length≤sizeLine∧∃ (its:List Value) (n:Nat),Vals xs its∧h.get? a=some { cls:=.type "list",data:=.seq its.toArray n }
 | .tup xs=>xs.length≤sizeLine∧∃ its:List Value,Vals xs its∧IsTup h a its.toArray
 | .dK kvs=>kvs.length≤sizeLine∧(a == sysModules)=false∧∃ vs,KV kvs vs∧h.DictOf (mixKind P w) a vs
 | .dT kvs=>kvs.length≤sizeLine∧(a == sysModules)=false∧∃ xs:List (List Key×Addr×Value),
   Paired (fun (p:List Key×V) (q:List Key×Addr×Value)=>p.1=q.1∧H q.2.1=some (.tup (p.1.map kV))∧RelV p.2 q.2.2) kvs xs ∧
   ∃ o es ep,h.get? a=some o∧o.ExactDict∧o.data=.dict es ep∧es.toList=xs.map (entryOfKey (tupleKind (mixKind P w)))∧(xs.map (·.1)).Nodup
 | .set S n=>h.SetOf (intKind P w) a S n
 | .ins C dx fs=>H dx=some (.own a)∧fs.length≤1000∧dx≠a∧h.get? a=some (PySem.W.instObj C dx) ∧
   ∃ mA,h.Ns1 dx mA∧(∀ f,RelO (fs.lookup f) (mA f))∧PySem.Within mA (fs.map (·.1))
 | .own _=>∃ o,h.get? a=some o
 | .xd fs=>∃ mA,h.Ns1 a mA∧∀ f,RelO (fs.lookup f) (mA f)
 | .rng lo hi=>∃ t u v,h.get? a=some { cls:=.type "range",data:=.fields #[.int lo t,.int hi u,.int 1 v] }
 | .frz o u=>h.get? a=some o∧ObjOk H h a u
 | .tbl ps=>h.get? a=some { cls:=.none,data:=.fields ps }
 | .met f x=>h.get? a=some (PySem.W.methodObj (.ref f) (.ref x))
 | .ext φ=>φ h∧(∃ o,h.get? a=some o)∧∀ h1 h2:Heap,φ h1→(∀ o,h1.get? a=some o→h2.get? a=some o)→φ h2
def HOk (H:Hp) (h:Heap):Prop:=∀ a o,H a=some o→ObjOk P w H h a o
end
section
variable {P:Program}{w:World}{H H':Hp}{h h':Heap}{a:Addr}{o:HO}
theorem ObjOk.lt (x:ObjOk P w H h a o):a<h.objs.size:=by
 cases o with
 | lst xs=>obtain⟨_,_,_,_,e⟩:=x; exact Heap.lt_size e
 | tup xs=>obtain⟨_,_,_,p⟩:=x; exact p.lt
 | dK kvs=>obtain⟨_,_,_,_,o,_,_,e,_⟩:=x; exact Heap.lt_size e
 | dT kvs=>obtain⟨_,_,_,_,o,_,_,e,_⟩:=x; exact Heap.lt_size e
 | set S n=>obtain⟨o,_,_,_,e,_⟩:=x; exact Heap.lt_size e
 | ins C dx fs=>obtain⟨_,_,_,e,_⟩:=x; exact Heap.lt_size e
 | own y=>obtain⟨_,e⟩:=x; exact Heap.lt_size e
 | xd fs=>obtain⟨_,⟨_,_,_,e,_⟩,_⟩:=x; exact Heap.lt_size e
 | rng lo hi=>obtain⟨_,_,_,e⟩:=x; exact Heap.lt_size e
 | frz ob u=>obtain⟨e,_⟩:=x; exact Heap.lt_size e
 | tbl ps=>exact Heap.lt_size (show h.get? a=some _ from x)
 | met f y=>exact Heap.lt_size (show h.get? a=some _ from x)
 | ext φ=>obtain⟨_,⟨_,e⟩,_⟩:=x; exact Heap.lt_size e
theorem Paired.mapP {α β:Type}{F G:α→β→Prop}:∀ {l₁:List α}{l₂:List β},Paired F l₁ l₂→(∀ a b,F a b→G a b)→Paired G l₁ l₂
 | _,_,.nil,_=>.nil
 | _,_,.cons r t,f=>.cons (f _ _ r) (Paired.mapP t f)
theorem ObjOk.stay (x:ObjOk P w H h a o) (k:∀ b u,(b=a∨H b=some (.own a))→h.get? b=some u→h'.get? b=some u)
  (ho:∀ b,H b=some (.own a)→H' b=some (.own a)) (ht:∀ b xs,H b=some (.tup xs)→H' b=some (.tup xs)):ObjOk P w H' h' a o:=by
 induction o with
 | lst xs=>obtain⟨z,its,n,r,e⟩:=x; exact⟨z,its,n,r,k _ _ (.inl rfl) e⟩
 | tup xs=>obtain⟨z,its,r,ob,e,c⟩:=x; exact⟨z,its,r,ob,k _ _ (.inl rfl) e,c⟩
 | dK kvs=>obtain⟨z,y,vs,r,ob,es,ep,e,c⟩:=x; exact⟨z,y,vs,r,ob,es,ep,k _ _ (.inl rfl) e,c⟩
 | dT kvs =>
  obtain⟨z,y,xs,r,ob,es,ep,e,c⟩:=x
  exact⟨z,y,xs,Paired.mapP r fun p q z=>⟨z.1,ht _ _ z.2.1,z.2.2⟩,ob,es,ep,k _ _ (.inl rfl) e,c⟩
 | set S n=>obtain⟨ob,es,ep,t,e,c⟩:=x; exact⟨ob,es,ep,t,k _ _ (.inl rfl) e,c⟩
 | ins C dx fs =>
  obtain⟨d,z,ne,e,mA,⟨od,es,ep,e2,c⟩,r⟩:=x
  exact⟨ho _ d,z,ne,k _ _ (.inl rfl) e,mA,⟨od,es,ep,k _ _ (.inr d) e2,c⟩,r⟩
 | own y=>obtain⟨ob,e⟩:=x; exact⟨ob,k _ _ (.inl rfl) e⟩
 | xd fs=>obtain⟨mA,⟨od,es,ep,e,c⟩,r⟩:=x; exact⟨mA,⟨od,es,ep,k _ _ (.inl rfl) e,c⟩,r⟩
 | rng lo hi=>obtain⟨t,u,v,e⟩:=x; exact⟨t,u,v,k _ _ (.inl rfl) e⟩
 | frz ob u ih=>obtain⟨e,q⟩:=x; exact⟨k _ _ (.inl rfl) e,ih q⟩
 | tbl ps =>
  have e:h.get? a=some { cls:=.none,data:=.fields ps }:=x
  show h'.get? a=some { cls:=.none,data:=.fields ps }
  exact k a _ (.inl rfl) e
 | met f y =>
  have e:h.get? a=some (PySem.W.methodObj (.ref f) (.ref y)):=x
  show h'.get? a=some (PySem.W.methodObj (.ref f) (.ref y))
  exact k a _ (.inl rfl) e
 | ext φ=>obtain⟨p,⟨o,e⟩,st⟩:=x; exact⟨st _ _ p fun o q=>k _ _ (.inl rfl) q,⟨o,k _ _ (.inl rfl) e⟩,st⟩
theorem HOk.lt (x:HOk P w H h) (e:H a=some o):a<h.objs.size:=(x a o e).lt
theorem HOk.fresh (x:HOk P w H h) (e:h.objs.size≤a):H a=none:=by
 cases q:H a with
 | none=>rfl
 | some u=>exact absurd (Nat.lt_of_lt_of_le (x.lt q) e) (Nat.lt_irrefl _)
theorem HOk.kept (x:HOk P w H h) (k:∀ b u,h.get? b=some u→h'.get? b=some u):HOk P w H h':=fun a o e =>
 (x a o e).stay (fun b u _ q=>k b u q) (fun _ q=>q) fun _ _ q=>q
theorem HOk.laid (x:HOk P w H h) (k:∀ b u,h.get? b=some u→h'.get? b=some u) (hp:h.objs.size≤a) (new:ObjOk P w (upd H a o) h' a o):HOk P w (upd H a o) h':=fun b u e=>by
 have hn:=x.fresh hp
 by_cases hb:b=a
 ·subst hb; rw [upd_same] at e; cases e; exact new
 ·rw [upd_ne hb] at e
  exact (x b u e).stay (fun c v _ q=>k c v q) (fun c q=>by rw [upd_ne (ne_of_none q hn)]; exact q) fun c xs q=>by rw [upd_ne (ne_of_none q hn)]; exact q
end
def Rd (H:Hp) (a:Addr) (u:HO):Prop:=H a=some u∨∃ o,H a=some (.frz o u)
theorem Rd.ok {P:Program}{w:World}{H:Hp}{h:Heap}{a:Addr}{u:HO} (r:Rd H a u) (x:HOk P w H h):ObjOk P w H h a u:=by
 rcases r with r | ⟨o,r⟩
 ·exact x a u r
 ·obtain⟨_,q⟩:=x a _ r
  exact q
def Mut:Option HO→Prop
 | some (.lst _)=>True
 | some (.dK _)=>True
 | some (.dT _)=>True
 | some (.set _ _)=>True
 | some (.ins _ _ _)=>True
 | some (.ext _)=>True
 | _=>False
section
variable {P:Program}{w:World}{H:Hp}{h h':Heap}{x e:Addr}{o':HO}
theorem HOk.write (ok:HOk P w H h) (mu:Mut (H x)) (he:e=x∨H e=some (.own x)) (k:∀ b u,b≠e→h.get? b=some u→h'.get? b=some u) (heo:∃ u,h'.get? e=some u)
  (new:ObjOk P w (upd H x o') h' x o'):HOk P w (upd H x o') h':=fun b u q=>by
 have nown:∀ c y,H c=some (.own y)→c≠x:=fun c y r z=>by subst z; rw [r] at mu; exact mu
 have ntup:∀ c xs,H c=some (.tup xs)→c≠x:=fun c xs r z=>by subst z; rw [r] at mu; exact mu
 by_cases hb:b=x
 ·subst hb; rw [upd_same] at q; cases q; exact new
 ·rw [upd_ne hb] at q
  by_cases hbe:b=e
  ·have q':H b=some (.own x):=by
    rcases he with z | z
    ·exact absurd (hbe.trans z) hb
    ·rw [hbe]; exact z
   rw [q] at q'; cases q'
   obtain⟨v,hv⟩:=heo
   exact⟨v,by rw [hbe]; exact hv⟩
  ·refine (ok b u q).stay (fun c v hc r=>k c v ?_ r) (fun c r=>by rw [upd_ne (nown c b r)]; exact r) fun c xs r=>by rw [upd_ne (ntup c xs r)]; exact r
   rcases hc with rfl | hc
   ·exact hbe
   ·rintro rfl
    rcases he with z | z
    ·exact nown c b hc z
    ·rw [hc] at z; cases z; exact hb rfl
end
structure Un (fs ex:List Addr) (H H':Hp) (h h':Heap):Prop where
 keep:∀ b o,h.get? b=some o→H b=none→b ∉ fs→b ∉ ex→h'.get? b=some o
 slot:∀ b o,h.get? b=some o→H b=none→b∈fs→b ∉ ex→∃ sl,h'.get? b=some { o with slots:=sl }
 free:∀ b o,h.get? b=some o→H b=none→b ∉ ex→H' b=none
 there:∀ b o,h.get? b=some o→b ∉ ex→∃ o',h'.get? b=some o'
 tups:∀ b xs,H b=some (.tup xs)→H' b=some (.tup xs)
 frzs:∀ b o u,H b=some (.frz o u)→H' b=some (.frz o u)
 tbls:∀ b ps,H b=some (.tbl ps)→∃ more,H' b=some (.tbl (ps++more))
section
variable {fs fs' ex ex':List Addr}{H H1 H2:Hp}{h h1 h2 h':Heap}{a x e:Addr}{o:HO}
theorem Un.any (u:Un fs ex H H1 h h1) {b:Addr}{ob:Obj} (q:h.get? b=some ob) (n:H b=none) (hx:b ∉ ex):∃ sl,h1.get? b=some { ob with slots:=sl }:=by
 by_cases hb:b∈fs
 ·exact u.slot b ob q n hb hx
 ·exact⟨ob.slots,u.keep b ob q n hb hx⟩
theorem Un.kept (k:∀ b u,h.get? b=some u→h'.get? b=some u):Un fs ex H H h h' :=
 ⟨fun b ob q _ _ _=>k b ob q,fun b ob q _ _ _=>⟨ob.slots,k b ob q⟩,fun _ _ _ n _=>n,fun b ob q _=>⟨ob,k b ob q⟩,fun _ _ q=>q,fun _ _ _ q=>q,fun _ ps q=>⟨#[],by rw [q]; simp⟩⟩
theorem Un.refl:Un fs ex H H h h:=Un.kept fun _ _ q=>q
theorem Un.laid (k:∀ b u,h.get? b=some u→h'.get? b=some u) (hp:h.objs.size≤a) (hn:H a=none):Un fs ex H (upd H a o) h h' where
 keep:=fun b u q _ _ _=>k b u q
 slot:=fun b u q _ _ _=>⟨u.slots,k b u q⟩
 free:=fun b u q n _=>by rw [upd_ne (Nat.ne_of_lt (Nat.lt_of_lt_of_le (Heap.lt_size q) hp))]; exact n
 there:=fun b u q _=>⟨u,k b u q⟩
 tups:=fun b xs q=>by rw [upd_ne (ne_of_none q hn)]; exact q
 frzs:=fun b u xs q=>by rw [upd_ne (ne_of_none q hn)]; exact q
 tbls:=fun b ps q=>⟨#[],by rw [upd_ne (ne_of_none q hn),q]; simp⟩
theorem Un.write (mu:Mut (H x)) (he:e=x∨H e=some (.own x)) (k:∀ b u,b≠e→h.get? b=some u→h'.get? b=some u) (heo:∃ u,h'.get? e=some u):Un fs ex H (upd H x o) h h':=by
 have hx:∀ b,H b=none→b≠x:=fun b n z=>by subst z; rw [n] at mu; exact mu
 have hb:∀ b,H b=none→b≠e:=fun b n z=>by
  subst z
  rcases he with r | r
  ·exact hx b n r
  ·rw [n] at r; cases r
 have hm:∀ b u,H b=some u→¬ Mut (some u)→b≠x:=fun b u q nm z=>by subst z; rw [q] at mu; exact nm mu
 refine⟨fun b u q n _ _=>k b u (hb b n) q,fun b u q n _ _=>⟨u.slots,k b u (hb b n) q⟩,fun b u q n _=>by rw [upd_ne (hx b n)]; exact n,fun b u q _=>?_,
  fun b xs q=>by rw [upd_ne (hm b _ q fun z=>z)]; exact q,fun b u xs q=>by rw [upd_ne (hm b _ q fun z=>z)]; exact q,fun b ps q=>⟨#[],by rw [upd_ne (hm b _ q fun z=>z),q]; simp⟩⟩
 by_cases hbe:b=e
 ·subst hbe; exact heo
 ·exact⟨u,k b u hbe q⟩
end
def trk (h:Heap) (H:Hp):List Addr:=(List.range h.objs.size).filter fun a=>(H a).isSome
def hidT (h:Heap) (H:Hp):Heap:=PySem.W.hideAll h (trk h H)
theorem hidT_size (h:Heap) (H:Hp):(hidT h H).objs.size=h.objs.size:=PySem.W.hideAll_size _ _
theorem hidT_get {h:Heap}{H:Hp}{b:Addr}{o:Obj} (e:h.get? b=some o) (n:H b=none):(hidT h H).get? b=some o :=
 PySem.W.hideAll_get _ e fun hm=>by
  have q:(H b).isSome=true:=(List.mem_filter.mp hm).2
  rw [n] at q; simp at q
theorem of_hidT {h:Heap}{H:Hp}{b:Addr}{o:Obj} (e:(hidT h H).get? b=some o):h.get? b=some o∧H b=none:=by
 have e':h.get? b=some o:=PySem.W.of_hideAll (trk h H) e
 refine⟨e',?_⟩
 cases q:H b with
 | none=>rfl
 | some x =>
  have hm:b∈trk h H:=List.mem_filter.mpr ⟨List.mem_range.mpr (Heap.lt_size e'),by simp [q]⟩
  have z:(hidT h H).get? b=none:=PySem.W.hideAll_none (trk h H) hm
  rw [z] at e; cases e
end L2
namespace L2
open PySem PySem.Spec PyProof.Rows
structure Mod (K:PySem.W.Frag) (mg:Str→Option Value) (base:Heap):Prop where
 kin:K.In base
 glob:base.Ns mainGlobals mg
 blt:∃ mb,base.Ns builtinsNs mb∧∀ x:Str,x≠"__name__"→mb x=bootBuiltins x
 nolimit:base.NoLimit
structure Cx where
 prog:Program
 w:World
 K:PySem.W.Frag
 mg:Str→Option Value
 base:Heap
 A:Around
 N:List Str
 s₀:Shared
 H₀:Hp
 env:Env
 outer:List Env
 stack:List Env
 ex:List Addr
 fn:Str→Bool
 calm:Bool
 pn:List (Addr×Obj)
 xe:Value→Shared→Prop
def frs (l:List Env):List Addr:=l.filterMap (·.frame)
abbrev Cx.fs (X:Cx):List Addr:=frs X.outer
def Vis (sc:Scope) (x:Str):Prop:=sc.names.lookup x=some .local∨sc.names.lookup x=some .cell∨sc.names.lookup x=some .free
def Loc (sc:Scope) (x:Str):Prop:=sc.names.lookup x=some .local∨sc.names.lookup x=some .cell
def Look (env:Env) (h:Heap) (m:Str→Option Value) (x:Str) (u:Value):Prop :=
 (env.kindOf x=some .local∧m x=some u)∨((env.kindOf x=some .cell∨env.kindOf x=some .free)∧∃ c,env.cells.lookup x=some c∧h.IsCell c (some u))
structure Cx.Ok (X:Cx):Prop where
 mod:Mod X.K X.mg X.base
 kind:X.env.scope.kind=.function
 glob:X.env.globals=mainGlobals
 blt:X.env.builtins=builtinsNs
 above:X.s₀.heap.objs.size≤X.env.locals
 inj:∀ x y c,X.env.cells.lookup x=some c→X.env.cells.lookup y=some c→x=y
 has:∀ x,(X.env.kindOf x=some .cell∨X.env.kindOf x=some .free)→∃ c,X.env.cells.lookup x=some c
 cab:∀ x c,X.fn x=true→X.env.cells.lookup x=some c→X.s₀.heap.objs.size≤c
 hd:X.calm=true→X.A.handled=none
 frames:X.A.frames=some X.stack
 stk:X.stack=X.outer∨(X.stack=X.env::X.outer∧X.env.frame=some X.env.locals)
 exf:∀ b∈X.ex,b≠X.env.locals∧∀ x c,X.env.cells.lookup x=some c→c≠b
 bs:∀ b o,X.base.get? b=some o→X.s₀.heap.get? b=some o∧X.H₀ b=none
 bsz:X.base.objs.size≤X.s₀.heap.objs.size
 noex:∀ b o,X.base.get? b=some o→b ∉ X.ex
 exfs:∀ b∈X.ex,b ∉ X.fs
 funs:X.s₀.heap.FunFrames X.base X.outer
 frf:∀ b∈X.fs,X.H₀ b=none
structure Inv (X:Cx) (pins:List (Addr×Obj)) (σ:List (Option V)) (H:Hp) (s:Shared):Prop where
 ok:X.Ok
 os:s.os=X.s₀.os
 bare:AllBare s.gens
 base:Un X.fs X.ex X.H₀ H X.s₀.heap s.heap
 loc:∃ m,s.heap.Ns X.env.locals m∧∀ (i:Nat) (x:Str) (v:V),X.N[i]?=some x→σ[i]?=some (some v)→Vis X.env.scope x→∃ u,RelV v u∧Look X.env s.heap m x u
 cell:∀ x c,X.env.cells.lookup x=some c→∃ v,s.heap.IsCell c v
 free:H X.env.locals=none
 freeC:∀ x c,X.env.cells.lookup x=some c→H c=none
 pin:∀ p∈X.pn++pins,s.heap.get? p.1=some p.2∧H p.1=none∧p.1≠X.env.locals∧p.1 ∉ X.fs∧∀ v,p.2.data≠.cell v
 hok:HOk X.prog X.w H s.heap
 len:σ.length=X.N.length
section
variable {X:Cx}{pins:List (Addr×Obj)}{σ:List (Option V)}{H H':Hp}{s:Shared}{h':Heap}
theorem Cx.Ok.nofr (ok:X.Ok) {b:Addr}{o:Obj} (e:X.base.get? b=some o):b ∉ X.fs:=fun hb=>by
 have:=(ok.funs.mem hb).1
 rw [e] at this; cases this
theorem Inv.bs (I:Inv X pins σ H s):∀ b o,X.base.get? b=some o→s.heap.get? b=some o∧H b=none:=fun b o e =>
 ⟨I.base.keep b o (I.ok.bs b o e).1 (I.ok.bs b o e).2 (I.ok.nofr e) (I.ok.noex b o e),I.base.free b o (I.ok.bs b o e).1 (I.ok.bs b o e).2 (I.ok.noex b o e)⟩
theorem Inv.bk (I:Inv X pins σ H s):∀ b o,X.base.get? b=some o→s.heap.get? b=some o:=fun b o e=>(I.bs b o e).1
theorem Inv.mod (I:Inv X pins σ H s):Mod X.K X.mg X.base:=I.ok.mod
theorem Inv.kIn (I:Inv X pins σ H s):X.K.In s.heap:=I.ok.mod.kin.keeps I.bk
theorem Inv.lt (I:Inv X pins σ H s):X.env.locals<s.heap.objs.size:=let ⟨_,hn,_⟩:=I.loc; hn.lt
theorem Inv.sz (I:Inv X pins σ H s):X.s₀.heap.objs.size≤s.heap.objs.size:=Nat.le_trans I.ok.above (Nat.le_of_lt I.lt)
theorem Inv.nofs (I:Inv X pins σ H s) {a:Addr} (h:s.heap.objs.size≤a):a ∉ X.fs:=fun hb=>by
 obtain⟨_,o,ho,_⟩:=I.ok.funs.mem hb
 exact absurd (Nat.lt_of_lt_of_le (Heap.lt_size ho) (Nat.le_trans I.sz h)) (Nat.lt_irrefl _)
theorem Inv.cne (I:Inv X pins σ H s):∀ x c,X.env.cells.lookup x=some c→c≠X.env.locals:=fun x c e z=>by
 obtain⟨v,o,ho,hd⟩:=I.cell x c e
 obtain⟨m,⟨o',es,ep,ho',hd',_⟩,_⟩:=I.loc
 rw [z,ho'] at ho; cases ho; rw [hd'] at hd; cases hd
theorem Inv.funs (I:Inv X pins σ H s):s.heap.FunFrames X.base X.outer:=by
 have all:∀ (l:List Env),(∀ b∈frs l,b∈X.fs)→X.s₀.heap.FunFrames X.base l→s.heap.FunFrames X.base l:=by
  intro l
  induction l with
  | nil=>intro _ _; trivial
  | cons env r ih =>
   intro hs hl
   obtain⟨hk,⟨L,o,hf,hn,ho,hd⟩,hr⟩:=hl
   have hL:L∈X.fs:=hs L (by unfold frs; rw [List.filterMap_cons,hf]; exact List.mem_cons_self)
   obtain⟨sl,e⟩:=I.base.slot L o ho (I.ok.frf L hL) hL fun z=>I.ok.exfs L z hL
   exact⟨hk,⟨L,_,hf,hn,e,hd⟩,ih (fun b hb=>hs b (by unfold frs; rw [List.filterMap_cons,hf]; exact List.mem_cons_of_mem _ hb)) hr⟩
 exact all X.outer (fun _ hb=>hb) I.ok.funs
theorem Inv.stack (I:Inv X pins σ H s):s.heap.FunFrames X.base X.stack:=by
 rcases I.ok.stk with e | ⟨e,hf⟩
 ·rw [e]; exact I.funs
 ·rw [e]
  obtain⟨m,hn,_⟩:=I.loc
  refine .cons (by rw [I.ok.kind]; decide) hf hn ?_ I.funs
  exact Heap.get?_none_of_le (Nat.le_trans I.ok.bsz I.ok.above)
theorem Inv.stkSub (I:Inv X pins σ H s):∀ b∈frs X.stack,b∈X.env.locals::X.fs:=fun b hb=>by
 rcases I.ok.stk with e | ⟨e,hf⟩
 ·rw [e] at hb; exact List.mem_cons_of_mem _ hb
 ·rw [e] at hb
  unfold frs at hb
  rw [List.filterMap_cons,hf] at hb
  exact hb
theorem Inv.stkFree (I:Inv X pins σ H s):∀ b∈frs X.stack,H b=none:=fun b hb=>by
 rcases List.mem_cons.mp (I.stkSub b hb) with e | hb
 ·rw [e]; exact I.free
 ·obtain⟨_,o,ho,_⟩:=I.ok.funs.mem hb
  exact I.base.free b o ho (I.ok.frf b hb) fun z=>I.ok.exfs b z hb
theorem Inv.step {g':Array GenState}{t':Nat}{d':Drawn}{ch:List Addr} (I:Inv X pins σ H s)
  (hch:∀ b∈ch,(b∈X.ex∨X.s₀.heap.objs.size≤b)∧b≠X.env.locals∧(∀ x c,X.env.cells.lookup x=some c→c≠b)∧∀ p∈X.pn++pins,p.1≠b)
  (keep:∀ b o,b≠X.env.locals→b ∉ X.fs→b ∉ ch→s.heap.get? b=some o→H b=none→h'.get? b=some o)
  (slot:∀ b o,b≠X.env.locals→b∈X.fs→b ∉ ch→s.heap.get? b=some o→H b=none→∃ sl,h'.get? b=some { o with slots:=sl }) (free:∀ b o,b ∉ ch→s.heap.get? b=some o→H b=none→H' b=none)
  (there:∀ b o,b ∉ ch→s.heap.get? b=some o→∃ o',h'.get? b=some o')
  (tups:∀ b xs,H b=some (.tup xs)→H' b=some (.tup xs)) (frzs:∀ b o u,H b=some (.frz o u)→H' b=some (.frz o u)) (tbls:∀ b ps,H b=some (.tbl ps)→∃ more,H' b=some (.tbl (ps++more)))
  (ns:∀ m,s.heap.Ns X.env.locals m→h'.Ns X.env.locals m) (hok:HOk X.prog X.w H' h') (hg:AllBare g') :
  Inv X pins σ H' { s with heap:=h',gens:=g',drawn:=d',toks:=t' }:=by
 have neL:∀ b o,X.s₀.heap.get? b=some o→b≠X.env.locals:=fun b o e=>Nat.ne_of_lt (Nat.lt_of_lt_of_le (Heap.lt_size e) I.ok.above)
 have neC:∀ b o,X.s₀.heap.get? b=some o→b ∉ X.ex→b ∉ ch:=fun b o e hx hb=>by
  rcases (hch b hb).1 with z | z
  ·exact hx z
  ·exact absurd (Nat.lt_of_lt_of_le (Heap.lt_size e) z) (Nat.lt_irrefl _)
 have cellK:∀ x c,X.env.cells.lookup x=some c→∀ v,s.heap.IsCell c v→h'.IsCell c v:=fun x c e v ⟨o,ho,hd⟩=>by
  have nch:c ∉ ch:=fun z=>(hch c z).2.2.1 x c e rfl
  by_cases hc:c∈X.fs
  ·obtain⟨sl,q⟩:=slot c o (I.cne x c e) hc nch ho (I.freeC x c e)
   exact⟨_,q,hd⟩
  ·exact⟨o,keep c o (I.cne x c e) hc nch ho (I.freeC x c e),hd⟩
 refine⟨I.ok,I.os,hg,⟨fun b o e n hb hx=>?_,fun b o e n hb hx=>?_,fun b o e n hx=>?_,fun b o e hx=>?_,fun b xs e=>tups b xs (I.base.tups b xs e),fun b o xs e=>frzs b o xs (I.base.frzs b o xs e),fun b ps e=>?_⟩,?_,fun x c e=>?_,?_,fun x c e=>?_,fun p hp=>?_,hok,I.len⟩
 ·exact keep b o (neL b o e) hb (neC b o e hx) (I.base.keep b o e n hb hx) (I.base.free b o e n hx)
 ·obtain⟨sl,e1⟩:=I.base.slot b o e n hb hx
  obtain⟨sl',e2⟩:=slot b _ (neL b o e) hb (neC b o e hx) e1 (I.base.free b o e n hx)
  exact⟨sl',e2⟩
 ·obtain⟨o',e1⟩:=I.base.there b o e hx
  exact free b o' (neC b o e hx) e1 (I.base.free b o e n hx)
 ·obtain⟨o',e1⟩:=I.base.there b o e hx
  exact there b o' (neC b o e hx) e1
 ·obtain⟨m1,e1⟩:=I.base.tbls b ps e
  obtain⟨m2,e2⟩:=tbls b _ e1
  exact⟨m1++m2,by rw [e2,Array.append_assoc]⟩
 ·obtain⟨m,hn,hl⟩:=I.loc
  refine⟨m,ns m hn,fun i x v e1 e2 e3=>?_⟩
  obtain⟨u,r,l⟩:=hl i x v e1 e2 e3
  refine⟨u,r,?_⟩
  rcases l with l | ⟨k,c,e,z⟩
  ·exact .inl l
  ·exact .inr ⟨k,c,e,cellK x c e _ z⟩
 ·obtain⟨v,z⟩:=I.cell x c e
  exact⟨v,cellK x c e v z⟩
 ·obtain⟨m,⟨o,_,_,ho,_⟩,_⟩:=I.loc
  exact free _ o (fun z=>(hch _ z).2.1 rfl) ho I.free
 ·obtain⟨v,o,ho,hd⟩:=I.cell x c e
  exact free c o (fun z=>(hch c z).2.2.1 x c e rfl) ho (I.freeC x c e)
 ·obtain⟨e,n,ne,nf,d⟩:=I.pin p hp
  have nch:p.1 ∉ ch:=fun z=>(hch p.1 z).2.2.2 p hp rfl
  exact⟨keep p.1 p.2 ne nf nch e n,free p.1 p.2 nch e n,ne,nf,d⟩
theorem Inv.un {t':Nat} (I:Inv X pins σ H s) (u:Un X.fs [] H H' s.heap h') (hok:HOk X.prog X.w H' h'):Inv X pins σ H' { s with heap:=h',toks:=t' }:=by
 obtain⟨m,⟨o,es,ep,ho,r⟩,_⟩:=id I.loc
 obtain⟨sl,hL⟩:=u.any ho I.free (by simp)
 exact I.step (g':=s.gens) (d':=s.drawn) (ch:=[]) (fun _ z=>nomatch z) (fun b o _ hb _ e n=>u.keep b o e n hb (by simp)) (fun b o _ hb _ e n=>u.slot b o e n hb (by simp)) (fun b o _ e n=>u.free b o e n (by simp)) (fun b o _ e=>u.there b o e (by simp)) u.tups u.frzs u.tbls (fun m' hm=>by
  obtain⟨o',es',ep',ho',r'⟩:=hm
  rw [ho] at ho'; cases ho'
  exact⟨_,es',ep',hL,r'⟩) hok I.bare
theorem Inv.call {g':Array GenState}{t':Nat}{d':Drawn}{ch:List Addr} (I:Inv X pins σ H s) (u:Un (frs X.stack) ch H H' s.heap h') (hok:HOk X.prog X.w H' h') (hg:AllBare g')
  (hch:∀ b∈ch,(b∈X.ex∨X.s₀.heap.objs.size≤b)∧b≠X.env.locals∧(∀ x c,X.env.cells.lookup x=some c→c≠b)∧∀ p∈X.pn++pins,p.1≠b) :
  Inv X pins σ H' { s with heap:=h',gens:=g',drawn:=d',toks:=t' }:=by
 obtain⟨m,⟨o,es,ep,ho,r⟩,_⟩:=id I.loc
 obtain⟨sl,hL⟩:=u.any ho I.free fun z=>(hch _ z).2.1 rfl
 exact I.step (ch:=ch) hch (fun b o hL hb hc e n=>u.keep b o e n (fun z=>(List.mem_cons.mp (I.stkSub b z)).elim hL hb) hc) (fun b o _ _ hc e n=>u.any e n hc) (fun b o hc e n=>u.free b o e n hc) (fun b o hc e=>u.there b o e hc) u.tups u.frzs u.tbls (fun m' hm=>by
  obtain⟨o',es',ep',ho',r'⟩:=hm
  rw [ho] at ho'; cases ho'
  exact⟨_,es',ep',hL,r'⟩) hok hg
theorem Inv.turned {t':Nat}{it:Addr} (I:Inv X pins σ H s) (k:∀ b o,b≠it→s.heap.get? b=some o→h'.get? b=some o) (hn:H it=none) (hL:it≠X.env.locals)
  (h1:it∈X.ex∨X.s₀.heap.objs.size≤it) (h2:∀ x c,X.env.cells.lookup x=some c→c≠it) (h3:∀ p∈X.pn++pins,p.1≠it):Inv X pins σ H { s with heap:=h',toks:=t' }:=by
 have nit:∀ b u,H b=some u→b≠it:=fun b u e z=>by rw [z,hn] at e; cases e
 refine I.step (g':=s.gens) (d':=s.drawn) (ch:=[it]) (fun b hb=>?_) (fun b o _ _ hc e _=>k b o (fun z=>hc (by simp [z])) e) (fun b o _ _ hc e _=>⟨o.slots,k b o (fun z=>hc (by simp [z])) e⟩) (fun _ _ _ _ n=>n)
  (fun b o hc e=>⟨o,k b o (fun z=>hc (by simp [z])) e⟩) (fun _ _ e=>e) (fun _ _ _ e=>e) (fun b ps e=>⟨#[],by rw [e]; simp⟩) (fun m hm=>?_) (fun b u e=>?_) I.bare
 ·have e:b=it:=by simpa using hb
  subst e
  exact⟨h1,hL,h2,h3⟩
 ·obtain⟨o,es,ep,ho,r⟩:=hm
  exact⟨o,es,ep,k _ o (Ne.symm hL) ho,r⟩
 ·refine (I.hok b u e).stay (fun c v hc q=>k c v ?_ q) (fun _ q=>q) fun _ _ q=>q
  rcases hc with z | z
  ·rw [z]; exact nit b u e
  ·exact nit c _ z
theorem Inv.tok (I:Inv X pins σ H s) (t:Nat):Inv X pins σ H { s with toks:=t }:=I.un (h':=s.heap) (t':=t) Un.refl I.hok
theorem Inv.kept {t':Nat} (I:Inv X pins σ H s) (k:∀ b u,s.heap.get? b=some u→h'.get? b=some u):Inv X pins σ H { s with heap:=h',toks:=t' }:=I.un (Un.kept k) (I.hok.kept k)
theorem Inv.laid {a:Addr}{o:HO}{t':Nat} (I:Inv X pins σ H s) (k:∀ b u,s.heap.get? b=some u→h'.get? b=some u) (hp:s.heap.objs.size≤a) (new:ObjOk X.prog X.w (upd H a o) h' a o) :
  Inv X pins σ (upd H a o) { s with heap:=h',toks:=t' }:=I.un (Un.laid k hp (I.hok.fresh hp)) (I.hok.laid k hp new)
theorem Inv.write {x e:Addr}{o:HO}{t':Nat} (I:Inv X pins σ H s) (mu:Mut (H x)) (he:e=x∨H e=some (.own x)) (k:∀ b u,b≠e→s.heap.get? b=some u→h'.get? b=some u) (heo:∃ u,h'.get? e=some u)
  (new:ObjOk X.prog X.w (upd H x o) h' x o):Inv X pins σ (upd H x o) { s with heap:=h',toks:=t' }:=I.un (Un.write mu he k heo) (I.hok.write mu he k heo new)
theorem Inv.pins_of {pins':List (Addr×Obj)} (I:Inv X pins σ H s) (h:∀ p∈pins',s.heap.get? p.1=some p.2∧H p.1=none∧p.1≠X.env.locals∧p.1 ∉ X.fs∧∀ v,p.2.data≠.cell v):Inv X pins' σ H s :=
 ⟨I.ok,I.os,I.bare,I.base,I.loc,I.cell,I.free,I.freeC,fun p hp=>(List.mem_append.mp hp).elim (fun z=>I.pin p (List.mem_append_left _ z)) (h p),I.hok,I.len⟩
theorem nodup_ix {N:List Str} (hN:N.Nodup) {i j:Nat}{x:Str} (a:N[i]?=some x) (b:N[j]?=some x):i=j:=by
 obtain⟨h1,e1⟩:=List.getElem?_eq_some_iff.mp a
 obtain⟨h2,e2⟩:=List.getElem?_eq_some_iff.mp b
 exact (List.getElem_inj hN).mp (e1.trans e2.symm)
theorem store_ok2 {M:Model}{A:Around}{E:Value→Shared→Prop}{i:Nat}{x:Str}{v:V}{u:Value}{Q:Unit→Shared→Prop} (I:Inv X pins σ H s) (hN:X.N.Nodup) (hi:X.N[i]?=some x) (hx:Loc X.env.scope x) (r:RelV v u)
  (h:∀ s',Inv X pins (σ.set i (some v)) H s'→(∃ a,Heap.SameBut a s.heap s'.heap∧(a=X.env.locals∨X.env.cells.lookup x=some a))→Q () s') (hf:X.fn x=true∨X.env.scope.names.lookup x=some .local:=by first | exact .inl rfl | exact .inr rfl | assumption):wpAny M A (storeName X.env x u) Q E s:=by
 obtain⟨m,hn,hl⟩:=id I.loc
 have hcls:(X.env.scope.kind == .class || (X.env.scope.kind == .module && X.env.locals != X.env.globals))=false:=by rw [I.ok.kind]; rfl
 have hiσ:i<σ.length:=by rw [I.len]; exact (List.getElem?_eq_some_iff.mp hi).1
 have cne:=I.cne
 have tracked:∀ {a:Addr}{h':Heap},(∃ o,s.heap.get? a=some o∧H a=none)→Heap.SameBut a s.heap h'→HOk X.prog X.w H h':=fun {a h'} ha hs b ob e=>by
  obtain⟨_,_,hfree⟩:=ha
  refine (I.hok b ob e).stay (fun c w' hc q=>(hs.2 c ?_).trans q) (fun _ q=>q) fun _ _ q=>q
  rintro rfl
  rcases hc with rfl | hc
  ·rw [hfree] at e; cases e
  ·rw [hfree] at hc; cases hc
 rcases hx with hk | hk
 ·refine wpAny_storeName_local hk hn (fun h' hn' hs=>?_) hcls
  obtain⟨oL,_,_,hoL,_⟩:=id hn
  refine h _ ⟨I.ok,I.os,I.bare,⟨fun b o e n hb hx=>?_,fun b o e n hb hx=>?_,I.base.free,fun b o e hx=>?_,I.base.tups,I.base.frzs,I.base.tbls⟩,⟨_,hn',fun j y v' e1 e2 e3=>?_⟩,fun y c e=>?_,I.free,I.freeC,fun p hp=>?_,tracked ⟨oL,hoL,I.free⟩ hs,by simpa using I.len⟩ ⟨_,hs,.inl rfl⟩
  ·exact (hs.2 b (Nat.ne_of_lt (Nat.lt_of_lt_of_le (Heap.lt_size e) I.ok.above))).trans (I.base.keep b o e n hb hx)
  ·obtain⟨sl,e1⟩:=I.base.slot b o e n hb hx
   exact⟨sl,(hs.2 b (Nat.ne_of_lt (Nat.lt_of_lt_of_le (Heap.lt_size e) I.ok.above))).trans e1⟩
  ·obtain⟨o',e1⟩:=I.base.there b o e hx
   exact⟨o',(hs.2 b (Nat.ne_of_lt (Nat.lt_of_lt_of_le (Heap.lt_size e) I.ok.above))).trans e1⟩
  ·by_cases hj:j=i
   ·subst hj
    rw [hi] at e1; cases e1
    rw [List.getElem?_set_self hiσ] at e2
    cases e2
    exact⟨u,r,.inl ⟨hk,by simp⟩⟩
   ·rw [List.getElem?_set_ne (Ne.symm hj)] at e2
    obtain⟨u',r',q⟩:=hl j y v' e1 e2 e3
    refine⟨u',r',?_⟩
    rcases q with⟨k,e⟩ | ⟨k,c,e,z⟩
    ·refine .inl ⟨k,?_⟩
     have:y≠x:=fun e=>hj (nodup_ix hN e1 (e ▸ hi))
     simp [this,e]
    ·exact .inr ⟨k,c,e,z.sameBut hs (cne y c e)⟩
  ·obtain⟨w',z⟩:=I.cell y c e
   exact⟨w',z.sameBut hs (cne y c e)⟩
  ·obtain⟨e,n,ne,nf,d⟩:=I.pin p hp
   exact⟨(hs.2 p.1 ne).trans e,n,ne,nf,d⟩
 ·have hfn:X.fn x=true:=by
   rcases hf with z | z
   ·exact z
   ·rw [z] at hk; cases hk
  obtain⟨c,hc⟩:=I.ok.has x (.inl hk)
  obtain⟨w',z⟩:=I.cell x c hc
  refine wpAny_storeName_cell I.ok.kind hk hc z (fun h' hc' hs=>?_)
  obtain⟨oc,hoc,hocd⟩:=id z
  refine h { s with heap:=h' } ⟨I.ok,I.os,I.bare,⟨fun b o e n hb hx=>?_,fun b o e n hb hx=>?_,I.base.free,fun b o e hx=>?_,I.base.tups,I.base.frzs,I.base.tbls⟩,⟨m,hn.sameBut hs (Ne.symm (cne x c hc)),fun j y v' e1 e2 e3=>?_⟩,fun y c' e=>?_,I.free,I.freeC,fun p hp=>?_,tracked ⟨oc,hoc,I.freeC x c hc⟩ hs,by simpa using I.len⟩ ⟨c,hs,.inr hc⟩
  ·exact (hs.2 b (Nat.ne_of_lt (Nat.lt_of_lt_of_le (Heap.lt_size e) (I.ok.cab x c hfn hc)))).trans (I.base.keep b o e n hb hx)
  ·obtain⟨sl,e1⟩:=I.base.slot b o e n hb hx
   exact⟨sl,(hs.2 b (Nat.ne_of_lt (Nat.lt_of_lt_of_le (Heap.lt_size e) (I.ok.cab x c hfn hc)))).trans e1⟩
  ·obtain⟨o',e1⟩:=I.base.there b o e hx
   exact⟨o',(hs.2 b (Nat.ne_of_lt (Nat.lt_of_lt_of_le (Heap.lt_size e) (I.ok.cab x c hfn hc)))).trans e1⟩
  ·by_cases hj:j=i
   ·subst hj
    rw [hi] at e1; cases e1
    rw [List.getElem?_set_self hiσ] at e2
    cases e2
    exact⟨u,r,.inr ⟨.inl hk,c,hc,hc'⟩⟩
   ·rw [List.getElem?_set_ne (Ne.symm hj)] at e2
    obtain⟨u',r',q⟩:=hl j y v' e1 e2 e3
    refine⟨u',r',?_⟩
    rcases q with q | ⟨k,c',e,z'⟩
    ·exact .inl q
    ·refine .inr ⟨k,c',e,z'.sameBut hs ?_⟩
     rintro rfl
     exact hj (nodup_ix hN e1 (I.ok.inj _ _ _ e hc ▸ hi))
  ·by_cases hcc:c'=c
   ·subst hcc; exact⟨_,hc'⟩
   ·obtain⟨w2,z2⟩:=I.cell y c' e
    exact⟨w2,z2.sameBut hs hcc⟩
  ·obtain⟨e,n,ne,nf,d⟩:=I.pin p hp
   refine⟨(hs.2 p.1 ?_).trans e,n,ne,nf,d⟩
   intro q
   rw [q,hoc] at e
   have q':oc=p.2:=Option.some.inj e
   exact d w' (by rw [← q']; exact hocd)
theorem store_ok {M:Model}{A:Around}{E:Value→Shared→Prop}{i:Nat}{x:Str}{v:V}{u:Value}{Q:Unit→Shared→Prop} (I:Inv X pins σ H s) (hN:X.N.Nodup) (hi:X.N[i]?=some x) (hx:Loc X.env.scope x) (r:RelV v u)
  (h:∀ s',Inv X pins (σ.set i (some v)) H s'→Q () s') (hf:X.fn x=true∨X.env.scope.names.lookup x=some .local:=by first | exact .inl rfl | exact .inr rfl | assumption):wpAny M A (storeName X.env x u) Q E s :=
 store_ok2 I hN hi hx r (fun s' I' _=>h s' I') hf
end
abbrev XK:=Value→Option Addr→Hp→Prop
abbrev St:=List (Option V)
abbrev VK:=V→Hp→Prop
abbrev TE:=St→Hp→VK→Prop
abbrev TT:=St→Hp→(Bool→Hp→Prop)→Prop
abbrev TA:=St→Hp→(List V→Hp→Prop)→Prop
structure Ends where
 nx:St→Hp→Prop
 rt:VK
 bk:St→Hp→Prop:=fun _ _=>False
 ct:St→Hp→Prop:=fun _ _=>False
abbrev TS:=Ends→St→Hp→Prop
def EP (X:Cx) (pins:List (Addr×Obj)) (σ:St) (Q:VK) (u:Value) (s':Shared):Prop:=∃ v H',Inv X pins σ H' s'∧RelV v u∧Q v H'
def TP (X:Cx) (pins:List (Addr×Obj)) (σ:St) (Q:Bool→Hp→Prop) (b:Bool) (s':Shared):Prop:=∃ H',Inv X pins σ H' s'∧Q b H'
def AP (X:Cx) (pins:List (Addr×Obj)) (σ:St) (Q:List V→Hp→Prop) (us:List Value) (s':Shared):Prop:=∃ vs H',Inv X pins σ H' s'∧Vals vs us∧Q vs H'
def SP (X:Cx) (pins:List (Addr×Obj)) (D:Ends) (f:Flow) (s':Shared):Prop :=
 match f with
 | .next=>∃ σ' H',Inv X pins σ' H' s'∧D.nx σ' H'
 | .brk=>∃ σ' H',Inv X pins σ' H' s'∧D.bk σ' H'
 | .cont=>∃ σ' H',Inv X pins σ' H' s'∧D.ct σ' H'
 | .ret u=>∃ v σ' H',Inv X pins σ' H' s'∧RelV v u∧D.rt v H'
def PE (X:Cx) (e:Expr) (t:TE):Prop :=
 ∀ (pins:List (Addr×Obj)) (s:Shared) (σ:St) (H:Hp) (Q:VK),Inv X pins σ H s→t σ H Q→wpAny (model X.prog X.w) X.A (eval e X.env) (EP X pins σ Q) X.xe s
def PT (X:Cx) (e:Expr) (t:TT):Prop :=
 ∀ (pins:List (Addr×Obj)) (s:Shared) (σ:St) (H:Hp) (Q:Bool→Hp→Prop),Inv X pins σ H s→t σ H Q→wpAny (model X.prog X.w) X.A (isTrue e X.env (eval e X.env)) (TP X pins σ Q) X.xe s
def PW (X:Cx) (e:Expr) (t:TT):Prop :=
 ∀ (whole:Sem Value) (pins:List (Addr×Obj)) (s:Shared) (σ:St) (H:Hp) (Q:Bool→Hp→Prop),Inv X pins σ H s→t σ H Q→wpAny (model X.prog X.w) X.A (isTrue e X.env whole) (TP X pins σ Q) X.xe s
theorem PW.pt {X:Cx}{e:Expr}{t:TT} (h:PW X e t):PT X e t:=h _
def PA (X:Cx) (es:List Expr) (t:TA):Prop :=
 ∀ (pos:Pos) (pins:List (Addr×Obj)) (s:Shared) (σ:St) (H:Hp) (Q:List V→Hp→Prop),Inv X pins σ H s→t σ H Q→wpAny (model X.prog X.w) X.A (spliced (backTo pos (starEach es X.env))) (AP X pins σ Q) X.xe s
def PS (X:Cx) (st:Stmt) (t:TS):Prop :=
 ∀ (pins:List (Addr×Obj)) (s:Shared) (σ:St) (H:Hp) (D:Ends),Inv X pins σ H s→t D σ H→wpAny (model X.prog X.w) X.A (exec st X.env) (SP X pins D) X.xe s
def PSs (X:Cx) (st:List Stmt) (t:TS):Prop :=
 ∀ (pins:List (Addr×Obj)) (s:Shared) (σ:St) (H:Hp) (D:Ends),Inv X pins σ H s→t D σ H→wpAny (model X.prog X.w) X.A (execs st X.env) (SP X pins D) X.xe s
theorem thn {α:Type}{t:Sem α}{Q Q':α→Shared→Prop}{M:Model}{A:Around}{E:Value→Shared→Prop}{s:Shared} (h:wpAny M A t Q E s) (hQ:∀ a s,Q a s→Q' a s):wpAny M A t Q' E s:=wpAny_mono h hQ fun _ _ x=>x
end L2
namespace L2
open PySem PySem.Spec PyProof.Rows
section
variable {X:Cx}
def tVar (i:Nat):TE:=fun σ H Q=>∃ v,σ[i]?=some (some v)∧Q v H
def tC (v:V):TE:=fun _ H Q=>Q v H
theorem pe_var {i:Nat}{x:Str}{pos:Pos} (hN:X.N[i]?=some x) (hv:Vis X.env.scope x) (hd:(x == ("__debug__":Str))=false:=by decide) (hcd:(x == ("__classdict__":Str))=false:=by decide):PE X (.Name x pos) (tVar i):=by
 intro pins s σ H Q I h
 obtain⟨v,e,h⟩:=h
 obtain⟨m,hn,hl⟩:=I.loc
 obtain⟨u,r,l⟩:=hl i x v hN e hv
 have fin:EP X pins σ Q u s:=⟨v,H,I,r,h⟩
 rcases l with⟨hk,hm⟩ | ⟨hk,c,hc,hcell⟩
 ·exact wpAny_Name (wpAny_loadName_local I.ok.kind hk hn hm fin) hd
 ·rcases hk with hk | hk
  ·exact wpAny_Name (wpAny_loadName_cell I.ok.kind hk hc hcell fin) hd
  ·exact wpAny_Name (wpAny_loadName_free I.ok.kind hk hc hcell fin hcd) hd
theorem pe_int {i j pos}:PE X (.Constant (.int i) j pos) (tC (.int i)):=fun _ _ _ H _ I h=>wpAny_Constant_int ⟨.int i,H,I.tok _,⟨_,rfl⟩,h⟩
theorem pe_bl {b j pos}:PE X (.Constant (.bool b) j pos) (tC (.bl b)):=fun _ _ _ H _ I h=>Constant_bool ⟨.bl b,H,I,rfl,h⟩
theorem agL {j pos}:PE X (.Constant .none j pos) (tC .non):=fun _ _ _ H _ I h=>Constant_none ⟨.non,H,I,rfl,h⟩
theorem agI {x j pos}:PE X (.Constant (.str x) j pos) (tC (.str x)):=fun _ _ _ H _ I h=>Calls.Constant_str ⟨.str x,H,I.tok _,⟨_,rfl⟩,h⟩
def Gl (X:Cx) (x:Str):Prop:=X.env.kindOf x=some .globalImplicit
theorem ld_glob {E:Value→Shared→Prop}{pins:List (Addr×Obj)}{s:Shared}{σ:St}{H:Hp}{x:Str}{u:Value}{pos:Pos}{Q:Value→Shared→Prop} (I:Inv X pins σ H s) (hg:Gl X x) (hm:X.mg x=some u) (h:Q u s)
  (hd:(x == ("__debug__":Str))=false:=by decide):wpAny (model X.prog X.w) X.A (eval (.Name x pos) X.env) Q E s :=
 Calls.Name_function_global I.ok.kind hg (Calls.loadGlobal_global (by rw [I.ok.glob]; exact I.mod.glob.keeps I.bk) hm h) hd
theorem ld_blt {E:Value→Shared→Prop}{pins:List (Addr×Obj)}{s:Shared}{σ:St}{H:Hp}{x:Str}{u:Value}{pos:Pos}{Q:Value→Shared→Prop} (I:Inv X pins σ H s) (hg:Gl X x) (hm:X.mg x=none) (hv:bootBuiltins x=some u) (h:Q u s)
  (hn:x≠"__name__":=by decide) (hd:(x == ("__debug__":Str))=false:=by decide):wpAny (model X.prog X.w) X.A (eval (.Name x pos) X.env) Q E s:=by
 obtain⟨mb,h1,h2⟩:=I.mod.blt
 exact Calls.Name_function_global I.ok.kind hg (Calls.loadGlobal_builtin (by rw [I.ok.glob]; exact I.mod.glob.keeps I.bk) hm (by rw [I.ok.blt]; exact h1.keeps I.bk) ((h2 x hn).trans hv) h) hd
theorem afn {x:Str}{v:V}{u:Value}{pos:Pos} (hg:Gl X x) (hm:X.mg x=some u) (r:RelV v u) (hd:(x == ("__debug__":Str))=false:=by decide):PE X (.Name x pos) (tC v) :=
 fun _ _ _ H _ I h=>ld_glob I hg hm ⟨v,H,I,r,h⟩ hd
theorem afo {x:Str}{v:V}{u:Value}{pos:Pos} (hg:Gl X x) (hm:X.mg x=none) (hv:bootBuiltins x=some u) (r:RelV v u) (hn:x≠"__name__":=by decide) (hd:(x == ("__debug__":Str))=false:=by decide):PE X (.Name x pos) (tC v) :=
 fun _ _ _ H _ I h=>ld_blt I hg hm hv ⟨v,H,I,r,h⟩ hn hd
variable {a b:Expr}{ta tb:TE}{pos:Pos}
def tB (t:TE):TT:=fun σ H Q=>t σ H fun x H1=>∃ c,x=.bl c∧Q c H1
theorem agz {e:Expr}{t:TE} (h:PE X e t) (he:∀ whole,isTrue e X.env whole=(do let v ← whole; standAt e.pos; holding [v] (truthy v)):=by intro _; rfl):PT X e (tB t):=by
 intro pins s σ H Q I hw
 refine isTrue_plain (thn (h pins s σ H _ I hw) fun v s1 ⟨x,H1,I1,r1,q1⟩=>?_) (he _)
 obtain⟨d,rfl,q⟩:=q1
 cases r1
 exact wpAny_truthy_bool ⟨H1,I1,q⟩
variable {tA tB':TT}{rest:List Expr}
def Zn (t u:TT):TT:=fun σ H Q=>t σ H fun c H1=>if c=true then u σ H1 Q else Q false H1
def tOr (t u:TT):TT:=fun σ H Q=>t σ H fun c H1=>if c=true then Q true H1 else u σ H1 Q
def aga (t:TT):TT:=fun σ H Q=>t σ H fun c H1=>Q (!c) H1
theorem afc (ha:PT X a tA):PW X (.BoolOp .And [a] pos) tA:=by
 intro wh pins s σ H Q I h
 refine isTrue_and (thn (ha pins s σ H Q I h) fun c s1 e=>?_)
 cases c with
 | true=>exact isTrue_and_nil e
 | false=>exact e
theorem agx (ha:PT X a tA):PW X (.BoolOp .Or [a] pos) tA:=by
 intro wh pins s σ H Q I h
 refine isTrue_or (thn (ha pins s σ H Q I h) fun c s1 e=>?_)
 cases c with
 | false=>exact isTrue_or_nil e
 | true=>exact e
theorem agy (ha:PT X a tA) (hb:PW X (.BoolOp .And (b::rest) pos) tB'):PW X (.BoolOp .And (a::b::rest) pos) (Zn tA tB'):=by
 intro wh pins s σ H Q I h
 refine isTrue_and (thn (ha pins s σ H _ I h) fun c s1 ⟨H1,I1,q1⟩=>?_)
 cases c with
 | true=>exact hb wh pins s1 σ H1 Q I1 q1
 | false=>exact⟨H1,I1,q1⟩
theorem ai4 (ha:PT X a tA) (hb:PW X (.BoolOp .Or (b::rest) pos) tB'):PW X (.BoolOp .Or (a::b::rest) pos) (tOr tA tB'):=by
 intro wh pins s σ H Q I h
 refine isTrue_or (thn (ha pins s σ H _ I h) fun c s1 ⟨H1,I1,q1⟩=>?_)
 cases c with
 | true=>exact⟨H1,I1,q1⟩
 | false=>exact hb wh pins s1 σ H1 Q I1 q1
theorem agA (ha:PT X a tA):PT X (.UnaryOp .Not a pos) (aga tA):=by
 intro pins s σ H Q I h
 exact isTrue_not (ha pins s σ H (fun c H1=>Q (!c) H1) I h)
def aez (ta tb:TE):TE:=fun σ H Q=>ta σ H fun x H1=>∃ c,x=.bl c∧if c=true then tb σ H1 Q else Q (.bl false) H1
def aew (ta:TE):TE:=fun σ H Q=>ta σ H fun x H1=>∃ c,x=.bl c∧Q (.bl (!c)) H1
theorem agJ {op}{t:TE} (h:PE X a t):PE X (.BoolOp op [a] pos) t:=fun pins s σ H Q I hw=>BoolOp_one (h pins s σ H Q I hw)
theorem agO (ha:PE X a ta) (hb:PE X (.BoolOp .And (b::rest) pos) tb):PE X (.BoolOp .And (a::b::rest) pos) (aez ta tb):=by
 intro pins s σ H Q I h
 refine BoolOp_and (thn (ha pins s σ H _ I h) fun v s1 ⟨x,H1,I1,r1,q1⟩=>?_)
 obtain⟨c,rfl,q1⟩:=q1
 cases r1
 refine wpAny_truthy_bool ?_
 cases c with
 | true=>exact hb pins s1 σ H1 Q I1 q1
 | false=>exact⟨.bl false,H1,I1,rfl,q1⟩
theorem agK (ha:PE X a ta):PE X (.UnaryOp .Not a pos) (aew ta):=by
 intro pins s σ H Q I h
 refine UnaryOp_ (thn (ha pins s σ H _ I h) fun v s1 ⟨x,H1,I1,r1,q1⟩=>?_)
 obtain⟨c,rfl,q1⟩:=q1
 cases r1
 exact not_of (wpAny_truthy_bool ⟨.bl (!c),H1,I1,rfl,q1⟩)
def tIf (t:TT) (ta tb:TE):TE:=fun σ H Q=>t σ H fun c H1=>if c=true then ta σ H1 Q else tb σ H1 Q
theorem adB {c:Expr} (hc:PT X c tA) (ha:PE X a ta) (hb:PE X b tb):PE X (.IfExp c a b pos) (tIf tA ta tb):=by
 intro pins s σ H Q I h
 refine wpAny_IfExp (thn (hc pins s σ H _ I h) fun d s1 ⟨H1,I1,q1⟩=>?_)
 cases d with
 | true=>exact ha pins s1 σ H1 Q I1 q1
 | false=>exact hb pins s1 σ H1 Q I1 q1
end
end L2
namespace L2
open PySem PySem.Spec PyProof.Rows
def SqL (K:PySem.W.Frag) (H:Hp) (a:Addr) (xs:List V):Prop :=
 Rd H a (.lst xs) ∨
  ∃ (o:Obj) (its:Array Value) (n:Nat),K.lookup a=some o∧o.cls=.type "list"∧o.dict=none∧o.data=.seq its n∧its.size≤sizeLine∧Vals xs its.toList
def SqT (K:PySem.W.Frag) (H:Hp) (a:Addr) (xs:List V):Prop :=
 Rd H a (.tup xs) ∨
  ∃ (o:Obj) (its:Array Value) (n:Nat),K.lookup a=some o∧o.cls=.type "tuple"∧o.data=.seq its n∧its.size≤sizeLine∧Vals xs its.toList
def absV:Value→Option V
 | .none=>some .non
 | .bool b=>some (.bl b)
 | .int i _=>some (.int i)
 | .str x _=>some (.str x)
 | .bytes b _=>some (.byt b)
 | .float b _=>some (.flt b)
 | .ref a=>some (.ref a)
 | .type n=>some (.ty n)
 | _=>none
theorem RelV.abs {x:V}{u:Value} (r:RelV x u):absV u=some x:=by
 cases x with
 | non=>cases r; rfl
 | bl _=>cases r; rfl
 | int _=>obtain⟨t,rfl⟩:=r; rfl
 | str _=>obtain⟨t,rfl⟩:=r; rfl
 | byt _=>obtain⟨t,rfl⟩:=r; rfl
 | flt _=>obtain⟨t,rfl⟩:=r; rfl
 | ref _=>cases r; rfl
 | ty _=>cases r; rfl
theorem RelV.inj {x y:V}{u:Value} (r:RelV x u) (q:RelV y u):x=y:=Option.some.inj (r.abs.symm.trans q.abs)
theorem Vals.inj:∀ {xs ys:List V}{us:List Value},Vals xs us→Vals ys us→xs=ys
 | _,_,_,.nil,.nil=>rfl
 | _,_,_,.cons r t,.cons r' t'=>by rw [r.inj r',Vals.inj t t']
section
variable {X:Cx}{pins:List (Addr×Obj)}{σ:St}{H:Hp}{s:Shared}{a:Addr}{xs ys:List V}
theorem SqL.of {K:PySem.W.Frag} (h:H a=some (.lst xs)):SqL K H a xs:=.inl (.inl h)
theorem SqT.of {K:PySem.W.Frag} (h:H a=some (.tup xs)):SqT K H a xs:=.inl (.inl h)
theorem Inv.list (I:Inv X pins σ H s) (h:SqL X.K H a xs):∃ its:List Value,Vals xs its∧PlainL s.heap a its.toArray∧xs.length≤sizeLine:=by
 rcases h with h | ⟨o,its,n,hk,hc,hd,hs,hz,r⟩
 ·obtain⟨z,its,n,r,e⟩:=h.ok I.hok
  exact⟨its,r,⟨_,n,e,rfl,rfl,rfl⟩,z⟩
 ·refine⟨its.toList,r,⟨o,n,I.kIn a o hk,hc,hd,by simpa using hs⟩,?_⟩
  have e:=r.length
  simp only [Array.length_toList] at e
  lia
theorem Inv.tuple (I:Inv X pins σ H s) (h:SqT X.K H a xs):∃ its:List Value,Vals xs its∧IsTup s.heap a its.toArray∧xs.length≤sizeLine:=by
 rcases h with h | ⟨o,its,n,hk,hc,hs,hz,r⟩
 ·obtain⟨z,its,r,p⟩:=h.ok I.hok
  exact⟨its,r,p,z⟩
 ·refine⟨its.toList,r,⟨o,I.kIn a o hk,hc,n,by simpa using hs⟩,?_⟩
  have e:=r.length
  simp only [Array.length_toList] at e
  lia
theorem Inv.list_inj (I:Inv X pins σ H s) (h:SqL X.K H a xs) (h':SqL X.K H a ys):xs=ys:=by
 obtain⟨its,r,⟨o,n,e,_,_,d⟩,_⟩:=I.list h
 obtain⟨its',r',⟨o',n',e',_,_,d'⟩,_⟩:=I.list h'
 rw [e] at e'; cases e'
 rw [d] at d'
 injection d' with d1 _
 have:its=its':=by simpa using congrArg Array.toList d1
 subst this
 exact r.inj r'
theorem Inv.uN (I:Inv X pins σ H s) (h:SqT X.K H a xs) (h':SqT X.K H a ys):xs=ys:=by
 obtain⟨its,r,⟨o,e,_,n,d⟩,_⟩:=I.tuple h
 obtain⟨its',r',⟨o',e',_,n',d'⟩,_⟩:=I.tuple h'
 rw [e] at e'; cases e'
 rw [d] at d'
 injection d' with d1 _
 have:its=its':=by simpa using congrArg Array.toList d1
 subst this
 exact r.inj r'
end
abbrev Cx.wish (X:Cx) (E:Value→Shared→Prop):Cx:={ X with xe:=E }
abbrev Cx.nox (X:Cx):Cx:=X.wish fun _ _=>False
theorem Cx.Ok.wish {X:Cx} (ok:X.Ok) (E:Value→Shared→Prop):(X.wish E).Ok :=
 ⟨ok.mod,ok.kind,ok.glob,ok.blt,ok.above,ok.inj,ok.has,ok.cab,ok.hd,ok.frames,ok.stk,ok.exf,ok.bs,ok.bsz,ok.noex,ok.exfs,ok.funs,ok.frf⟩
theorem Cx.Ok.unwish {X:Cx}{E:Value→Shared→Prop} (ok:(X.wish E).Ok):X.Ok :=
 ⟨ok.mod,ok.kind,ok.glob,ok.blt,ok.above,ok.inj,ok.has,ok.cab,ok.hd,ok.frames,ok.stk,ok.exf,ok.bs,ok.bsz,ok.noex,ok.exfs,ok.funs,ok.frf⟩
section
variable {X:Cx}{pins:List (Addr×Obj)}{σ:St}{H:Hp}{s:Shared}{E:Value→Shared→Prop}
theorem Inv.wish (I:Inv X pins σ H s) (E:Value→Shared→Prop):Inv (X.wish E) pins σ H s:=⟨I.ok.wish E,I.os,I.bare,I.base,I.loc,I.cell,I.free,I.freeC,I.pin,I.hok,I.len⟩
theorem Inv.unwish (I:Inv (X.wish E) pins σ H s):Inv X pins σ H s:=⟨I.ok.unwish,I.os,I.bare,I.base,I.loc,I.cell,I.free,I.freeC,I.pin,I.hok,I.len⟩
theorem SP.unwish {D:Ends}{f:Flow}{s':Shared} (h:SP (X.wish E) pins D f s'):SP X pins D f s':=by
 cases f with
 | next=>obtain⟨σ',H',I,q⟩:=h; exact⟨σ',H',I.unwish,q⟩
 | brk=>obtain⟨σ',H',I,q⟩:=h; exact⟨σ',H',I.unwish,q⟩
 | cont=>obtain⟨σ',H',I,q⟩:=h; exact⟨σ',H',I.unwish,q⟩
 | ret u=>obtain⟨v,σ',H',I,r,q⟩:=h; exact⟨v,σ',H',I.unwish,r,q⟩
theorem PSs.nox {st:List Stmt}{t:TS} (h:PSs X.nox st t):PSs X st t:=fun pins s σ H D I hw =>
 wpAny_mono (h pins s σ H D (I.wish _) hw) (fun _ _ q=>q.unwish) fun _ _ z=>False.elim z
end
section
variable {X:Cx}{st:Stmt}{rest:List Stmt}{t u:TS}{e:Expr}{te:TE}{pos:Pos}
def tNext:TS:=fun D σ H=>D.nx σ H
def tSeq (t u:TS):TS:=fun D σ H=>t { D with nx:=u D } σ H
theorem pss_nil:PSs X [] tNext:=fun _ _ σ H _ I h=>wpAny_execs_nil ⟨σ,H,I,h⟩
theorem pss_cons (h1:PS X st t) (h2:PSs X rest u):PSs X (st::rest) (tSeq t u):=by
 intro pins s σ H D I h
 refine wpAny_execs_cons (thn (h1 pins s σ H { D with nx:=u D } I h) fun f s1 q=>?_)
 cases f with
 | next =>
  obtain⟨σ',H',I',q⟩:=q
  exact h2 pins s1 σ' H' D I' q
 | ret v=>exact q
 | brk=>exact q
 | cont=>exact q
theorem pss_one (h1:PS X st t):PSs X [st] t:=by
 intro pins s σ H D I h
 refine wpAny_execs_cons (thn (h1 pins s σ H D I h) fun f s1 q=>?_)
 cases f with
 | next=>exact wpAny_execs_nil q
 | ret v=>exact q
 | brk=>exact q
 | cont=>exact q
def aex:TS:=fun D σ H=>D.ct σ H
theorem afe:PS X (.Pass pos) tNext:=fun _ _ σ H _ I h=>wpAny_Pass ⟨σ,H,I,h⟩
theorem Xd:PS X (.Continue pos) aex:=fun _ _ σ H _ I h=>wpAny_Continue ⟨σ,H,I,h⟩
theorem Inv.quiet {pins:List (Addr×Obj)}{σ:St}{H:Hp}{s:Shared} (I:Inv X pins σ H s):interactive X.env=false:=by simp [interactive,I.ok.kind]
def tDrop (te:TE):TS:=fun D σ H=>te σ H fun _ H1=>D.nx σ H1
theorem ps_expr (he:PE X e te) (hs:swapsWith e none pos.line X.env=pure false:=by rfl):PS X (.Expr e pos) (tDrop te):=by
 intro pins s σ H D I h
 exact wpAny_Expr_any (thn (he pins s σ H _ I h) fun v s1 ⟨x,H1,I1,r1,q1⟩=>⟨σ,H1,I1,q1⟩) I.quiet hs
def tRet (te:TE):TS:=fun D σ H=>te σ H D.rt
theorem ps_ret (he:PE X e te):PS X (.Return (some e) pos) (tRet te):=by
 intro pins s σ H D I h
 exact wpAny_Return_some (thn (he pins s σ H _ I h) fun v s1 ⟨x,H1,I1,r1,q1⟩=>⟨x,σ,H1,I1,r1,q1⟩)
def aes:TS:=fun D _ H=>D.rt .non H
theorem afd:PS X (.Return none pos) aes:=fun _ _ σ H _ I h=>wpAny_Return_none ⟨.non,σ,H,I,rfl,h⟩
def tIfS (c:TT) (t u:TS):TS:=fun D σ H=>c σ H fun b H1=>if b=true then t D σ H1 else u D σ H1
theorem ps_if {c:Expr}{a b:List Stmt}{tc:TT} (hc:PT X c tc) (ha:PSs X a t) (hb:PSs X b u):PS X (.If c a b pos) (tIfS tc t u):=by
 intro pins s σ H D I h
 refine wpAny_If (thn (hc pins s σ H _ I h) fun d s1 ⟨H1,I1,q1⟩=>?_)
 cases d with
 | true=>exact ha pins s1 σ H1 D I1 q1
 | false=>exact hb pins s1 σ H1 D I1 q1
def abl:TS:=fun _ _ _=>False
theorem adx:PS X st abl:=fun _ _ _ _ _ _ h=>h.elim
end
abbrev TG:=V→St→Hp→(St→Hp→Prop)→Prop
abbrev TGs:=List V→St→Hp→(St→Hp→Prop)→Prop
def PG (X:Cx) (target:Expr) (t:TG):Prop :=
 ∀ (pins:List (Addr×Obj)) (s:Shared) (σ:St) (H:Hp) (v:V) (u:Value) (Q:St→Hp→Prop),Inv X pins σ H s→RelV v u→t v σ H Q →
  wpAny (model X.prog X.w) X.A (assign target X.env u) (fun _ s'=>∃ σ' H',Inv X pins σ' H' s'∧Q σ' H') X.xe s
def PGs (X:Cx) (ts:List Expr) (t:TGs):Prop :=
 ∀ (pins:List (Addr×Obj)) (s:Shared) (σ:St) (H:Hp) (vs:List V) (us:List Value) (Q:St→Hp→Prop),Inv X pins σ H s→Vals vs us→t vs σ H Q →
  wpAny (model X.prog X.w) X.A (assignInOrder ((assignEach ts X.env).map (·.2)) us) (fun _ s'=>∃ σ' H',Inv X pins σ' H' s'∧Q σ' H') X.xe s
abbrev LR:=V→V→V→Hp→(Hp→Prop)→Prop
def Wt (X:Cx) (t:LR):Prop :=
 ∀ (pins:List (Addr×Obj)) (s:Shared) (σ:St) (H:Hp) (o i v:V) (ov iv u:Value) (Q:Hp→Prop),Inv X pins σ H s→RelV o ov→RelV i iv→RelV v u→t o i v H Q →
  wpAny (model X.prog X.w) X.A (setItem ov iv u) (fun _ s'=>∃ H',Inv X pins σ H' s'∧Q H') X.xe s
abbrev TIp:=V→V→Hp→VK→Prop
def PIp (X:Cx) (op:Operator) (t:TIp):Prop :=
 ∀ (pins:List (Addr×Obj)) (s:Shared) (σ:St) (H:Hp) (x y:V) (v u:Value) (Q:VK),Inv X pins σ H s→RelV x v→RelV y u→t x y H Q →
  wpAny (model X.prog X.w) X.A (inplaceOp op v u) (EP X pins σ Q) X.xe s
section
variable {X:Cx}{pos:Pos}
def gName (i:Nat):TG:=fun v σ H Q=>Q (σ.set i (some v)) H
theorem pg_name {i:Nat}{x:Str} (hN:X.N.Nodup) (hi:X.N[i]?=some x) (hx:Loc X.env.scope x) (hf:X.fn x=true∨X.env.scope.names.lookup x=some .local:=by first | exact .inl rfl | exact .inr rfl | assumption):PG X (.Name x pos) (gName i):=by
 intro pins s σ H v u Q I r h
 exact wpAny_assign_Name (store_ok I hN hi hx r (fun s' I'=>⟨_,H,I',h⟩) hf)
def ad6:TGs:=fun vs σ H Q=>vs=[]∧Q σ H
def SN (t:TG) (u:TGs):TGs:=fun vs σ H Q=>∃ v r,vs=v::r∧t v σ H fun σ' H'=>u r σ' H' Q
theorem Yx:PGs X [] ad6:=by
 intro pins s σ H vs us Q I r h
 obtain⟨e,h⟩:=h
 subst e
 cases r
 exact assignInOrder_nil ⟨σ,H,I,h⟩
theorem J9 {e:Expr}{es:List Expr}{t:TG}{u:TGs} (h1:PG X e t) (h2:PGs X es u)
  (hs:(assignEach (e::es) X.env).map (·.2)=assign e X.env::(assignEach es X.env).map (·.2):=by rfl):PGs X (e::es) (SN t u):=by
 intro pins s σ H vs us Q I r h
 obtain⟨v,vr,e1,h⟩:=h
 subst e1
 cases r with
 | cons r rr =>
  rw [hs]
  refine assignInOrder_cons (thn (h1 pins s σ H _ _ _ I r h) fun _ s1 ⟨σ1,H1,I1,q1⟩=>?_)
  exact h2 pins s1 σ1 H1 _ _ Q I1 rr q1
def ad5 (K:PySem.W.Frag) (n:Nat) (t:TGs):TG:=fun v σ H Q=>∃ a xs,v=.ref a∧SqT K H a xs∧xs.length=n∧t xs σ H Q
theorem abL {es:List Expr}{k:Nat}{t:TGs}{n:Nat} (hc:X.calm=true) (h:PGs X es t)
  (hn:(assignEach es X.env).length=n:=by rfl) (hst:(assignEach es X.env).findIdx? (·.1)=none:=by rfl):PG X (.Tuple es k pos) (ad5 X.K n t):=by
 intro pins s σ H v u Q I r hw
 obtain⟨a,xs,e1,hq,hl,hw⟩:=hw
 subst e1
 cases r
 obtain⟨its,rv,ht,hz⟩:=I.tuple hq
 refine assign_Tuple_tuple (I.ok.hd hc) ht (by simp [hn,← hl,rv.length]) hst fun h' hx=>?_
 have I1:Inv X pins σ H { s with heap:=h' }:=I.kept (t':=s.toks) fun b o e=>hx b o (Nat.ne_of_lt (Heap.lt_size e)) e
 exact h pins _ σ H xs _ Q I1 (by simpa using rv) hw
def ahx (to ti:TE) (t:LR):TG:=fun v σ H Q=>to σ H fun o H1=>ti σ H1 fun i H2=>t o i v H2 fun H3=>Q σ H3
theorem agG {o i:Expr}{to ti:TE}{t:LR} (ho:PE X o to) (hi:PE X i ti) (hs:Wt X t)
  (ha:∀ v,assign (.Subscript o i pos) X.env v=(do
   let ov ← holding [v] (eval o X.env)
   let iv ← holding [v,ov] (eval i X.env)
   standAt pos
   holding [v,ov,iv] (setItem ov iv v)
   release [v,ov,iv] []):=by intro _; rfl):PG X (.Subscript o i pos) (ahx to ti t):=by
 intro pins s σ H v u Q I r h
 rw [ha]
 refine wpAny_bind (wpAny_holding (thn (ho pins s σ H _ I h) fun ov s1 ⟨x,H1,I1,r1,q1⟩=>?_))
 refine wpAny_bind (wpAny_holding (thn (hi pins s1 σ H1 _ I1 q1) fun iv s2 ⟨y,H2,I2,r2,q2⟩=>?_))
 refine wpAny_bind (wpAny_standAt (wpAny_bind (wpAny_holding (thn (hs pins s2 σ H2 x y v ov iv u _ I2 r1 r2 r q2) fun _ s3 ⟨H3,I3,q3⟩=>?_))))
 exact wpAny_release ⟨σ,H3,I3,q3⟩
def tAsg (te:TE) (g:TG):TS:=fun D σ H=>te σ H fun x H1=>g x σ H1 D.nx
theorem agC {tg e:Expr}{te:TE}{g:TG} (he:PE X e te) (hg:PG X tg g) (hs:swapsWithSole [tg] e pos.line X.env=pure false:=by rfl) (hw:swappedStores [tg] e X.env=pure none:=by rfl)
  (h1:(assignEach [tg] X.env).map (·.2)=[assign tg X.env]:=by rfl):PS X (.Assign [tg] e pos) (tAsg te g):=by
 intro pins s σ H D I h
 refine wpAny_Assign_stores (thn (he pins s σ H _ I h) fun v s1 ⟨x,H1,I1,r1,q1⟩=>?_) hs hw
 rw [h1]
 exact thn (hg pins s1 σ H1 x v _ I1 r1 q1) fun _ s2 q=>q
theorem ps_set {i:Nat}{x:Str}{e:Expr}{te:TE}{pos':Pos} (hN:X.N.Nodup) (hi:X.N[i]?=some x) (hx:Loc X.env.scope x) (he:PE X e te) (hs:swapsWith e (some (.Name x pos')) pos.line X.env=pure false:=by rfl) (hf:X.fn x=true∨X.env.scope.names.lookup x=some .local:=by first | exact .inl rfl | exact .inr rfl | assumption) :
  PS X (.Assign [.Name x pos'] e pos) (tAsg te (gName i)):=by
 intro pins s σ H D I h
 refine wpAny_Assign_Name (thn (he pins s σ H _ I h) fun v s1 ⟨y,H1,I1,r1,q1⟩=>?_) hs
 exact store_ok I1 hN hi hx r1 (fun s2 I2=>⟨_,H1,I2,q1⟩) hf
def agd (i:Nat) (te:TE) (ti:TIp):TS:=fun D σ H=>∃ x,σ[i]?=some (some x)∧te σ H fun y H1=>ti x y H1 fun z H2=>D.nx (σ.set i (some z)) H2
theorem agB {i:Nat}{x:Str}{e:Expr}{te:TE}{op:Operator}{ti:TIp}{pos':Pos} (hN:X.N.Nodup) (hi:X.N[i]?=some x) (hx:Loc X.env.scope x) (he:PE X e te) (ho:PIp X op ti) (hf:X.fn x=true∨X.env.scope.names.lookup x=some .local:=by first | exact .inl rfl | exact .inr rfl | assumption) :
  PS X (.AugAssign (.Name x pos') op e pos) (agd i te ti):=by
 intro pins s σ H D I h
 obtain⟨v,e1,h⟩:=h
 obtain⟨m,hn,hl⟩:=I.loc
 have vis:Vis X.env.scope x:=by rcases hx with k | k; exact .inl k; exact .inr (.inl k)
 obtain⟨u,r,l⟩:=hl i x v hi e1 vis
 refine wpAny_AugAssign_Name ?_
 have go:wpAny (model X.prog X.w) X.A (eval e X.env) (fun w s₂=>wpAny (model X.prog X.w) X.A (inplaceOp op u w) (fun r s₃=>wpAny (model X.prog X.w) X.A (storeName X.env x r) (fun _=>SP X pins D .next) X.xe s₃) X.xe s₂) X.xe s:=by
  refine thn (he pins s σ H _ I h) fun w s1 ⟨y,H1,I1,r1,q1⟩=>?_
  refine thn (ho pins s1 σ H1 v y u w _ I1 r r1 q1) fun z s2 ⟨zv,H2,I2,r2,q2⟩=>?_
  exact store_ok I2 hN hi hx r2 (fun s3 I3=>⟨_,H2,I3,q2⟩) hf
 rcases l with⟨hk,hm⟩ | ⟨hk,c,hc,hcell⟩
 ·exact wpAny_loadName_local I.ok.kind hk hn hm go
 ·rcases hk with hk | hk
  ·exact wpAny_loadName_cell I.ok.kind hk hc hcell go
  ·rcases hx with k | k
   ·have:X.env.scope.names.lookup x=some .free:=hk
    rw [k] at this; cases this
   ·have:X.env.scope.names.lookup x=some .free:=hk
    rw [k] at this; cases this
def aey (to ti te:TE) (JD:V→V→Hp→VK→Prop) (tip:TIp) (JC:LR):TS:=fun D σ H=>to σ H fun o H1=>ti σ H1 fun i H2=>JD o i H2 fun x H3=>te σ H3 fun y H4=>tip x y H4 fun z H5=>JC o i z H5 fun H6=>D.nx σ H6
def aeo (X:Cx) (t:V→V→Hp→VK→Prop):Prop :=
 ∀ (pins:List (Addr×Obj)) (s:Shared) (σ:St) (H:Hp) (o i:V) (ov iv:Value) (Q:VK),Inv X pins σ H s→RelV o ov→RelV i iv→t o i H Q →
  wpAny (model X.prog X.w) X.A (getItem ov iv) (EP X pins σ Q) X.xe s
theorem afg {o i e:Expr}{to ti te:TE}{JD:V→V→Hp→VK→Prop}{tip:TIp}{JC:LR}{op:Operator}{tpos:Pos} (ho:PE X o to) (hi:PE X i ti) (hg:aeo X JD) (he:PE X e te) (hp:PIp X op tip) (hs:Wt X JC)
  (ha:∀ ov iv new,augStore i ov iv new=(do holding [new,ov,iv] (setItem ov iv new); release [new,ov,iv] []; pure .next):=by intros; rfl):PS X (.AugAssign (.Subscript o i tpos) op e pos) (aey to ti te JD tip JC):=by
 intro pins s σ H D I h
 refine wpAny_AugAssign_SubscriptAny (thn (ho pins s σ H _ I h) fun ov s1 ⟨x1,H1,I1,r1,q1⟩=>?_) ha
 refine thn (hi pins s1 σ H1 _ I1 q1) fun iv s2 ⟨x2,H2,I2,r2,q2⟩=>?_
 refine thn (hg pins s2 σ H2 x1 x2 ov iv _ I2 r1 r2 q2) fun old s3 ⟨x3,H3,I3,r3,q3⟩=>?_
 refine thn (he pins s3 σ H3 _ I3 q3) fun v s4 ⟨x4,H4,I4,r4,q4⟩=>?_
 refine thn (hp pins s4 σ H4 x3 x4 old v _ I4 r3 r4 q4) fun new s5 ⟨x5,H5,I5,r5,q5⟩=>?_
 exact thn (hs pins s5 σ H5 x1 x2 x5 ov iv new _ I5 r1 r2 r5 q5) fun _ s6 ⟨H6,I6,q6⟩=>⟨σ,H6,I6,q6⟩
def ipI (f:Int→Int→Int):TIp:=fun x y H Q=>∃ i j,x=.int i∧y=.int j∧Q (.int (f i j)) H
theorem Ba:PIp X .Add (ipI fun i j=>i+j):=by
 intro pins s σ H x y v u Q I r1 r2 h
 obtain⟨i,j,e1,e2,q⟩:=h
 subst e1; subst e2
 obtain⟨t,rfl⟩:=r1
 obtain⟨t',rfl⟩:=r2
 exact iadd_int ⟨.int _,H,I.tok _,⟨_,rfl⟩,q⟩
theorem ahj:PIp X .Sub (ipI fun i j=>i - j):=by
 intro pins s σ H x y v u Q I r1 r2 h
 obtain⟨i,j,e1,e2,q⟩:=h
 subst e1; subst e2
 obtain⟨t,rfl⟩:=r1
 obtain⟨t',rfl⟩:=r2
 exact isub_int ⟨.int _,H,I.tok _,⟨_,rfl⟩,q⟩
end
section
variable {X:Cx}{pos:Pos}
def uO (c:TT) (tb:TS):TS:=fun D σ H=>∃ W:Nat→St→Hp→Prop,(∃ m,W m σ H)∧∀ m σ H,W m σ H →
 c σ H fun b H1=>if b=true then ∃ N:St→Hp→Prop,(∀ σ' H',N σ' H'→∃ m',m'<m∧W m' σ' H')∧tb { D with nx:=N,ct:=N,bk:=D.nx } σ H1 else D.nx σ H1
theorem adv {c:Expr}{body:List Stmt}{tc:TT}{tb:TS} (hp:PassesOwn (model X.prog X.w) X.A X.env X.xe) (hc:PT X c tc) (hb:PSs X body tb):PS X (.While c body [] pos) (uO tc tb):=by
 intro pins s σ H D I h
 obtain⟨W,⟨m0,w0⟩,turn⟩:=h
 refine wpAny_While (codeAny_whileLoop (fun n s'=>∃ σ' H',Inv X pins σ' H' s'∧W n σ' H') ?_ m0 ⟨σ,H,I,w0⟩)
 rintro n s1 ⟨σ1,H1,I1,w1⟩
 refine wpAny_passesOwn hp (thn (hc pins s1 σ1 H1 _ I1 (turn n σ1 H1 w1)) fun b s2 ⟨H2,I2,q2⟩=>?_)
 cases b with
 | true =>
  obtain⟨N,hN,q2⟩:=q2
  rw [if_pos rfl]
  refine wpAny_passesOwn hp (thn (hb pins s2 σ1 H2 _ I2 q2) fun f s3 q3=>?_)
  cases f with
  | next =>
   obtain⟨σ3,H3,I3,n3⟩:=q3
   obtain⟨m',hm,w3⟩:=hN σ3 H3 n3
   exact⟨m',hm,σ3,H3,I3,w3⟩
  | cont =>
   obtain⟨σ3,H3,I3,n3⟩:=q3
   obtain⟨m',hm,w3⟩:=hN σ3 H3 n3
   exact⟨m',hm,σ3,H3,I3,w3⟩
  | brk=>exact q3
  | ret v=>exact q3
 | false =>
  rw [if_neg Bool.false_ne_true]
  exact wpAny_execs_nil ⟨σ1,H2,I2,q2⟩
end
structure It where
 go:Nat→Hp→Prop
 yld:Nat→Hp→V→Hp→Prop
 stop:Nat→Hp→Prop
def FpOk (X:Cx) (pins:List (Addr×Obj)) (H:Hp) (b:Addr):Prop :=
 H b=none∧b≠X.env.locals∧b ∉ X.fs∧(b∈X.ex∨X.s₀.heap.objs.size≤b)∧(∀ x c,X.env.cells.lookup x=some c→c≠b)∧∀ p∈X.pn++pins,p.1≠b
theorem Inv.fpOk {X:Cx}{pins:List (Addr×Obj)}{σ:St}{H H':Hp}{s:Shared}{b:Addr} (I:Inv X pins σ H s) (hb:s.heap.objs.size≤b) (hn:H' b=none):FpOk X pins H' b:=by
 refine⟨hn,Nat.ne_of_gt (Nat.lt_of_lt_of_le I.lt hb),I.nofs hb,.inr (Nat.le_trans I.sz hb),fun x c e z=>?_,fun p hp z=>?_⟩
 ·obtain⟨v,q⟩:=I.cell x c e
  exact absurd (Nat.lt_of_lt_of_le q.lt (by rw [z]; exact hb)) (Nat.lt_irrefl _)
 ·exact absurd (Nat.lt_of_lt_of_le (Heap.lt_size (I.pin p hp).1) (by rw [z]; exact hb)) (Nat.lt_irrefl _)
structure Turn (P:Program) (w:World) (K:PySem.W.Frag) (tg:Expr) (J:It) (fp:List Addr) (it:Addr) (tn:Nat→Heap→Prop):Prop where
 mem:it∈fp
 obj:∀ i h,tn i h→∀ b∈fp,∃ o,h.get? b=some o∧∀ v,o.data≠.cell v
 keep:∀ i h h',tn i h→(∀ b∈fp,∀ o,h.get? b=some o→h'.get? b=some o)→tn i h'
 item:∀ (X:Cx),X.prog=P→X.w=w→X.K=K→X.calm=true→∀ (i:Nat) (pins:List (Addr×Obj)) (s:Shared) (σ:St) (H:Hp) (E:Value→Shared→Prop),Inv X pins σ H s→(∀ b∈fp,FpOk X pins H b)→tn i s.heap→J.go i H →
  wpAny (model P w) X.A (pyNext (.ref it)) (fun r s1=>∃ u,r=some u ∧
   wpAny (model P w) X.A (letOwnedTupleGo tg (.ref it) u) (fun _ s2=>∃ x H',Inv X pins σ H' s2∧RelV x u∧J.yld i H x H'∧tn (i+1) s2.heap∧∀ b∈fp,H' b=none) E s1) E s
 done:∀ (X:Cx),X.prog=P→X.w=w→X.K=K→X.calm=true→∀ (i:Nat) (pins:List (Addr×Obj)) (s:Shared) (σ:St) (H:Hp) (E:Value→Shared→Prop),Inv X pins σ H s→(∀ b∈fp,FpOk X pins H b)→tn i s.heap→J.stop i H →
  wpAny (model P w) X.A (pyNext (.ref it)) (fun r s1=>r=none∧Inv X pins σ H s1) E s
 self:∀ (A:Around) (i:Nat) (s:Shared) (Q:Value→Shared→Prop) (E:Value→Shared→Prop),tn i s.heap→Q (.ref it) s→wpAny (model P w) A (pyIter (.ref it)) Q E s
abbrev TI:=St→Hp→(It→Hp→Prop)→Prop
def PIE (X:Cx) (pins:List (Addr×Obj)) (σ:St) (tg:Expr) (R:It→Hp→Prop) (itv:Value) (s2:Shared):Prop :=
 ∃ (it:Addr) (fp:List Addr) (tn:Nat→Heap→Prop) (J:It) (H':Hp),itv=.ref it∧Inv X pins σ H' s2∧Turn X.prog X.w X.K tg J fp it tn∧tn 0 s2.heap∧(∀ b∈fp,FpOk X pins H' b)∧R J H'
def PI (X:Cx) (tg iter:Expr) (wi:TI):Prop :=
 ∀ (pins:List (Addr×Obj)) (s:Shared) (σ:St) (H:Hp) (R:It→Hp→Prop),Inv X pins σ H s→wi σ H R →
  wpAny (model X.prog X.w) X.A (eval iter X.env) (fun v s1=>wpAny (model X.prog X.w) X.A (pyIter v) (PIE X pins σ tg R) X.xe s1) X.xe s
theorem go_of {M:Model}{A:Around}{E:Value→Shared→Prop}{s:Shared}{tg:Expr}{it:Addr}{u:Value}{o:Obj}{n:String}{vs:Array Value}{Q:Unit→Shared→Prop} (ho:s.heap.get? it=some o) (hc:o.cls=.type n) (hd:o.data=.fields vs)
  (hn:["enumerate","zip","dict_itemiterator","dict_reverseitemiterator","odict_iterator","itertools.zip_longest","itertools.pairwise"].contains n=false) (hQ:Q () s):wpAny M A (letOwnedTupleGo tg (.ref it) u) Q E s:=by
 unfold letOwnedTupleGo
 cases tg <;> first
  | exact wpAny_pure hQ
  | (cases u <;> first
    | exact wpAny_pure hQ
    | (refine wpAny_bind (wpAny_load ho ?_);rw [hc,hd];show wpAny M A (if (["enumerate","zip","dict_itemiterator","dict_reverseitemiterator","odict_iterator","itertools.zip_longest","itertools.pairwise"].contains n && vs[0]? == some (rawInt _))=true then _ else _) Q E s;rw [if_neg (by intro h; rw [hn,Bool.false_and] at h; cases h)];exact wpAny_pure hQ))
def Itl (K:PySem.W.Frag) (a:Addr):It :=
 ⟨fun i H=>∃ xs x,SqL K H a xs∧xs[i]?=some x,fun i H x H'=>H'=H∧∀ xs,SqL K H a xs→xs[i]?=some x,fun i H=>∃ xs,SqL K H a xs∧xs.length≤i⟩
def Itt (K:PySem.W.Frag) (a:Addr):It :=
 ⟨fun i H=>∃ xs x,SqT K H a xs∧xs[i]?=some x,fun i H x H'=>H'=H∧∀ xs,SqT K H a xs→xs[i]?=some x,fun i H=>∃ xs,SqT K H a xs∧xs.length≤i⟩
def Itr (lo:Int) (n:Nat):It:=⟨fun i _=>i<n,fun i H x H'=>H'=H∧x=.int (lo+i),fun i _=>n≤i⟩
theorem turn_list {P:Program}{w:World}{K:PySem.W.Frag}{tg:Expr} (a it:Addr):Turn P w K tg (Itl K a) [it] it (fun i h=>h.IsListIter it a i) where
 mem:=by simp
 obj:=fun i h st b hb=>by
  have e:b=it:=by simpa using hb
  subst e
  obtain⟨o,e,c,d⟩:=st
  exact⟨o,e,fun v z=>by rw [d] at z; cases z⟩
 keep:=fun i h h' st k=>st.at fun o e=>k it (by simp) o e
 item:=by
  intro X hP hw hK hc i pins s σ H E I hf st hg
  subst hP hw hK
  obtain⟨xs,x,hq,hx⟩:=hg
  obtain⟨its,rv,p,hz⟩:=I.list hq
  obtain⟨u,hu,ru⟩:=rv.get hx
  obtain⟨f0,f1,f2,f3,f4,f5⟩:=hf it (by simp)
  refine wpAny_pyNext_list_item st p.isList (x:=u) (by simpa using hu) fun h' st' sb=>?_
  have I1:Inv X pins σ H { s with heap:=h' }:=I.turned (t':=s.toks) (fun b o hb e=>(sb.2 b hb).trans e) f0 f1 f3 f4 f5
  obtain⟨o,e,c,d⟩:=id st'
  exact⟨u,rfl,go_of (s:={ s with heap:=h' }) e c d (by decide) ⟨x,H,I1,ru,⟨rfl,fun ys hy=>by rw [I.list_inj hy hq]; exact hx⟩,st',fun b hb=>(hf b hb).1⟩⟩
 done:=by
  intro X hP hw hK hc i pins s σ H E I hf st hg
  subst hP hw hK
  obtain⟨xs,hq,hx⟩:=hg
  obtain⟨its,rv,p,hz⟩:=I.list hq
  obtain⟨f0,f1,f2,f3,f4,f5⟩:=hf it (by simp)
  have hl:=rv.length
  exact wpAny_pyNext_list_end (I.ok.hd hc) st p.isList (by simp; lia) fun h' eb=>⟨rfl,I.turned (t':=s.toks) (fun b o hb e=>eb b o hb e) f0 f1 f3 f4 f5⟩
 self:=fun _ _ _ _ _ st h=>wpAny_pyIter_listiter st h
theorem Zg {P:Program}{w:World}{K:PySem.W.Frag}{tg:Expr} (a it:Addr):Turn P w K tg (Itt K a) [it] it (fun i h=>h.IsTupleIter it a i) where
 mem:=by simp
 obj:=fun i h st b hb=>by
  have e:b=it:=by simpa using hb
  subst e
  obtain⟨o,e,c,d⟩:=st
  exact⟨o,e,fun v z=>by rw [d] at z; cases z⟩
 keep:=fun i h h' st k=>st.at fun o e=>k it (by simp) o e
 item:=by
  intro X hP hw hK hc i pins s σ H E I hf st hg
  subst hP hw hK
  obtain⟨xs,x,hq,hx⟩:=hg
  obtain⟨its,rv,p,hz⟩:=I.tuple hq
  obtain⟨u,hu,ru⟩:=rv.get hx
  obtain⟨f0,f1,f2,f3,f4,f5⟩:=hf it (by simp)
  refine wpAny_pyNext_tuple_item st (show s.heap.IsTuple a its.toArray from p) (x:=u) (by simpa using hu) fun h' st' sb=>?_
  have I1:Inv X pins σ H { s with heap:=h' }:=I.turned (t':=s.toks) (fun b o hb e=>(sb.2 b hb).trans e) f0 f1 f3 f4 f5
  obtain⟨o,e,c,d⟩:=id st'
  exact⟨u,rfl,go_of (s:={ s with heap:=h' }) e c d (by decide) ⟨x,H,I1,ru,⟨rfl,fun ys hy=>by rw [I.uN hy hq]; exact hx⟩,st',fun b hb=>(hf b hb).1⟩⟩
 done:=by
  intro X hP hw hK hc i pins s σ H E I hf st hg
  subst hP hw hK
  obtain⟨xs,hq,hx⟩:=hg
  obtain⟨its,rv,p,hz⟩:=I.tuple hq
  obtain⟨f0,f1,f2,f3,f4,f5⟩:=hf it (by simp)
  have hl:=rv.length
  exact wpAny_pyNext_tuple_end (I.ok.hd hc) st (show s.heap.IsTuple a its.toArray from p) (by simp; lia) fun h' eb=>⟨rfl,I.turned (t':=s.toks) (fun b o hb e=>eb b o hb e) f0 f1 f3 f4 f5⟩
 self:=fun _ _ _ _ _ st h=>wpAny_pyIter_tupleiter st h
theorem Zh {P:Program}{w:World}{K:PySem.W.Frag}{tg:Expr} (it:Addr) (lo:Int) (n:Nat):Turn P w K tg (Itr lo n) [it] it (fun i h=>IsRangeIter h it (lo+(i:Nat) * 1) ((n:Int) - (i:Nat)) 1) where
 mem:=by simp
 obj:=fun i h st b hb=>by
  have e:b=it:=by simpa using hb
  subst e
  exact⟨_,st,fun v z=>by
   have z':Data.fields _=Data.cell v:=z
   cases z'⟩
 keep:=fun i h h' st k=>k it (by simp) _ st
 item:=by
  intro X hP hw hK hc i pins s σ H E I hf st hg
  subst hP hw hK
  obtain⟨f0,f1,f2,f3,f4,f5⟩:=hf it (by simp)
  have W:=Walks.range (prog:=X.prog) (w:=X.w) (I.ok.hd hc) it lo 1 n
  refine W.item i s _ _ hg st fun v h' tk hv st' kk=>?_
  obtain⟨t,rfl⟩:=hv
  have I1:Inv X pins σ H { s with heap:=h',toks:=tk }:=I.turned (fun b o hb e=>kk b o (by simpa using hb) e) f0 f1 f3 f4 f5
  refine⟨_,rfl,go_of (s:={ s with heap:=h',toks:=tk }) (n:="range_iterator") st' rfl rfl (by decide) ⟨.int (lo+i),H,I1,⟨t,?_⟩,⟨rfl,rfl⟩,st',fun b hb=>(hf b hb).1⟩⟩
  rw [Int.mul_one]
 done:=by
  intro X hP hw hK hc i pins s σ H E I hf st hg
  subst hP hw hK
  obtain⟨f0,f1,f2,f3,f4,f5⟩:=hf it (by simp)
  exact wpAny_pyNext_range_end (I.ok.hd hc) st (by have:n≤i:=hg; lia) fun h' eb=>⟨rfl,I.turned (t':=s.toks) (fun b o hb e=>eb b o hb e) f0 f1 f3 f4 f5⟩
 self:=fun _ _ _ _ _ st h=>wpAny_pyIter_rangeiter st h
end L2
namespace L2
open PySem PySem.Spec PyProof.Rows
section
variable {X:Cx}{tg:Expr}
def iList (K:PySem.W.Frag) (tl:TE):TI:=fun σ H R=>tl σ H fun x H1=>∃ a,x=.ref a∧(∃ xs,SqL K H1 a xs)∧R (Itl K a) H1
def ahn (K:PySem.W.Frag) (tl:TE):TI:=fun σ H R=>tl σ H fun x H1=>∃ a,x=.ref a∧(∃ xs,SqT K H1 a xs)∧R (Itt K a) H1
theorem pi_list {l:Expr}{tl:TE} (hl:PE X l tl):PI X tg l (iList X.K tl):=by
 intro pins s σ H R I h
 refine thn (hl pins s σ H _ I h) fun v s1 ⟨x,H1,I1,r1,q1⟩=>?_
 obtain⟨a,e,⟨xs,hq⟩,q⟩:=q1
 subst e
 cases r1
 obtain⟨its,rv,p,hz⟩:=I1.list hq
 refine wpAny_pyIter_list p.isList ?_
 refine⟨s1.heap.objs.size,[s1.heap.objs.size],_,_,H1,rfl,I1.kept (t':=s1.toks) fun b o e=>Heap.get?_push_of_some _ e,turn_list a _,⟨_,Heap.get?_push_size _ rfl,rfl,rfl⟩,fun b hb=>?_,q⟩
 have e:b=s1.heap.objs.size:=by simpa using hb
 subst e
 exact I1.fpOk (Nat.le_refl _) (I1.hok.fresh (Nat.le_refl _))
theorem agF {l:Expr}{tl:TE} (hl:PE X l tl):PI X tg l (ahn X.K tl):=by
 intro pins s σ H R I h
 refine thn (hl pins s σ H _ I h) fun v s1 ⟨x,H1,I1,r1,q1⟩=>?_
 obtain⟨a,e,⟨xs,hq⟩,q⟩:=q1
 subst e
 cases r1
 obtain⟨its,rv,p,hz⟩:=I1.tuple hq
 refine wpAny_pyIter_tuple (show s1.heap.IsTuple a its.toArray from p) ?_
 refine⟨s1.heap.objs.size,[s1.heap.objs.size],_,_,H1,rfl,I1.kept (t':=s1.toks) fun b o e=>Heap.get?_push_of_some _ e,Zg a _,⟨_,Heap.get?_push_size _ rfl,rfl,rfl⟩,fun b hb=>?_,q⟩
 have e:b=s1.heap.objs.size:=by simpa using hb
 subst e
 exact I1.fpOk (Nat.le_refl _) (I1.hok.fresh (Nat.le_refl _))
theorem adn {pins:List (Addr×Obj)}{σ:St}{H:Hp}{s:Shared}{R:It→Hp→Prop}{E:Value→Shared→Prop}{lo hi:Int}{t u v:Tok}{tk:Nat} (I:Inv X pins σ H s) (h1:-(2 ^ 62)≤lo) (h2:lo<2 ^ 62) (h3:-(2 ^ 62)≤hi) (h4:hi<2 ^ 62)
  (q:R (Itr lo (hi - lo).toNat) H):wpAny (model X.prog X.w) X.A (pyIter (.ref s.heap.objs.size)) (PIE X pins σ tg R) E { s with heap:=s.heap.push { cls:=.type "range",data:=.fields #[.int lo t,.int hi u,.int 1 v] },toks:=tk }:=by
 refine wpAny_pyIter_range (IsRange.new ..) (small_one h1 h2 h3 h4) ?_
 have I1:Inv X pins σ H { s with heap:=s.heap.push { cls:=.type "range",data:=.fields #[.int lo t,.int hi u,.int 1 v] },toks:=tk }:=I.kept fun b o e=>Heap.get?_push_of_some _ e
 refine⟨(s.heap.push { cls:=.type "range",data:=.fields #[.int lo t,.int hi u,.int 1 v] }).objs.size,[(s.heap.push { cls:=.type "range",data:=.fields #[.int lo t,.int hi u,.int 1 v] }).objs.size],_,_,H,rfl,
  I1.kept (t':=tk) fun b o e=>Heap.get?_push_of_some _ e,Zh _ lo (hi - lo).toNat,?_,fun b hb=>?_,q⟩
 ·have e1:lo+((0:Nat):Int) * 1=lo:=by simp
  have e2:(((hi - lo).toNat:Nat):Int) - ((0:Nat):Int)=Builtin.Range.rangeSize lo hi 1:=by rw [rangeSize_one]; split <;> lia
  show IsRangeIter _ _ (lo+((0:Nat):Int) * 1) ((((hi - lo).toNat:Nat):Int) - ((0:Nat):Int)) 1
  rw [e1,e2]
  exact Heap.get?_push_size _ rfl
 ·have e:b=(s.heap.push { cls:=.type "range",data:=.fields #[.int lo t,.int hi u,.int 1 v] }).objs.size:=by simpa using hb
  subst e
  exact I1.fpOk (Nat.le_refl _) (I1.hok.fresh (Nat.le_refl _))
def aeD (ta:TA):TI:=fun σ H R=>ta σ H fun vs H1=>∃ j:Int,vs=[.int j]∧-(2 ^ 62)≤j∧j<2 ^ 62∧R (Itr 0 j.toNat) H1
theorem abK {a:Expr}{ta:TA}{p pos:Pos} (hg:Gl X "range") (hm:X.mg "range"=none) (ha:PA X [a] ta) (hs:starEach [a] X.env=[(false,eval a X.env)]:=by rfl):PI X tg (.Call (.Name "range" p) [a] [] pos) (aeD ta):=by
 intro pins s σ H R I h
 refine Call_ (ld_blt I hg hm boot_range (PyProof.Rows.callWith_type1 (thn (ha pos pins s σ H _ I h) fun us s1 ⟨vs,H1,I1,r1,q1⟩=>?_) hs rfl))
 obtain⟨j,e,q1,q2,q⟩:=q1
 subst e
 cases r1 with
 | cons r rr =>
  cases rr
  obtain⟨t,rfl⟩:=r
  exact call_range_1 (adn I1 (by lia) (by lia) q1 q2 (by simpa using q))
def tFor (wi:TI) (g:TG) (tb:TS):TS:=fun D σ H=>wi σ H fun J H1=>∃ W:Nat→Nat→St→Hp→Prop,(∃ m,W 0 m σ H1)∧∀ i m σ H,W i m σ H →
 (J.stop i H∧D.nx σ H)∨(J.go i H∧∃ N:St→Hp→Prop,(∀ σ' H',N σ' H'→∃ m',m'<m∧W (i+1) m' σ' H')∧∀ x H',J.yld i H x H'→g x σ H' fun σ2 H2=>tb { D with nx:=N,ct:=N,bk:=D.nx } σ2 H2)
def pinsAt (fp:List Addr) (h:Heap):List (Addr×Obj):=fp.filterMap fun b=>(h.get? b).map fun o=>(b,o)
theorem mem_pinsAt {fp:List Addr}{h:Heap}{b:Addr}{o:Obj} (hb:b∈fp) (e:h.get? b=some o):(b,o)∈pinsAt fp h:=List.mem_filterMap.mpr ⟨b,hb,by rw [e]; rfl⟩
theorem of_pinsAt {fp:List Addr}{h:Heap}{p:Addr×Obj} (hp:p∈pinsAt fp h):p.1∈fp∧h.get? p.1=some p.2:=by
 obtain⟨b,hb,e⟩:=List.mem_filterMap.mp hp
 cases q:h.get? b with
 | none=>rw [q] at e; cases e
 | some o =>
  rw [q] at e
  have e':(b,o)=p:=Option.some.inj e
  subst e'
  exact⟨hb,q⟩
theorem Inv.pinned {pins:List (Addr×Obj)}{σ:St}{H:Hp}{s:Shared}{fp:List Addr} (I:Inv X pins σ H s) (hf:∀ b∈fp,FpOk X pins H b) (ho:∀ b∈fp,∃ o,s.heap.get? b=some o∧∀ v,o.data≠.cell v):Inv X (pins++pinsAt fp s.heap) σ H s :=
 I.pins_of fun p hp=>(List.mem_append.mp hp).elim (fun z=>I.pin p (List.mem_append_right _ z)) fun z=>by
  obtain⟨hb,e⟩:=of_pinsAt z
  obtain⟨f0,f1,f2,_⟩:=hf p.1 hb
  obtain⟨o,e',d⟩:=ho p.1 hb
  rw [e] at e'; cases e'
  exact⟨e,f0,f1,f2,d⟩
theorem Inv.unpinned {pins pl:List (Addr×Obj)}{σ:St}{H:Hp}{s:Shared} (I:Inv X (pins++pl) σ H s):Inv X pins σ H s:=I.pins_of fun p hp=>I.pin p (List.mem_append_right _ (List.mem_append_left _ hp))
theorem ps_for {iter:Expr}{body:List Stmt}{wi:TI}{g:TG}{tb:TS}{pos:Pos} (hp:PassesOwn (model X.prog X.w) X.A X.env X.xe) (hc:X.calm=true) (hi:PI X tg iter wi) (hg:PG X tg g) (hb:PSs X body tb)
  (hs:∀ x,foldedSetIterable iter X.env x=pure x:=by intro _; rfl):PS X (.For tg iter body [] pos) (tFor wi g tb):=by
 intro pins s σ H D I h
 refine wpAny_For (thn (hi pins s σ H _ I h) fun v s1 h1=>thn h1 fun itv s2 h2=>?_) hs
 obtain⟨it,fp,tn,J,H2,e,I2,T,st2,f2,W,⟨m0,w0⟩,turn⟩:=h2
 subst e
 have stat:∀ {H':Hp},(∀ b∈fp,H' b=none)→∀ b∈fp,FpOk X pins H' b:=fun hn b hb=>⟨hn b hb,(f2 b hb).2⟩
 refine codeAny_forLoop_any (fun n s'=>∃ i σ' H',Inv X pins σ' H' s'∧tn i s'.heap∧(∀ b∈fp,H' b=none)∧W i n σ' H') ?_ m0 ⟨0,σ,H2,I2,st2,fun b hb=>(f2 b hb).1,w0⟩
 rintro n s3 ⟨i,σ3,H3,I3,st3,fr3,w3⟩
 rcases turn i n σ3 H3 w3 with⟨stop,qn⟩ | ⟨go,N,hN,step⟩
 ·refine wpAny_passesOwn hp (thn (T.done X rfl rfl rfl hc i pins s3 σ3 H3 X.xe I3 (stat fr3) st3 stop) fun r s4 ⟨hr,I4⟩=>?_)
  subst hr
  exact wpAny_execs_nil ⟨σ3,H3,I4,qn⟩
 ·refine wpAny_passesOwn hp (thn (T.item X rfl rfl rfl hc i pins s3 σ3 H3 X.xe I3 (stat fr3) st3 go) fun r s4 ⟨u,hr,h4⟩=>?_)
  subst hr
  refine wpAny_passesOwn hp (thn h4 fun _ s5 ⟨x,H5,I5,r5,y5,st5,fr5⟩=>?_)
  have I5':=I5.pinned (stat fr5) (T.obj _ _ st5)
  refine wpAny_passesOwn hp (thn (hg _ s5 σ3 H5 x u _ I5' r5 (step x H5 y5)) fun _ s6 ⟨σ6,H6,I6,q6⟩=>?_)
  refine wpAny_passesOwn hp (thn (hb _ s6 σ6 H6 _ I6 q6) fun f s7 q7=>?_)
  have again:∀ {σ7:St}{H7:Hp},Inv X (pins++pinsAt fp s5.heap) σ7 H7 s7→N σ7 H7→∃ m,m<n∧∃ i σ' H',Inv X pins σ' H' s7∧tn i s7.heap∧(∀ b∈fp,H' b=none)∧W i m σ' H':=fun {σ7 H7} I7 n7=>by
   obtain⟨m',hm,w7⟩:=hN σ7 H7 n7
   refine⟨m',hm,i+1,σ7,H7,I7.unpinned,T.keep _ _ _ st5 fun b hb o e=>(I7.pin (b,o) (List.mem_append_right _ (List.mem_append_right _ (mem_pinsAt hb e)))).1,fun b hb=>?_,w7⟩
   obtain⟨o,e,d⟩:=T.obj _ _ st5 b hb
   exact (I7.pin (b,o) (List.mem_append_right _ (List.mem_append_right _ (mem_pinsAt hb e)))).2.1
  cases f with
  | next=>obtain⟨σ7,H7,I7,n7⟩:=q7; exact again I7 n7
  | cont=>obtain⟨σ7,H7,I7,n7⟩:=q7; exact again I7 n7
  | brk=>obtain⟨σ7,H7,I7,q7⟩:=q7; exact⟨σ7,H7,I7.unpinned,q7⟩
  | ret v=>obtain⟨x7,σ7,H7,I7,r7,q7⟩:=q7; exact⟨x7,σ7,H7,I7.unpinned,r7,q7⟩
end
theorem acd {lo:Int}{n:Nat}{g:TG}{tb:TS}{D:Ends}{σ:St}{H:Hp} (Pv:Nat→St→Hp→Prop) (h0:Pv 0 σ H)
  (hs:∀ i σ H,i<n→Pv i σ H→g (.int (lo+i)) σ H fun σ2 H2=>tb { D with nx:=Pv (i+1),ct:=Pv (i+1),bk:=D.nx } σ2 H2) (hd:∀ σ H,Pv n σ H→D.nx σ H) :
  ∃ W:Nat→Nat→St→Hp→Prop,(∃ m,W 0 m σ H)∧∀ i m σ H,W i m σ H →
   ((Itr lo n).stop i H∧D.nx σ H)∨((Itr lo n).go i H∧∃ N:St→Hp→Prop,(∀ σ' H',N σ' H'→∃ m',m'<m∧W (i+1) m' σ' H')∧∀ x H',(Itr lo n).yld i H x H'→g x σ H' fun σ2 H2=>tb { D with nx:=N,ct:=N,bk:=D.nx } σ2 H2):=by
 refine⟨fun i m σ H=>m=n - i∧i≤n∧Pv i σ H,⟨n,by simp,Nat.zero_le _,h0⟩,?_⟩
 rintro i m σ H ⟨rfl,hi,p⟩
 by_cases hlt:i<n
 ·refine .inr ⟨hlt,Pv (i+1),fun σ' H' p'=>⟨n - (i+1),by lia,rfl,hlt,p'⟩,fun x H' y=>?_⟩
  obtain⟨e,y⟩:=y
  subst e y
  exact hs i σ _ hlt p
 ·have e:i=n:=by lia
  subst e
  exact .inl ⟨Nat.le_refl _,hd σ H p⟩
end L2
namespace L2
open PySem PySem.Spec PyProof.Rows
abbrev R2:=V→V→Hp→VK→Prop
def OpR (X:Cx) (f:Value→Value→Sem Value) (r:R2):Prop :=
 ∀ (pins:List (Addr×Obj)) (s:Shared) (σ:St) (H:Hp) (x y:V) (v u:Value) (Q:VK),Inv X pins σ H s→RelV x v→RelV y u→r x y H Q →
  wpAny (model X.prog X.w) X.A (f v u) (EP X pins σ Q) X.xe s
def UnR (X:Cx) (f:Value→Sem Value) (r:V→Hp→VK→Prop):Prop :=
 ∀ (pins:List (Addr×Obj)) (s:Shared) (σ:St) (H:Hp) (x:V) (v:Value) (Q:VK),Inv X pins σ H s→RelV x v→r x H Q →
  wpAny (model X.prog X.w) X.A (f v) (EP X pins σ Q) X.xe s
def CallR (X:Cx) (f:Value) (r:List V→Hp→VK→Prop):Prop :=
 ∀ (pins:List (Addr×Obj)) (s:Shared) (σ:St) (H:Hp) (xs:List V) (us:List Value) (Q:VK),Inv X pins σ H s→Vals xs us→r xs H Q →
  wpAny (model X.prog X.w) X.A (call f us) (EP X pins σ Q) X.xe s
def apj (X:Cx) (r:V→Hp→(Bool→Hp→Prop)→Prop):Prop :=
 ∀ (pins:List (Addr×Obj)) (s:Shared) (σ:St) (H:Hp) (x:V) (v:Value) (Q:Bool→Hp→Prop),Inv X pins σ H s→RelV x v→r x H Q →
  wpAny (model X.prog X.w) X.A (truthy v) (TP X pins σ Q) X.xe s
def tOp (r:R2) (ta tb:TE):TE:=fun σ H Q=>ta σ H fun x H1=>tb σ H1 fun y H2=>r x y H2 Q
def tUn (r:V→Hp→VK→Prop) (ta:TE):TE:=fun σ H Q=>ta σ H fun x H1=>r x H1 Q
def rI (C:Int→Int→Prop) (g:Int→Int→V):R2:=fun x y H Q=>∃ i j,x=.int i∧y=.int j∧C i j∧Q (g i j) H
def rI0 (g:Int→Int→V):R2:=fun x y H Q=>∃ i j,x=.int i∧y=.int j∧Q (g i j) H
def rU (g:Int→V):V→Hp→VK→Prop:=fun x H Q=>∃ i,x=.int i∧Q (g i) H
section
variable {X:Cx}{a b c:Expr}{ta tb tc:TE}{pos:Pos}
theorem binT (ha:PE X a ta) (hb:PE X b tb) {pins:List (Addr×Obj)}{s:Shared}{σ:St}{H:Hp}{R:V→V→Hp→Prop} (I:Inv X pins σ H s)
  (h:ta σ H fun x H1=>tb σ H1 fun y H2=>R x y H2) {Q:Value→Shared→Prop}{f:Value→Value→Sem Value}
  (hf:∀ v u s2 x y H2,Inv X pins σ H2 s2→RelV x v→RelV y u→R x y H2→wpAny (model X.prog X.w) X.A (f v u) Q X.xe s2) :
  wpAny (model X.prog X.w) X.A (eval a X.env) (fun v s₁=>wpAny (model X.prog X.w) X.A (eval b X.env) (fun u s₂=>wpAny (model X.prog X.w) X.A (f v u) Q X.xe s₂) X.xe s₁) X.xe s:=by
 refine thn (ha pins s σ H _ I h) fun v s1 ⟨x,H1,I1,r1,q1⟩=>?_
 refine thn (hb pins s1 σ H1 _ I1 q1) fun u s2 ⟨y,H2,I2,r2,q2⟩=>?_
 exact hf v u s2 x y H2 I2 r1 r2 q2
theorem pe_op {op:Operator}{r:R2} (ho:OpR X (binaryOp op) r) (ha:PE X a ta) (hb:PE X b tb):PE X (.BinOp a op b pos) (tOp r ta tb):=by
 intro pins s σ H Q I h
 exact wpAny_BinOp (binT ha hb I h fun v u s2 x y H2 I2 rx ry q=>ho pins s2 σ H2 x y v u Q I2 rx ry q)
theorem ai5 {op:UnaryOp}{r:V→Hp→VK→Prop} (ho:UnR X (unaryOp op) r) (ha:PE X a ta):PE X (.UnaryOp op a pos) (tUn r ta):=by
 intro pins s σ H Q I h
 exact UnaryOp_ (thn (ha pins s σ H _ I h) fun v s1 ⟨x,H1,I1,r1,q1⟩=>ho pins s1 σ H1 x v Q I1 r1 q1)
theorem opI {f:Value→Value→Sem Value}{C:Int→Int→Prop}{g:Int→Int→Int}
  (rule:∀ (i j:Int) (t u:Tok) (s:Shared) (Q:Value→Shared→Prop) (E:Value→Shared→Prop),C i j→Q (.int (g i j) s.toks) { s with toks:=s.toks+1 }→wpAny (model X.prog X.w) X.A (f (.int i t) (.int j u)) Q E s) :
  OpR X f (rI C fun i j=>.int (g i j)):=by
 intro pins s σ H x y v u Q I rx ry h
 obtain⟨i,j,rfl,rfl,hc,q⟩:=h
 obtain⟨t,rfl⟩:=rx
 obtain⟨t',rfl⟩:=ry
 exact rule i j t t' s _ _ hc ⟨.int (g i j),H,I.tok _,⟨_,rfl⟩,q⟩
theorem opI0 {f:Value→Value→Sem Value}{g:Int→Int→Int}
  (rule:∀ (i j:Int) (t u:Tok) (s:Shared) (Q:Value→Shared→Prop) (E:Value→Shared→Prop),Q (.int (g i j) s.toks) { s with toks:=s.toks+1 }→wpAny (model X.prog X.w) X.A (f (.int i t) (.int j u)) Q E s) :
  OpR X f (rI0 fun i j=>.int (g i j)):=by
 intro pins s σ H x y v u Q I rx ry h
 obtain⟨i,j,rfl,rfl,q⟩:=h
 obtain⟨t,rfl⟩:=rx
 obtain⟨t',rfl⟩:=ry
 exact rule i j t t' s _ _ ⟨.int (g i j),H,I.tok _,⟨_,rfl⟩,q⟩
theorem opB0 {f:Value→Value→Sem Value}{g:Int→Int→Bool}
  (rule:∀ (i j:Int) (t u:Tok) (s:Shared) (Q:Value→Shared→Prop) (E:Value→Shared→Prop),Q (.bool (g i j)) s→wpAny (model X.prog X.w) X.A (f (.int i t) (.int j u)) Q E s) :
  OpR X f (rI0 fun i j=>.bl (g i j)):=by
 intro pins s σ H x y v u Q I rx ry h
 obtain⟨i,j,rfl,rfl,q⟩:=h
 obtain⟨t,rfl⟩:=rx
 obtain⟨t',rfl⟩:=ry
 exact rule i j t t' s _ _ ⟨.bl (g i j),H,I,rfl,q⟩
def CDiv (i j:Int):Prop:=0<j∧j<1073741824
def CMul (i j:Int):Prop:=(-(2 ^ 64)<i∧i<2 ^ 64)∨(-(2 ^ 64)<j∧j<2 ^ 64)
theorem CMul.ok {i j:Int} (h:CMul i j):IntMulOk i j:=by
 rcases h with⟨h1,h2⟩ | ⟨h1,h2⟩
 ·exact .of_left (intBits_le_64 h1 h2)
 ·exact .of_right (intBits_le_64 h1 h2)
theorem op_add:OpR X (binaryOp .Add) (rI0 fun i j=>.int (i+j)):=opI0 fun _ _ _ _ _ _ _ q=>add_int q
theorem op_sub:OpR X (binaryOp .Sub) (rI0 fun i j=>.int (i - j)):=opI0 fun _ _ _ _ _ _ _ q=>sub_int q
theorem uU:OpR X (binaryOp .Mult) (rI CMul fun i j=>.int (i * j)):=opI fun _ _ _ _ _ _ _ hc q=>mul_int q hc.ok
theorem op_fdiv:OpR X (binaryOp .FloorDiv) (rI CDiv fun i j=>.int (i / j)):=opI fun i j _ _ _ _ _ hc q=>by
 have h1:(0:Int)<j:=hc.1
 have h2:j<1073741824:=hc.2
 exact floordiv_int (by lia) (by rw [Int.fdiv_eq_ediv_of_nonneg i (by lia)]; exact q) (.inl (PyProof.noPylong_small (by lia)))
theorem op_mod:OpR X (binaryOp .Mod) (rI (fun _ j=>0<j) fun i j=>.int (i % j)):=opI fun i j _ _ _ _ _ hc q=>by
 have h1:(0:Int)<j:=hc
 exact mod_int' (by lia) (by rw [Int.fmod_eq_emod_of_nonneg i (by lia)]; exact q)
theorem unI {f:Value→Sem Value}{g:Int→Int}
  (rule:∀ (i:Int) (t:Tok) (s:Shared) (Q:Value→Shared→Prop) (E:Value→Shared→Prop),Q (.int (g i) s.toks) { s with toks:=s.toks+1 }→wpAny (model X.prog X.w) X.A (f (.int i t)) Q E s) :
  UnR X f (rU fun i=>.int (g i)):=by
 intro pins s σ H x v Q I rx h
 obtain⟨i,rfl,q⟩:=h
 obtain⟨t,rfl⟩:=rx
 exact rule i t s _ _ ⟨.int (g i),H,I.tok _,⟨_,rfl⟩,q⟩
theorem uK:UnR X (unaryOp .USub) (rU fun i=>.int (-i)):=unI fun _ _ _ _ _ q=>neg_int q
end
def scal:V→V→Bool
 | .non,.non=>true | .non,.int _=>true | .int _,.non=>true | .non,.bl _=>true | .bl _,.non=>true | .non,.str _=>true | .str _,.non=>true
 | .int _,.int _=>true | .bl _,.bl _=>true | .str _,.str _=>true | .byt _,.byt _=>true
 | .int _,.str _=>true | .str _,.int _=>true | .bl _,.str _=>true | .str _,.bl _=>true
 | _,_=>false
def rEq:R2:=fun x y H Q=>scal x y=true∧Q (.bl (decide (x=y))) H
def rNe:R2:=fun x y H Q=>scal x y=true∧Q (.bl (!decide (x=y))) H
theorem dec_int {i j:Int}:decide (V.int i=V.int j)=(i == j):=by
 rw [Bool.eq_iff_iff]
 simp
theorem dec_bl {i j:Bool}:decide (V.bl i=V.bl j)=(i == j):=by
 rw [Bool.eq_iff_iff]
 simp
theorem dec_str {i j:Str}:decide (V.str i=V.str j)=(i == j):=by
 rw [Bool.eq_iff_iff]
 simp
theorem dec_byt {i j:Array UInt8}:decide (V.byt i=V.byt j)=(i.toList == j.toList):=by
 rw [Bool.eq_iff_iff]
 cases i
 cases j
 simp
section
variable {X:Cx}{a b c:Expr}{ta tb tc:TE}{pos:Pos}
theorem fin_bl {pins:List (Addr×Obj)}{σ:St}{H:Hp}{s:Shared}{Q:VK}{k k':Bool} (I:Inv X pins σ H s) (q:Q (.bl k) H) (e:k=k'):EP X pins σ Q (.bool k') s:=by
 subst e
 exact⟨.bl k,H,I,rfl,q⟩
theorem op_eq:OpR X (compareOp .Eq) rEq:=by
 intro pins s σ H x y v u Q I rx ry h
 obtain⟨hs,q⟩:=h
 cases x with
 | non =>
  cases rx
  cases y with
  | non=>cases ry; exact PySem.EqNone.eq_none_none (fin_bl I q (by simp))
  | bl j=>cases ry; exact PySem.EqNone.eq_none_bool (fin_bl I q (by simp))
  | int j=>obtain⟨t',rfl⟩:=ry; exact PySem.EqNone.eq_none_int (fin_bl I q (by simp))
  | str j=>obtain⟨t',rfl⟩:=ry; exact PySem.EqNone.eq_none_str (fin_bl I q (by simp))
  | _=>exact absurd (show false=true from hs) Bool.false_ne_true
 | bl i =>
  cases rx
  cases y with
  | non=>cases ry; exact PySem.EqNone.eq_bool_none (fin_bl I q (by simp))
  | bl j=>cases ry; exact eq_bool (fin_bl I q dec_bl)
  | str j=>obtain⟨t',rfl⟩:=ry; exact PySem.EqMixed.eq_bool_str (fin_bl I q (by simp))
  | _=>exact absurd (show false=true from hs) Bool.false_ne_true
 | int i =>
  obtain⟨t,rfl⟩:=rx
  cases y with
  | non=>cases ry; exact PySem.EqNone.eq_int_none (fin_bl I q (by simp))
  | int j=>obtain⟨t',rfl⟩:=ry; exact eq_int (fin_bl I q dec_int)
  | str j=>obtain⟨t',rfl⟩:=ry; exact PySem.EqMixed.eq_int_str (fin_bl I q (by simp))
  | _=>exact absurd (show false=true from hs) Bool.false_ne_true
 | str i =>
  obtain⟨t,rfl⟩:=rx
  cases y with
  | non=>cases ry; exact PySem.EqNone.eq_str_none (fin_bl I q (by simp))
  | bl j=>cases ry; exact PySem.EqMixed.eq_str_bool (fin_bl I q (by simp))
  | int j=>obtain⟨t',rfl⟩:=ry; exact PySem.EqMixed.eq_str_int (fin_bl I q (by simp))
  | str j=>obtain⟨t',rfl⟩:=ry; exact eq_str (fin_bl I q dec_str)
  | _=>exact absurd (show false=true from hs) Bool.false_ne_true
 | byt i =>
  obtain⟨t,rfl⟩:=rx
  cases y with
  | byt j=>obtain⟨t',rfl⟩:=ry; exact PySem.W.eq_bytes (fin_bl I q dec_byt)
  | _=>exact absurd (show false=true from hs) Bool.false_ne_true
 | _=>cases y <;> exact absurd (show false=true from hs) Bool.false_ne_true
theorem op_ne:OpR X (compareOp .NotEq) rNe:=by
 intro pins s σ H x y v u Q I rx ry h
 obtain⟨hs,q⟩:=h
 cases x with
 | non =>
  cases rx
  cases y with
  | non=>cases ry; exact PySem.EqNone.ne_none_none (fin_bl I q (by simp))
  | bl j=>cases ry; exact PySem.EqNone.ne_none_bool (fin_bl I q (by simp))
  | int j=>obtain⟨t',rfl⟩:=ry; exact PySem.EqNone.ne_none_int (fin_bl I q (by simp))
  | str j=>obtain⟨t',rfl⟩:=ry; exact PySem.EqNone.ne_none_str (fin_bl I q (by simp))
  | _=>exact absurd (show false=true from hs) Bool.false_ne_true
 | bl i =>
  cases rx
  cases y with
  | non=>cases ry; exact PySem.EqNone.ne_bool_none (fin_bl I q (by simp))
  | bl j=>cases ry; exact ne_bool (fin_bl I q (congrArg not dec_bl))
  | str j=>obtain⟨t',rfl⟩:=ry; exact PySem.EqMixed.ne_bool_str (fin_bl I q (by simp))
  | _=>exact absurd (show false=true from hs) Bool.false_ne_true
 | int i =>
  obtain⟨t,rfl⟩:=rx
  cases y with
  | non=>cases ry; exact PySem.EqNone.ne_int_none (fin_bl I q (by simp))
  | int j=>obtain⟨t',rfl⟩:=ry; exact ne_int (fin_bl I q (congrArg not dec_int))
  | str j=>obtain⟨t',rfl⟩:=ry; exact PySem.EqMixed.ne_int_str (fin_bl I q (by simp))
  | _=>exact absurd (show false=true from hs) Bool.false_ne_true
 | str i =>
  obtain⟨t,rfl⟩:=rx
  cases y with
  | non=>cases ry; exact PySem.EqNone.ne_str_none (fin_bl I q (by simp))
  | bl j=>cases ry; exact PySem.EqMixed.ne_str_bool (fin_bl I q (by simp))
  | int j=>obtain⟨t',rfl⟩:=ry; exact PySem.EqMixed.ne_str_int (fin_bl I q (by simp))
  | str j=>obtain⟨t',rfl⟩:=ry; exact ne_str (fin_bl I q (congrArg not dec_str))
  | _=>exact absurd (show false=true from hs) Bool.false_ne_true
 | byt i =>
  obtain⟨t,rfl⟩:=rx
  cases y with
  | byt j=>obtain⟨t',rfl⟩:=ry; exact PySem.W.ne_bytes (fin_bl I q (congrArg not dec_byt))
  | _=>exact absurd (show false=true from hs) Bool.false_ne_true
 | _=>cases y <;> exact absurd (show false=true from hs) Bool.false_ne_true
theorem Ss:OpR X (compareOp .Lt) (rI0 fun i j=>.bl (decide (i<j))):=opB0 fun _ _ _ _ _ _ _ q=>lt_int q
theorem ai_:OpR X (compareOp .LtE) (rI0 fun i j=>.bl (decide (i≤j))):=opB0 fun _ _ _ _ _ _ _ q=>le_int q
theorem Sv:OpR X (compareOp .Gt) (rI0 fun i j=>.bl (decide (j<i))):=opB0 fun _ _ _ _ _ _ _ q=>gt_int q
theorem abO:OpR X (compareOp .Is) (fun x y H Q=>y=.non∧Q (.bl (decide (x=.non))) H):=by
 intro pins s σ H x y v u Q I rx ry h
 obtain⟨rfl,q⟩:=h
 cases ry
 refine is_none_gen (fin_bl I q ?_)
 cases x <;> first
  | (cases rx; rfl)
  | (obtain⟨t,rfl⟩:=rx; rfl)
theorem nomark (b:Expr) {op:CmpOp} (h:op≠.In:=by decide) (h2:op≠.NotIn:=by decide):behindInMarks op b=false:=by
 have e1:(op == CmpOp.In)=false:=by cases op <;> first | rfl | exact absurd rfl h
 have e2:(op == CmpOp.NotIn)=false:=by cases op <;> first | rfl | exact absurd rfl h2
 cases b <;> simp [behindInMarks,e1,e2]
theorem pe_cmpR {op:CmpOp}{r:R2} (ho:OpR X (compareOp op) r) (ha:PE X a ta) (hb:PE X b tb) (hm:behindInMarks op b=false):PE X (.Compare a [op] [b] pos) (tOp r ta tb):=by
 intro pins s σ H Q I h
 exact wpAny_Compare1 (binT ha hb I h fun v u s2 x y H2 I2 rx ry q=>ho pins s2 σ H2 x y v u Q I2 rx ry q) hm
def tTest (t:TE):TT:=fun σ H Q=>t σ H fun x H'=>∃ k,x=.bl k∧Q k H'
theorem pt_cmpR {op:CmpOp}{r:R2} (ho:OpR X (compareOp op) r) (ha:PE X a ta) (hb:PE X b tb) (hm:behindInMarks op b=false):PT X (.Compare a [op] [b] pos) (tTest (tOp r ta tb)):=by
 intro pins s σ H Q I h
 refine wpAny_isTrue_Compare1 (thn (ha pins s σ H _ I h) fun v s1 ⟨x,H1,I1,r1,q1⟩=>thn (hb pins s1 σ H1 _ I1 q1) fun u s2 ⟨y,H2,I2,r2,q2⟩ =>
  thn (ho pins s2 σ H2 x y v u _ I2 r1 r2 q2) fun c s3 ⟨z,H3,I3,r3,k,e,q3⟩=>?_) hm
 subst e
 cases r3
 exact wpAny_truthy_bool ⟨H3,I3,q3⟩
def Wn (K:PySem.W.Frag) (x:V) (H:Hp) (k:Bool):Prop :=
 match x with
 | .non=>k=false
 | .bl b=>k=b
 | .int i=>k=(i != 0)
 | .str y=>y.length≤sizeLine∧k=((y.length:Int) != 0)
 | .byt y=>y.size≤sizeLine∧k=((y.size:Int) != 0)
 | .ref p=>(∃ xs,SqL K H p xs∧k=!xs.isEmpty)∨(∃ xs,SqT K H p xs∧k=!xs.isEmpty)∨∃ kvs,H p=some (.dK kvs)∧k=!kvs.isEmpty
 | _=>False
theorem aag {κ:Type}{kvs:List (κ×V)}{vs:List (κ×Value)} (r:KV kvs vs):(!vs.isEmpty)=!kvs.isEmpty:=by
 cases r <;> rfl
theorem Nk {xs:List V}{its:List Value} (r:Vals xs its):(!its.toArray.isEmpty)=!xs.isEmpty:=by
 cases r <;> simp
theorem line63:(sizeLine:Nat)<2 ^ 63:=by rw [sizeLine_eq]; decide
theorem abe:apj X (fun x H Q=>∃ k,Wn X.K x H k∧Q k H):=by
 intro pins s σ H x v Q I rx h
 obtain⟨k,e,q⟩:=h
 have hl:=line63
 have hs:sizeLine=16777216:=sizeLine_eq
 cases x with
 | non =>
  cases rx
  have e':k=false:=e
  subst e'
  exact truthy_none ⟨H,I,q⟩
 | bl b =>
  cases rx
  have e':k=b:=e
  subst e'
  exact wpAny_truthy_bool ⟨H,I,q⟩
 | int i =>
  obtain⟨t,rfl⟩:=rx
  have e':k=(i != 0):=e
  subst e'
  exact PySem.P.truthy_int ⟨H,I,q⟩
 | str y =>
  obtain⟨t,rfl⟩:=rx
  obtain⟨hy,e'⟩:y.length≤sizeLine∧k=((y.length:Int) != 0):=e
  subst e'
  exact PySem.P.truthy_str (by lia) ⟨H,I.tok _,q⟩
 | byt y =>
  obtain⟨t,rfl⟩:=rx
  obtain⟨hy,e'⟩:y.size≤sizeLine∧k=((y.size:Int) != 0):=e
  subst e'
  exact PySem.W.truthy_bytes (by lia) ⟨H,I.tok _,q⟩
 | ref p =>
  cases rx
  have e':(∃ xs,SqL X.K H p xs∧k=!xs.isEmpty)∨(∃ xs,SqT X.K H p xs∧k=!xs.isEmpty)∨∃ kvs,H p=some (.dK kvs)∧k=!kvs.isEmpty:=e
  rcases e' with⟨xs,hx,e'⟩ | ⟨xs,hx,e'⟩ | ⟨kvs,hx,e'⟩
  ·subst e'
   obtain⟨its,r,pl,hz⟩:=I.list hx
   have hlen:=r.length
   exact wpAny_truthy_list pl.isList (by simp only [List.size_toArray]; lia) ⟨H,I.tok _,by rw [Nk r]; exact q⟩
  ·subst e'
   obtain⟨its,r,pl,hz⟩:=I.tuple hx
   have hlen:=r.length
   exact truthy_tuple pl (by simp only [List.size_toArray]; lia) ⟨H,I.tok _,by rw [Nk r]; exact q⟩
  ·subst e'
   obtain⟨hz,hS,vs,r,m⟩:kvs.length≤sizeLine∧(p == sysModules)=false∧∃ vs,KV kvs vs∧s.heap.DictOf (mixKind X.prog X.w) p vs:=I.hok p _ hx
   have hlen:kvs.length=vs.length:=Paired.length r
   exact wpAny_truthy_dict hS m (by lia) ⟨H,I.tok _,by rw [aag r]; exact q⟩
 | _=>exact (show False from e).elim
theorem adu (ha:PE X a ta) (he:∀ whole,isTrue a X.env whole=(do let v ← whole; standAt a.pos; holding [v] (truthy v))) :
  PT X a (fun σ H Q=>ta σ H fun x H'=>∃ k,Wn X.K x H' k∧Q k H'):=by
 intro pins s σ H Q I h
 exact isTrue_plain (thn (ha pins s σ H _ I h) fun v s1 ⟨x,H1,I1,r1,q1⟩=>abe pins s1 σ H1 x v Q I1 r1 q1) (he _)
theorem vals1 {x:V}{us:List Value} (r:Vals [x] us):∃ u,us=[u]∧RelV x u:=by
 cases r with
 | cons r1 r2=>cases r2; exact⟨_,rfl,r1⟩
theorem vals2 {x y:V}{us:List Value} (r:Vals [x,y] us):∃ u w',us=[u,w']∧RelV x u∧RelV y w':=by
 cases r with
 | cons r1 r2 =>
  cases r2 with
  | cons r3 r4=>cases r4; exact⟨_,_,rfl,r1,r3⟩
theorem acn (hc:X.calm=true):CallR X (.builtin "min") (fun xs H Q=>∃ i j,xs=[.int i,.int j]∧Q (.int (if j<i then j else i)) H):=by
 intro pins s σ H xs us Q I r h
 obtain⟨i,j,rfl,q⟩:=h
 obtain⟨u,w',rfl,⟨t,rfl⟩,⟨t',rfl⟩⟩:=vals2 r
 refine min_two_ints (I.ok.hd hc) fun h' tk k=>⟨_,H,I.kept k,?_,q⟩
 by_cases hj:j<i
 ·rw [if_pos hj,if_pos hj]; exact⟨_,rfl⟩
 ·rw [if_neg hj,if_neg hj]; exact⟨_,rfl⟩
end
end L2
namespace L2
open PySem PySem.Spec PyProof.Rows
structure ObjM (h:Heap) (x dx C:Addr) (mA:Str→Option Value):Prop where
 obj:h.get? x=some (PySem.W.instObj C dx)
 ns:h.Ns1 dx mA
 ne:dx≠x
theorem lookIn_ns {h:Heap}{dx:Addr}{mA:Str→Option Value} (n:h.Ns1 dx mA):∃ od,h.get? dx=some od∧∀ name,PySem.W.lookIn name od=some (mA name):=by
 obtain⟨o,es,ep,ho,hd,hk,_,hm⟩:=n
 refine⟨o,ho,fun name=>?_⟩
 have e:=hm name
 unfold nsFind findBy at e
 rw [← Array.find?_toList] at e
 unfold PySem.W.lookIn
 rw [hd]
 dsimp only
 split
 ·rename_i y q
  rw [q] at e
  exact congrArg some e
 ·rename_i q
  rw [q] at e
  have a:es.toList.any (·.refKey)=false:=by
   rw [List.any_eq_false]
   intro y hy
   obtain⟨z,t,hkey⟩:=hk y (Array.mem_toList_iff.mp hy)
   simp [DictEntry.refKey,hkey]
  have a':¬ es.toList.any (·.refKey)=true:=by rw [a]; exact Bool.false_ne_true
  rw [if_neg a']
  exact congrArg some e
theorem ObjM.look {h:Heap}{x dx C:Addr}{mA:Str→Option Value} (I:ObjM h x dx C mA):∃ od,PySem.W.InstAt h x (PySem.W.instObj C dx) C (some od)∧∀ name,PySem.W.lookIn name od=some (mA name) :=
 let ⟨od,ho,hl⟩:=lookIn_ns I.ns
 ⟨od,⟨I.obj,rfl,rfl,ho⟩,hl⟩
section
variable {prog:Program}{w:World}{A:Around}{E:Value→Shared→Prop}{s:Shared}{K:PySem.W.Frag}{x dx C f:Addr}{mA:Str→Option Value}{name:Str}{v:Value}
theorem get_map {expr:Bool}{Q:Value→Shared→Prop} (X:K.In s.heap) (I:ObjM s.heap x dx C mA) (hg:PySem.W.plainGet K C name=true) (hh:PySem.W.hasDictIn K C=true)
  (ha:PySem.W.findIn K (.ref C) name=some none) (hv:mA name=some v) (hv':PySem.W.handedIn v=true) (h:Q v { s with toks:=s.toks+1 }) :
  wpAny (model prog w) A (getAttr (.ref x) name expr) Q E s:=by
 obtain⟨od,J,hl⟩:=I.look
 exact PySem.W.get_value X J (PySem.W.plainGet_of hg).1 (PySem.W.findObj_own hh ha rfl (by rw [hl,hv])) hv' h
theorem get_meth {pl:Sem Bool}{Q:Value×List Value→Shared→Prop} (X:K.In s.heap) (I:ObjM s.heap x dx C mA) (hg:PySem.W.plainGet K C name=true)
  (hf:PySem.W.findIn K (.ref C) name=some (some (.ref f))) (ht:PySem.W.isFn K (.ref f)=true) (hv:mA name=none) (h:Q (.ref f,[.ref x]) s) :
  wpAny (model prog w) A (getMethod (.ref x) name pl) Q E s:=by
 obtain⟨od,J,hl⟩:=I.look
 exact PySem.W.method_fn X J (PySem.W.plainGet_of hg).1 (PySem.W.plainGet_of hg).2 hf (beq_iff_eq.mp ht) (by show (PySem.W.lookIn name od).map (·.isSome)=some false; rw [hl,hv]; rfl) h
theorem set_map {ns:List Str}{Q:Unit→Shared→Prop} (X:K.In s.heap) (I:ObjM s.heap x dx C mA)
  (hs:PySem.W.findIn K (.ref C) "__setattr__"=some (some (.builtin "object.__setattr__"))) (hp:PySem.W.plainOver K C=true) (ht:PySem.W.takerIn K C name=some none) (hh:PySem.W.hasDictIn K C=true)
  (hw:PySem.Within mA ns) (hsz:ns.length≤sizeLine)
  (h:∀ h',ObjM h' x dx C (fun y=>if y=name then some v else mA y)→Heap.SameBut dx s.heap h'→Q () { s with heap:=h',toks:=s.toks+2 }) :
  wpAny (model prog w) A (setAttr (.ref x) name v) Q E s:=by
 obtain⟨od,J,hl⟩:=I.look
 refine PySem.W.set_plain X J hs (PySem.W.osa_open (s:={ s with toks:=s.toks+1 }) (r:=none) X J hp ht fun b=>?_)
 obtain⟨cd,hc,hd'⟩:=PySem.W.any_some hh
 have hx:s.heap.get? x=some ⟨.ref C,some dx,.plain,#[]⟩:=I.obj
 refine wpAny_bind (wpAny_pure (wpAny_bind (wpAny_bind (wpAny_loadPart hx (wpAny_bind (PySem.W.Looks.here (s:={ s with toks:=s.toks+1 }) (PySem.W.looks_clsIn X hc) ?_))))))
 rw [hd']
 refine wpAny_pure (a:=some dx) (wpAny_bind (wpAny_pure (wpAny_bind ?_)))
 refine wpAny_nsSet1 (s:={ s with toks:=s.toks+1 }) I.ns fun h' hn2 hs2=>?_
 obtain⟨oD,esD,epD,hoD,hdD,hcD⟩:=hn2.count (PySem.Within.cons name v hw)
 refine wpAny_bind (wpAny_lookBehind hoD (by rw [hdD]; exact pastItsLine_dict (Nat.le_trans hcD (by rw [List.length_cons]; lia))) ?_)
 exact wpAny_pure (h _ ⟨(hs2.2 _ (Ne.symm I.ne)).trans I.obj,hn2,I.ne⟩ hs2)
theorem make_map {R:Result→Shared→Prop}{vs:List Value}{kw:List (Str×Value)} (X:K.In s.heap) (hm:PySem.W.makesIn K C=true)
  (hi:PySem.W.findIn K (.ref C) "__init__"=some (some (.ref f))) (hf:PySem.W.typeIn K (.ref f)=some (.type "function"))
  (h:codeAny (model prog w) (A.under (.builtin "type.__call__" ⟨.ref C::vs,kw⟩)) (.call (.ref f) ⟨.ref (s.heap.objs.size+1)::vs,kw⟩) (PySem.W.InitBack (s.heap.objs.size+1) R)
   { s with heap:=(s.heap.push PySem.W.emptyDict).push (PySem.W.instObj C s.heap.objs.size) }) :
  codeAny (model prog w) A (.call (.ref C) ⟨vs,kw⟩) R s:=by
 obtain⟨hh,g,d,t,os⟩:=s
 exact PySem.W.make_core (PySem.W.makes_of X hm) (PySem.W.looks_findIn X hi) (fun self=>PySem.W.bind_fn X self hf) (.inl rfl) h
end
def putF (f:Str) (v:V):List (Str×V)→List (Str×V)
 | []=>[(f,v)]
 | (g,x)::r=>if g=f then (g,v)::r else (g,x)::putF f v r
theorem lookup_putF (f g:Str) (v:V):∀ fs:List (Str×V),(putF f v fs).lookup g=if g=f then some v else fs.lookup g
 | []=>by
  show List.lookup g [(f,v)]=_
  by_cases h:g=f
  ·have hb:(g == f)=true:=beq_iff_eq.mpr h
   simp only [List.lookup,hb,if_pos h]
  ·have hb:(g == f)=false:=beq_eq_false_iff_ne.mpr h
   simp only [List.lookup,hb,if_neg h]
 | (k,x)::r=>by
  have ih:=lookup_putF f g v r
  rw [show putF f v ((k,x)::r)=(if k=f then (k,v)::r else (k,x)::putF f v r) from rfl]
  by_cases hk:k=f
  ·rw [if_pos hk]
   by_cases h:g=k
   ·have hb:(g == k)=true:=beq_iff_eq.mpr h
    simp only [List.lookup,hb,if_pos (h.trans hk)]
   ·have hb:(g == k)=false:=beq_eq_false_iff_ne.mpr h
    simp only [List.lookup,hb,if_neg (fun e:g=f=>h (e.trans hk.symm))]
  ·rw [if_neg hk]
   by_cases h:g=k
   ·have hb:(g == k)=true:=beq_iff_eq.mpr h
    simp only [List.lookup,hb,if_neg (fun e:g=f=>hk (h.symm.trans e))]
   ·have hb:(g == k)=false:=beq_eq_false_iff_ne.mpr h
    simp only [List.lookup,hb]
    exact ih
theorem keys_putF (f:Str) (v:V):∀ fs:List (Str×V),f∈(putF f v fs).map (·.1)∧∀ g,g∈fs.map (·.1)→g∈(putF f v fs).map (·.1)
 | []=>⟨by simp [putF],fun g h=>by simp at h⟩
 | (k,x)::r=>by
  obtain⟨i1,i2⟩:=keys_putF f v r
  rw [show putF f v ((k,x)::r)=(if k=f then (k,v)::r else (k,x)::putF f v r) from rfl]
  by_cases hk:k=f
  ·rw [if_pos hk]
   subst hk
   exact⟨by simp,fun g h=>by simpa using h⟩
  ·rw [if_neg hk]
   refine⟨?_,fun g h=>?_⟩
   ·rw [List.map_cons]
    exact List.mem_cons_of_mem _ i1
   ·rw [List.map_cons] at h ⊢
    rcases List.mem_cons.mp h with e | e
    ·exact List.mem_cons.mpr (.inl e)
    ·exact List.mem_cons_of_mem _ (i2 g e)
theorem length_putF (f:Str) (v:V):∀ fs:List (Str×V),(putF f v fs).length≤fs.length+1
 | []=>by simp [putF]
 | (k,x)::r=>by
  have ih:=length_putF f v r
  rw [show putF f v ((k,x)::r)=(if k=f then (k,v)::r else (k,x)::putF f v r) from rfl]
  by_cases hk:k=f
  ·rw [if_pos hk,List.length_cons,List.length_cons]; lia
  ·rw [if_neg hk,List.length_cons,List.length_cons]; lia
theorem RelO.some_of {v:V}{o:Option Value} (r:RelO (some v) o):∃ u,o=some u∧RelV v u:=by
 cases o with
 | none=>exact (show False from r).elim
 | some u=>exact⟨u,rfl,r⟩
theorem RelO.none_of {o:Option Value} (r:RelO none o):o=none:=by
 cases o with
 | none=>rfl
 | some u=>exact (show False from r).elim
theorem handed_of {v:V}{u:Value} (r:RelV v u):PySem.W.handedIn u=true:=by
 cases v with
 | non=>cases (show u=Value.none from r); rfl
 | bl b=>cases (show u=Value.bool b from r); rfl
 | int i=>obtain⟨t,e⟩:=(show ∃ t,u=Value.int i t from r); cases e; rfl
 | str x=>obtain⟨t,e⟩:=(show ∃ t,u=Value.str x t from r); cases e; rfl
 | byt b=>obtain⟨t,e⟩:=(show ∃ t,u=Value.bytes b t from r); cases e; rfl
 | flt b=>obtain⟨t,e⟩:=(show ∃ t,u=Value.float b t from r); cases e; rfl
 | ref a=>cases (show u=Value.ref a from r); rfl
 | ty n=>cases (show u=Value.type n from r); rfl
section
variable {P:Program}{w:World}{H H':Hp}{h h':Heap}{a C dx:Addr}{fs fs':List (Str×V)}
theorem ins_get (hok:HOk P w H h) (e:H a=some (.ins C dx fs)):∃ mA,ObjM h a dx C mA∧(∀ f,RelO (fs.lookup f) (mA f))∧PySem.Within mA (fs.map (·.1))∧fs.length≤1000∧H dx=some (.own a):=by
 obtain⟨d,z,ne,ob,mA,n,r,q⟩:=(show ObjOk P w H h a (.ins C dx fs) from hok a _ e)
 exact⟨mA,⟨ob,n,ne⟩,r,q,z,d⟩
end
structure Cls (K:PySem.W.Frag) (C:Addr):Prop where
 pg:PySem.W.plainGet K C Str.empty=true
 hd:PySem.W.hasDictIn K C=true
 po:PySem.W.plainOver K C=true
 sa:PySem.W.findIn K (.ref C) "__setattr__"=some (some (.builtin "object.__setattr__"))
theorem Cls.get {K:PySem.W.Frag}{C:Addr} (c:Cls K C) (f:Str):PySem.W.plainGet K C f=true:=c.pg
def NoAttr (K:PySem.W.Frag) (C:Addr) (f:Str):Prop:=PySem.W.findIn K (.ref C) f=some none
theorem NoAttr.taker {K:PySem.W.Frag}{C:Addr}{f:Str} (n:NoAttr K C f):PySem.W.takerIn K C f=some none:=by
 unfold PySem.W.takerIn
 rw [show PySem.W.findIn K (.ref C) f=some none from n]
 rfl
structure Meth (K:PySem.W.Frag) (C:Addr) (m:Str) (f:Addr):Prop where
 at_:PySem.W.findIn K (.ref C) m=some (some (.ref f))
 fn:PySem.W.isFn K (.ref f)=true
 kp:PySem.W.keepIn K (.ref f)=true
section
variable {X:Cx}{pins:List (Addr×Obj)}{σ:St}{H:Hp}{s:Shared}{a C dx:Addr}{fs:List (Str×V)}{f:Str}{v:V}{A:Around}{E:Value→Shared→Prop}
theorem getattr_ok {b:Bool}{Q:Value→Shared→Prop} (I:Inv X pins σ H s) (e:H a=some (.ins C dx fs)) (c:Cls X.K C) (n:NoAttr X.K C f) (l:fs.lookup f=some v)
  (h:∀ u s',Inv X pins σ H s'→RelV v u→Q u s'):wpAny (model X.prog X.w) A (getAttr (.ref a) f b) Q E s:=by
 obtain⟨mA,O,r,_,_,_⟩:=ins_get I.hok e
 obtain⟨u,hu,ru⟩:=RelO.some_of (v:=v) (o:=mA f) (by rw [← l]; exact r f)
 exact get_map I.kIn O (c.get f) c.hd n hu (handed_of ru) (h u _ (I.tok _) ru)
theorem getmeth_ok {m:Str}{g:Addr}{pl:Sem Bool}{Q:Value×List Value→Shared→Prop} (I:Inv X pins σ H s) (e:H a=some (.ins C dx fs)) (c:Cls X.K C) (k:Meth X.K C m g) (l:fs.lookup m=none)
  (h:Q (.ref g,[.ref a]) s):wpAny (model X.prog X.w) A (getMethod (.ref a) m pl) Q E s:=by
 obtain⟨mA,O,r,_,_,_⟩:=ins_get I.hok e
 have hn:mA m=none:=RelO.none_of (by rw [← l]; exact r m)
 exact get_meth I.kIn O (c.get m) k.at_ k.fn hn h
theorem setattr_ok {y:V}{u:Value}{Q:Unit→Shared→Prop} (I:Inv X pins σ H s) (e:H a=some (.ins C dx fs)) (c:Cls X.K C) (n:NoAttr X.K C f) (hl:fs.length<1000) (ry:RelV y u)
  (h:∀ s',Inv X pins σ (upd H a (.ins C dx (putF f y fs))) s'→Q () s'):wpAny (model X.prog X.w) A (setAttr (.ref a) f u) Q E s:=by
 obtain⟨mA,O,r,wi,_,ho⟩:=ins_get I.hok e
 have hz:(fs.map (·.1)).length≤sizeLine:=by rw [List.length_map,sizeLine_eq]; lia
 refine set_map I.kIn O c.sa c.po n.taker c.hd wi hz fun h' O' sb=>h _ ?_
 have hd:∃ o,h'.get? dx=some o:=let ⟨o,_,_,e',_⟩:=O'.ns; ⟨o,e'⟩
 refine I.write (x:=a) (e:=dx) (by rw [e]; exact True.intro) (.inr ho) (fun b q hb z=>(sb.2 b hb).trans z) hd ?_
 refine⟨by rw [upd_ne O.ne]; exact ho,?_,O.ne,O'.obj,_,O'.ns,fun g=>?_,fun g hg=>?_⟩
 ·have:=length_putF f y fs; lia
 ·show RelO ((putF f y fs).lookup g) (if g=f then some u else mA g)
  rw [lookup_putF]
  by_cases q:g=f
  ·rw [if_pos q,if_pos q]; exact ry
  ·rw [if_neg q,if_neg q]; exact r g
 ·by_cases q:g=f
  ·rw [q]; exact (keys_putF f y fs).1
  ·refine (keys_putF f y fs).2 g (wi g fun z=>hg ?_)
   show (if g=f then some u else mA g)=none
   rw [if_neg q]; exact z
theorem Inv.made (I:Inv X pins σ H s):Inv X pins σ (upd (upd H s.heap.objs.size (.own (s.heap.objs.size+1))) (s.heap.objs.size+1) (.ins C s.heap.objs.size []))
  { s with heap:=(s.heap.push PySem.W.emptyDict).push (PySem.W.instObj C s.heap.objs.size) }:=by
 have e1:(s.heap.push PySem.W.emptyDict).get? s.heap.objs.size=some PySem.W.emptyDict:=Heap.get?_push_size s.heap rfl
 have e2:((s.heap.push PySem.W.emptyDict).push (PySem.W.instObj C s.heap.objs.size)).get? (s.heap.objs.size+1)=some (PySem.W.instObj C s.heap.objs.size):=by
  have:=Heap.get?_push_size (s.heap.push PySem.W.emptyDict) (o:=PySem.W.instObj C s.heap.objs.size) rfl
  rwa [Heap.size_push] at this
 have e3:(s.heap.push PySem.W.emptyDict).Ns s.heap.objs.size (fun _=>none):=⟨PySem.W.emptyDict,#[],_,e1,rfl,(fun e he=>absurd he (by simp)),fun _=>rfl⟩
 have I1:=I.laid (a:=s.heap.objs.size) (o:=.own (s.heap.objs.size+1)) (h':=s.heap.push PySem.W.emptyDict) (t':=s.toks) (fun b u q=>Heap.get?_push_of_some _ q) (Nat.le_refl _) ⟨_,e1⟩
 refine I1.laid (a:=s.heap.objs.size+1) (o:=.ins C s.heap.objs.size []) (t':=s.toks) (fun b u q=>Heap.get?_push_of_some _ q) (Nat.le_of_eq (Heap.size_push _ _)) ?_
 have ne:s.heap.objs.size≠s.heap.objs.size+1:=Nat.ne_of_lt (Nat.lt_succ_self _)
 refine⟨by rw [upd_ne ne,upd_same],Nat.zero_le _,ne,e2,fun _=>none,(Heap.Ns1.of_empty e3).at fun o q=>Heap.get?_push_of_some _ q,fun _=>True.intro,fun y hy=>absurd rfl hy⟩
theorem attr_of {prog:Program}{w:World}{env:Env}{e:Expr}{f:Str}{pos:Pos}{s:Shared}{Q:Value→Shared→Prop} (hb:attributeBase e f env (eval e env)=eval e env)
  (h:wpAny (model prog w) A (eval e env) (fun o s₁=>wpAny (model prog w) A (getAttr o f true) Q E s₁) E s):wpAny (model prog w) A (eval (.Attribute e f pos) env) Q E s :=
 Attribute_any_ h (by rw [arm_eval_Attribute,hb])
end
def tFld (K:PySem.W.Frag) (ta:TE) (f:Str):TE:=fun σ H Q=>ta σ H fun x H1=>∃ a C dx fs v,x=.ref a∧H1 a=some (.ins C dx fs)∧Cls K C∧NoAttr K C f∧fs.lookup f=some v∧Q v H1
def sFld (K:PySem.W.Frag) (ta tv:TE) (f:Str):TS:=fun D σ H=>tv σ H fun y H1=>ta σ H1 fun x H2=>∃ a C dx fs,x=.ref a∧H2 a=some (.ins C dx fs)∧Cls K C∧NoAttr K C f∧fs.length<1000 ∧
 D.nx σ (upd H2 a (.ins C dx (putF f y fs)))
def aaU (X:Cx) (op:Operator) (rd:V→V→Hp→VK→Prop):Prop :=
 ∀ (pins:List (Addr×Obj)) (s:Shared) (σ:St) (H:Hp) (x y:V) (u v:Value) (Q:VK),Inv X pins σ H s→RelV x u→RelV y v→rd x y H Q→wpAny (model X.prog X.w) X.A (inplaceOp op u v) (EP X pins σ Q) X.xe s
def Yr (K:PySem.W.Frag) (ta tv:TE) (rd:V→V→Hp→VK→Prop) (f:Str):TS:=fun D σ H=>ta σ H fun x H1=>∃ a C dx fs v,x=.ref a∧H1 a=some (.ins C dx fs)∧Cls K C∧NoAttr K C f∧fs.lookup f=some v ∧
 tv σ H1 fun y H2=>rd v y H2 fun z H3=>∃ dx' fs',H3 a=some (.ins C dx' fs')∧fs'.length<1000∧D.nx σ (upd H3 a (.ins C dx' (putF f z fs')))
section
variable {X:Cx}{o e value:Expr}{f:Str}{pos pos' tpos:Pos}{ta tv:TE}
theorem pe_fld (he:PE X e ta) (hb:attributeBase e f X.env (eval e X.env)=eval e X.env):PE X (.Attribute e f pos) (tFld X.K ta f):=by
 intro pins s σ H Q I h
 refine attr_of hb (thn (he pins s σ H _ I h) fun u s1 ⟨x,H1,I1,rx,a,C,dx,fs,v,ex,ea,c,n,l,q⟩=>?_)
 subst ex
 obtain rfl:u=Value.ref a:=rx
 exact getattr_ok I1 ea c n l fun u' s2 I2 ru=>⟨v,H1,I2,ru,q⟩
theorem ps_fld (ha:PE X o ta) (hv:PE X value tv) (hs:swapsWith value (some (.Attribute o f pos')) pos.line X.env=pure false):PS X (.Assign [.Attribute o f pos'] value pos) (sFld X.K ta tv f):=by
 intro pins s σ H D I h
 refine plainObj_wpAny_Assign_Attribute (thn (hv pins s σ H _ I h) fun u s1 ⟨y,H1,I1,ry,q⟩=>thn (ha pins s1 σ H1 _ I1 q) fun ov s2 ⟨x,H2,I2,rx,a,C,dx,fs,ex,ea,c,n,l,q2⟩=>?_) hs
 subst ex
 obtain rfl:ov=Value.ref a:=rx
 exact setattr_ok I2 ea c n l ry fun s3 I3=>⟨σ,_,I3,q2⟩
theorem abJ {op:Operator}{rd:V→V→Hp→VK→Prop} (ha:PE X o ta) (hv:PE X value tv) (hop:aaU X op rd):PS X (.AugAssign (.Attribute o f tpos) op value pos) (Yr X.K ta tv rd f):=by
 intro pins s σ H D I h
 refine wpAny_AugAssign_AttributeAny (thn (ha pins s σ H _ I h) fun ov s1 ⟨x,H1,I1,rx,a,C,dx,fs,v,ex,ea,c,n,l,q⟩=>?_)
 subst ex
 obtain rfl:ov=Value.ref a:=rx
 refine getattr_ok I1 ea c n l fun u s2 I2 ru=>thn (hv pins s2 σ H1 _ I2 q) fun w3 s3 ⟨y,H2,I3,ry,q3⟩=>thn (hop pins s3 σ H2 v y u w3 _ I3 ru ry q3) fun w4 s4 ⟨z,H3,I4,rz,dx',fs',ea',l',q4⟩=>?_
 exact setattr_ok I4 ea' c n l' rz fun s5 I5=>⟨σ,_,I5,q4⟩
def aj8:V→V→Hp→VK→Prop:=fun x y H Q=>∃ i j,x=.int i∧y=.int j∧Q (.int (i+j)) H
def aj3:V→V→Hp→VK→Prop:=fun x y H Q=>∃ i j,x=.int i∧y=.int j∧Q (.int (i - j)) H
theorem ahl:aaU X .Add aj8:=by
 rintro pins s σ H x y u v Q I rx ry ⟨i,j,rfl,rfl,q⟩
 obtain⟨t,rfl⟩:=(show ∃ t,u=Value.int i t from rx)
 obtain⟨t',rfl⟩:=(show ∃ t',v=Value.int j t' from ry)
 exact PyProof.Rows.iadd_int ⟨.int (i+j),H,I.tok _,⟨_,rfl⟩,q⟩
theorem ahk:aaU X .Sub aj3:=by
 rintro pins s σ H x y u v Q I rx ry ⟨i,j,rfl,rfl,q⟩
 obtain⟨t,rfl⟩:=(show ∃ t,u=Value.int i t from rx)
 obtain⟨t',rfl⟩:=(show ∃ t',v=Value.int j t' from ry)
 exact PyProof.Rows.isub_int ⟨.int (i - j),H,I.tok _,⟨_,rfl⟩,q⟩
end
section
variable {X:Cx}{pins:List (Addr×Obj)}{σ:St}{H:Hp}{s:Shared}{A:Around}{E:Value→Shared→Prop}{Q:Value→Shared→Prop}{c:Value}{b:Bool}
inductive TyOf (K:PySem.W.Frag) (H:Hp):V→Value→Prop where
 | non:TyOf K H .non (.type "NoneType")
 | bl (x:Bool):TyOf K H (.bl x) (.type "bool")
 | int (i:Int):TyOf K H (.int i) (.type "int")
 | str (x:Str):TyOf K H (.str x) (.type "str")
 | flt (x:UInt64):TyOf K H (.flt x) (.type "float")
 | lst {a:Addr}{xs:List V} (e:H a=some (.lst xs)):TyOf K H (.ref a) (.type "list")
 | frz {a:Addr}{o:Obj}{xs:List V} (e:H a=some (.frz o (.lst xs))):TyOf K H (.ref a) (.type "list")
 | tup {a:Addr}{xs:List V} (e:H a=some (.tup xs)):TyOf K H (.ref a) (.type "tuple")
 | dK {a:Addr}{kvs:List (Key×V)} (e:H a=some (.dK kvs)):TyOf K H (.ref a) (.type "dict")
 | dT {a:Addr}{kvs:List (List Key×V)} (e:H a=some (.dT kvs)):TyOf K H (.ref a) (.type "dict")
 | ins {a C dx:Addr}{fs:List (Str×V)} (e:H a=some (.ins C dx fs)) (cl:Cls K C) (ha:PySem.W.findIn K (.ref C) "__class__"=some (some (.builtin "object.__class__")))
   (hn:PySem.W.specialIn K (.builtin "object.__class__") "__get__"=some (some (.builtin "getset_descriptor.__get__"))) (htk:PySem.W.takesIn K (.builtin "object.__class__")=some true)
   (hm:PySem.W.mroIn K C (.type "object")=some true):TyOf K H (.ref a) (.ref C)
theorem Rw {x:V}{u t:Value} (I:Inv X pins σ H s) (rx:RelV x u) (ty:TyOf X.K H x t) (e:PySem.W.kitOne X.K t c=some b) (h:∀ tk,Q (.bool b) { s with toks:=tk }) :
  wpAny (model X.prog X.w) A (call (.builtin "isinstance") [u,c]) Q E s:=by
 cases ty with
 | non=>cases (show u=Value.none from rx); exact PySem.W.kia_one PySem.W.kitx_none I.kIn True.intro e (fun z=>nomatch z) h
 | bl y=>cases (show u=Value.bool y from rx); exact PySem.W.kia_one PySem.W.kitx_bool I.kIn True.intro e (fun z=>nomatch z) h
 | int i=>obtain⟨t,q⟩:=(show ∃ t,u=Value.int i t from rx); cases q; exact PySem.W.kia_one PySem.W.kitx_int I.kIn True.intro e (fun z=>nomatch z) h
 | str y=>obtain⟨t,q⟩:=(show ∃ t,u=Value.str y t from rx); cases q; exact PySem.W.kia_one PySem.W.kitx_str I.kIn True.intro e (fun z=>nomatch z) h
 | flt y=>obtain⟨t,q⟩:=(show ∃ t,u=Value.float y t from rx); cases q; exact PySem.W.kia_one PySem.W.kitx_float I.kIn True.intro e (fun z=>nomatch z) h
 | @lst a xs ea =>
  cases (show u=Value.ref a from rx)
  obtain⟨_,_,n,_,h1⟩:=(show ObjOk X.prog X.w H s.heap a (.lst xs) from I.hok a _ ea)
  exact PySem.W.kia_one PySem.W.kitx_list I.kIn ⟨_,h1,rfl⟩ e (fun z=>nomatch z) h
 | @frz a ob xs ea =>
  cases (show u=Value.ref a from rx)
  obtain⟨_,_,_,n,_,h1⟩:=(show ObjOk X.prog X.w H s.heap a (.frz ob (.lst xs)) from I.hok a _ ea)
  exact PySem.W.kia_one PySem.W.kitx_list I.kIn ⟨_,h1,rfl⟩ e (fun z=>nomatch z) h
 | @tup a xs ea =>
  cases (show u=Value.ref a from rx)
  obtain⟨_,_,_,p⟩:=(show ObjOk X.prog X.w H s.heap a (.tup xs) from I.hok a _ ea)
  obtain⟨o,h1,h2,_⟩:=p
  exact PySem.W.kia_one PySem.W.kitx_tuple I.kIn ⟨o,h1,h2⟩ e (fun z=>nomatch z) h
 | @dK a kvs ea =>
  cases (show u=Value.ref a from rx)
  obtain⟨_,_,vs,_,p⟩:=(show ObjOk X.prog X.w H s.heap a (.dK kvs) from I.hok a _ ea)
  obtain⟨o,es,ep,h1,h2,_⟩:=p
  exact PySem.W.kia_one PySem.W.kitx_dict I.kIn ⟨o,h1,h2.1⟩ e (fun z=>nomatch z) h
 | @dT a kvs ea =>
  cases (show u=Value.ref a from rx)
  obtain⟨_,_,xs,_,o,es,ep,h1,h2,_⟩:=(show ObjOk X.prog X.w H s.heap a (.dT kvs) from I.hok a _ ea)
  exact PySem.W.kia_one PySem.W.kitx_dict I.kIn ⟨o,h1,h2.1⟩ e (fun z=>nomatch z) h
 | @ins a C dx fs ea cl ha hn htk hm =>
  cases (show u=Value.ref a from rx)
  obtain⟨mA,O,_⟩:=ins_get I.hok ea
  obtain⟨od,J,_⟩:=O.look
  exact PySem.W.kia_one (PySem.W.kitx_own (cl.get _) cl.hd ha hn htk hm) I.kIn J e (fun z=>nomatch z) h
end
end L2
namespace L2
open PySem PySem.Spec PyProof.Rows
structure Room (k:Nat) (A:Around):Prop where
 hd:A.handled=none
 dp:A.depth+3 * k+5<recursionLimit
 un:A.units+16 * k+200<cLine
theorem Room.mono {j k:Nat}{A:Around} (r:Room k A) (h:j≤k):Room j A:=⟨r.hd,by have:=r.dp; lia,by have:=r.un; lia⟩
theorem Room.deeper {k:Nat}{A:Around} (r:Room (k+1) A) (env:Env):Room k (A.deeper env) :=
 ⟨r.hd,by have:=r.dp; show A.depth+1+3 * k+5<_; lia,by have:=r.un; show A.units+3+16 * k+200<_; lia⟩
theorem make_depth {A:Around}{C:Addr}{us:List Value}{kw:List (Str×Value)}:(A.under (.builtin "type.__call__" ⟨.ref C::us,kw⟩)).depth=A.depth+1:=by
 first | rfl | simp [Around.under,Code.weight,Code.isCreation,Code.isGuard,Code.isCaller,Code.frames,Code.isFrame,guardIds]
theorem make_units {A:Around}{C:Addr}{us:List Value}{kw:List (Str×Value)}:(A.under (.builtin "type.__call__" ⟨.ref C::us,kw⟩)).units=A.units+1:=by
 first | rfl | simp [Around.under,Code.cUnits,Code.frames,Code.isFrame]
theorem Room.make {k:Nat}{A:Around} (r:Room (k+1) A) (C:Addr) (us:List Value) (kw:List (Str×Value)):Room k (A.under (.builtin "type.__call__" ⟨.ref C::us,kw⟩)) :=
 ⟨r.hd,by have:=r.dp; rw [make_depth]; lia,by have:=r.un; rw [make_units]; lia⟩
theorem Room.depth {k:Nat}{A:Around} (r:Room k A):A.depth<recursionLimit:=by have:=r.dp; lia
def tNil:TA:=fun _ H Q=>Q [] H
def tCons (ta:TE) (tr:TA):TA:=fun σ H Q=>ta σ H fun x H1=>tr σ H1 fun xs H2=>Q (x::xs) H2
section
variable {X:Cx}{e:Expr}{es:List Expr}{te:TE}{t:TA}{pos:Pos}
theorem pa_nil:PA X [] tNil:=fun _ _ _ _ H Q I h=>Calls.spliced_nil ⟨[],H,I,.nil,h⟩
theorem pa_cons (ha:PE X e te) (hr:PA X es t) (hs:starEach (e::es) X.env=(false,eval e X.env)::starEach es X.env:=by rfl):PA X (e::es) (tCons te t):=by
 intro pos pins s σ H Q I h
 rw [hs]
 show wpAny _ _ (spliced ((false,eval e X.env)::backTo pos (starEach es X.env))) _ _ s
 refine Calls.spliced_cons (thn (ha pins s σ H _ I h) fun u s1 ⟨x,H1,I1,r1,q1⟩=>?_)
 exact thn (hr pos pins s1 σ H1 _ I1 q1) fun us s2 ⟨xs,H2,I2,r2,q2⟩=>⟨x::xs,H2,I2,.cons r1 r2,q2⟩
def af_ (t:TA):TE:=fun σ H Q=>t σ H fun xs H1=>xs.length≤sizeLine∧∀ p,H1 p=none→Q (.ref p) (upd H1 p (.tup xs))
def tLst (t:TA):TE:=fun σ H Q=>t σ H fun xs H1=>xs.length≤sizeLine∧∀ p,H1 p=none→Q (.ref p) (upd H1 p (.lst xs))
theorem agH {x1} (h:PA X es t):PE X (.Tuple es x1 pos) (af_ t):=by
 intro pins s σ H Q I hq
 refine wpAny_Tuple_spliced (thn (h pos pins s σ H _ I hq) fun us s1 ⟨xs,H1,I1,r,z,q⟩=>⟨by rw [← r.length]; exact z,?_⟩)
 have hf:H1 s1.heap.objs.size=none:=I1.hok.fresh (Nat.le_refl _)
 refine⟨.ref s1.heap.objs.size,upd H1 s1.heap.objs.size (.tup xs),I1.laid (t':=s1.toks) (fun b u e=>Heap.get?_push_of_some _ e) (Nat.le_refl _) ?_,rfl,q _ hf⟩
 exact⟨z,us,r,⟨_,Heap.get?_push_size _ rfl,rfl,_,rfl⟩⟩
theorem pe_lst (h:PA X es t):PE X (.List es pos) (tLst t):=by
 intro pins s σ H Q I hq
 refine wpAny_List_spliced (thn (h pos pins s σ H _ I hq) fun us s1 ⟨xs,H1,I1,r,z,q⟩=>⟨by rw [← r.length]; exact z,?_⟩)
 have hf:H1 s1.heap.objs.size=none:=I1.hok.fresh (Nat.le_refl _)
 refine⟨.ref s1.heap.objs.size,upd H1 s1.heap.objs.size (.lst xs),I1.laid (t':=s1.toks) (fun b u e=>Heap.get?_push_of_some _ e) (Nat.le_refl _) ?_,rfl,q _ hf⟩
 exact⟨z,us,0,r,Heap.get?_push_size _ rfl⟩
end
abbrev Sp:=List V→Hp→VK→XK→Prop
abbrev CXT:=List Env→Hp→Shared→XK→Value→Shared→Prop
structure Env0 (P:Program) (w:World) (K:PySem.W.Frag) (mg:Str→Option Value) (base:Heap) (A:Around) (outer:List Env) (s:Shared) (H:Hp):Prop where
 frames:A.frames=some outer
 mod:Mod K mg base
 bs:∀ b o,base.get? b=some o→s.heap.get? b=some o∧H b=none
 bsz:base.objs.size≤s.heap.objs.size
 funs:s.heap.FunFrames base outer
 frf:∀ b∈frs outer,H b=none
 hok:HOk P w H s.heap
 bare:AllBare s.gens
def CE (outer:List Env) (P:Program) (w:World) (H:Hp) (s:Shared) (Q:VK) (u:Value) (s':Shared):Prop :=
 ∃ v H',s'.os=s.os∧AllBare s'.gens∧Un (frs outer) [] H H' s.heap s'.heap∧HOk P w H' s'.heap∧RelV v u∧Q v H'
def CR (CX:CXT) (outer:List Env) (P:Program) (w:World) (H:Hp) (s:Shared) (Q:VK) (E:XK) (r:Result) (s':Shared):Prop :=
 match r with
 | .ok (.ret u)=>CE outer P w H s Q u s'
 | .ok _=>False
 | .error e=>CX outer H s E e s'
structure FnOk (P:Program) (w:World) (K:PySem.W.Frag) (mg:Str→Option Value) (base:Heap) (CX:CXT) (k:Nat) (f:Addr) (fd:FuncData) (ps:List Str) (sp:Sp):Prop where
 len:∀ vs H Q E,sp vs H Q E→vs.length=ps.length
 run:∀ (A:Around) (outer:List Env) (s:Shared) (H:Hp) (args:Args) (us:List Value) (vs:List V) (Q:VK) (E:XK),Room k A→Env0 P w K mg base A outer s H→BindsTo s fd args (ps.zip us)→Vals vs us→sp vs H Q E →
  codeAny (model P w) A (.call (.ref f) args) (CR CX outer P w H s Q E) s
theorem FnOk.mono {P:Program}{w:World}{K:PySem.W.Frag}{mg:Str→Option Value}{base:Heap}{CX:CXT}{j k:Nat}{f:Addr}{fd:FuncData}{ps:List Str}{sp:Sp} (F:FnOk P w K mg base CX j f fd ps sp) (h:j≤k) :
  FnOk P w K mg base CX k f fd ps sp:=⟨F.len,fun A outer s H args us vs Q E hr=>F.run A outer s H args us vs Q E (hr.mono h)⟩
theorem Env0.make {P:Program}{w:World}{K:PySem.W.Frag}{mg:Str→Option Value}{base:Heap}{A:Around}{outer:List Env}{s:Shared}{H:Hp} (e:Env0 P w K mg base A outer s H) (C:Addr) (us:List Value) (kw:List (Str×Value)) :
  Env0 P w K mg base (A.under (.builtin "type.__call__" ⟨.ref C::us,kw⟩)) outer s H:=⟨by first | exact e.frames | (simpa [Around.under,Code.envs,Code.isFrame,pushEnvs] using e.frames),e.mod,e.bs,e.bsz,e.funs,e.frf,e.hok,e.bare⟩
section
variable {X:Cx}{pins:List (Addr×Obj)}{σ:St}{H:Hp}{s s':Shared}
theorem Inv.env0 (I:Inv X pins σ H s):Env0 X.prog X.w X.K X.mg X.base X.A X.stack s H :=
 ⟨I.ok.frames,I.ok.mod,I.bs,Nat.le_trans I.ok.bsz I.sz,I.stack,I.stkFree,I.hok,I.bare⟩
theorem Inv.after {Q:VK}{u:Value} (I:Inv X pins σ H s) (h:CE X.stack X.prog X.w H s Q u s'):EP X pins σ Q u s':=by
 obtain⟨v,H',os,bare,un,hok,r,q⟩:=h
 obtain⟨hh,g,d,t,os'⟩:=s'
 obtain rfl:os'=s.os:=os
 exact⟨v,H',I.call (h':=hh) (g':=g) (d':=d) (t':=t) (ch:=[]) un hok bare (fun b z=>absurd z (by simp)),r,q⟩
end
def tCall (sp:Sp) (dvs:List V) (E:XK) (t:TA):TE:=fun σ H Q=>t σ H fun vs H1=>sp (vs++dvs) H1 Q E
def tMeth (C:Addr) (m:Str) (sp:Sp) (dvs:List V) (E:XK) (ta:TE) (t:TA):TE:=fun σ H Q=>ta σ H fun x H1=>∃ a dx fs,x=.ref a∧H1 a=some (.ins C dx fs)∧fs.lookup m=none ∧
 t σ H1 fun vs H2=>sp (x::(vs++dvs)) H2 Q E
def tMake (C:Addr) (sp:Sp) (dvs:List V) (E:XK) (t:TA):TE:=fun σ H Q=>t σ H fun vs H1=>∀ x dx,H1 x=none→H1 dx=none→dx≠x →
 sp (.ref x::(vs++dvs)) (upd (upd H1 dx (.own x)) x (.ins C dx [])) (fun v H2=>v=.non∧Q (.ref x) H2) E
def Binds (K:PySem.W.Frag) (fd:FuncData) (ps:List Str) (ds:List Value):Prop :=
 ∀ (s:Shared) (us:List Value),K.In s.heap→(us++ds).length=ps.length→BindsTo s fd ⟨us,[]⟩ (ps.zip (us++ds))
theorem Binds.all {K:PySem.W.Frag}{fd:FuncData}{ps:List Str} (h:∀ us:List Value,us.length=ps.length→bindArgs fd ⟨us,[]⟩=pure (ps.zip us)):Binds K fd ps []:=fun s us _ hl=>by
 rw [List.append_nil] at hl ⊢
 exact .of_eq (h us hl)
def Passes (CX:CXT) (X:Cx) (E:XK):Prop:=∀ (pins:List (Addr×Obj)) (σ:St) (H:Hp) (s:Shared) (e:Value) (s':Shared),Inv X pins σ H s→CX X.stack H s E e s'→X.xe e s'
section
variable {X:Cx}{CX:CXT}{k:Nat}{f C:Addr}{fd:FuncData}{ps:List Str}{sp:Sp}{dvs:List V}{ds:List Value}{E:XK}{x m:Str}{p pos apos:Pos}{e o:Expr}{es:List Expr}{ta:TE}{t:TA}
theorem run_fn {pins:List (Addr×Obj)}{σ:St}{H:Hp}{s:Shared}{Q:VK}{us:List Value}{vs:List V} (F:FnOk X.prog X.w X.K X.mg X.base CX k f fd ps sp) (hr:Room k X.A) (hb:Binds X.K fd ps ds) (hd:Vals dvs ds) (hx:Passes CX X E)
  (I:Inv X pins σ H s) (r:Vals vs us) (h:sp (vs++dvs) H Q E):wpAny (model X.prog X.w) X.A (call (.ref f) us) (EP X pins σ Q) X.xe s:=by
 have r2:Vals (vs++dvs) (us++ds):=r.append hd
 have hl:(us++ds).length=ps.length:=by rw [← r2.length]; exact F.len _ _ _ _ h
 refine wpAny_call (codeAny_mono (F.run X.A X.stack s H ⟨us,[]⟩ (us++ds) (vs++dvs) Q E hr I.env0 (hb s us I.kIn hl) r2 h) fun r s' hq=>?_)
 cases r with
 | error e=>exact hx pins σ H s e s' I hq
 | ok fl =>
  cases fl with
  | ret u=>exact I.after hq
  | next=>exact False.elim hq
  | brk=>exact False.elim hq
  | cont=>exact False.elim hq
theorem pe_call (F:FnOk X.prog X.w X.K X.mg X.base CX k f fd ps sp) (hr:Room k X.A) (hg:Gl X x) (hm:X.mg x=some (.ref f)) (hk:PySem.W.keepIn X.K (.ref f)=true) (hb:Binds X.K fd ps ds) (hd:Vals dvs ds) (hx:Passes CX X E)
  (ha:PA X (e::es) t) (hdb:(x == ("__debug__":Str))=false:=by decide) (he:starEach (e::es) X.env=(false,eval e X.env)::starEach es X.env:=by rfl) (hpl:(backTo pos (starEach es X.env)).any (·.1)=false:=by rfl) :
  PE X (.Call (.Name x p) (e::es) [] pos) (tCall sp dvs E t):=by
 intro pins s σ H Q I h
 refine wpAny_Call_Name_kw (ld_glob I hg hm ?_ hdb)
 refine PySem.W.callWith_K (h₀:=X.base) I.ok.mod.kin hk (thn (ha pos pins s σ H _ I h) fun us s1 ⟨vs,H1,I1,r,q⟩=>⟨I1.kIn,?_⟩) he hpl
 exact run_fn F hr hb hd hx I1 r q
theorem adC (F:FnOk X.prog X.w X.K X.mg X.base CX k f fd ps sp) (hr:Room k X.A) (hg:Gl X x) (hm:X.mg x=some (.ref f)) (hk:PySem.W.keepIn X.K (.ref f)=true) (hb:Binds X.K fd ps ds) (hd:Vals dvs ds) (hx:Passes CX X E)
  (hdb:(x == ("__debug__":Str))=false:=by decide):PE X (.Call (.Name x p) [] [] pos) (tCall sp dvs E tNil):=by
 intro pins s σ H Q I h
 refine wpAny_Call_Name_kw (ld_glob I hg hm ?_ hdb)
 exact PySem.W.callWith_K0 I.kIn hk (run_fn (us:=[]) F hr hb hd hx I .nil h)
theorem pe_meth {pl:Sem Bool} (he:PE X o ta) (c:Cls X.K C) (hm:Meth X.K C m f) (F:FnOk X.prog X.w X.K X.mg X.base CX k f fd ps sp) (hr:Room k X.A) (hb:Binds X.K fd ps ds) (hd:Vals dvs ds) (hx:Passes CX X E) (ha:PA X (e::es) t)
  (hst:starEach (e::es) X.env=(false,eval e X.env)::starEach es X.env:=by rfl) (hpl:(backTo pos (starEach es X.env)).any (·.1)=false:=by rfl)
  (ht:eval (.Call (.Attribute o m apos) (e::es) [] pos) X.env=(do
   let ov ← eval o X.env
   standAt apos.atName
   let (f,first) ← holding [ov] (getMethod ov m pl)
   callWith pos f first (backTo pos (starEach (e::es) X.env)) (backToKw pos (keywordEach [] X.env))):=by rfl) :
  PE X (.Call (.Attribute o m apos) (e::es) [] pos) (tMeth C m sp dvs E ta t):=by
 intro pins s σ H Q I h
 refine PySem.W.methodCall_KW (pl:=pl) (thn (he pins s σ H _ I h) fun u s1 ⟨x,H1,I1,rx,a,dx,fs,ex,ea,l,q⟩=>?_) ht
 subst ex
 obtain rfl:u=Value.ref a:=rx
 refine getmeth_ok I1 ea c hm l ?_
 refine PySem.W.callWith_K (first:=[.ref a]) (h₀:=X.base) I.ok.mod.kin hm.kp (thn (ha pos pins s1 σ H1 _ I1 q) fun us s2 ⟨vs,H2,I2,r,q2⟩=>⟨I2.kIn,?_⟩) hst hpl
 exact run_fn (us:=.ref a::us) (vs:=.ref a::vs) F hr hb hd hx I2 (.cons rfl r) q2
theorem adA {pl:Sem Bool} (he:PE X o ta) (c:Cls X.K C) (hm:Meth X.K C m f) (F:FnOk X.prog X.w X.K X.mg X.base CX k f fd ps sp) (hr:Room k X.A) (hb:Binds X.K fd ps ds) (hd:Vals dvs ds) (hx:Passes CX X E)
  (ht:eval (.Call (.Attribute o m apos) [] [] pos) X.env=(do
   let ov ← eval o X.env
   standAt apos.atName
   let (f,first) ← holding [ov] (getMethod ov m pl)
   callWith pos f first (backTo pos (starEach [] X.env)) (backToKw pos (keywordEach [] X.env))):=by rfl) :
  PE X (.Call (.Attribute o m apos) [] [] pos) (tMeth C m sp dvs E ta tNil):=by
 intro pins s σ H Q I h
 refine PySem.W.methodCall_KW (pl:=pl) (thn (he pins s σ H _ I h) fun u s1 ⟨x,H1,I1,rx,a,dx,fs,ex,ea,l,q⟩=>?_) ht
 subst ex
 obtain rfl:u=Value.ref a:=rx
 refine getmeth_ok I1 ea c hm l ?_
 exact PySem.W.callWith_K0 (first:=[.ref a]) I1.kIn hm.kp (run_fn (us:=[.ref a]) (vs:=[.ref a]) F hr hb hd hx I1 (.cons rfl .nil) q)
structure Mk (K:PySem.W.Frag) (C f:Addr):Prop where
 makes:PySem.W.makesIn K C=true
 init:PySem.W.findIn K (.ref C) "__init__"=some (some (.ref f))
 fn:PySem.W.isFn K (.ref f)=true
 kp:PySem.W.keepIn K (.ref C)=true
theorem run_make {pins:List (Addr×Obj)}{σ:St}{H:Hp}{s:Shared}{Q:VK}{us:List Value}{vs:List V} (M:Mk X.K C f) (F:FnOk X.prog X.w X.K X.mg X.base CX k f fd ps sp) (hr:Room (k+1) X.A) (hb:Binds X.K fd ps ds) (hd:Vals dvs ds)
  (hx:Passes CX X E) (I:Inv X pins σ H s) (r:Vals vs us)
  (h:∀ x dx,H x=none→H dx=none→dx≠x→sp (.ref x::(vs++dvs)) (upd (upd H dx (.own x)) x (.ins C dx [])) (fun v H2=>v=.non∧Q (.ref x) H2) E) :
  wpAny (model X.prog X.w) X.A (call (.ref C) us) (EP X pins σ Q) X.xe s:=by
 have hq:=h (s.heap.objs.size+1) s.heap.objs.size (I.hok.fresh (Nat.le_succ _)) (I.hok.fresh (Nat.le_refl _)) (Nat.ne_of_lt (Nat.lt_succ_self _))
 have I2:=Inv.made (C:=C) I
 have r2:Vals (V.ref (s.heap.objs.size+1)::(vs++dvs)) (Value.ref (s.heap.objs.size+1)::(us++ds)):=.cons rfl (r.append hd)
 have hl:(Value.ref (s.heap.objs.size+1)::us++ds).length=ps.length:=by
  have e:=r2.length
  rw [F.len _ _ _ _ hq] at e
  exact e.symm
 refine wpAny_call (make_map (f:=f) I.kIn M.makes M.init (beq_iff_eq.mp M.fn) (codeAny_mono (F.run _ X.stack _ _ ⟨Value.ref (s.heap.objs.size+1)::us,[]⟩ (Value.ref (s.heap.objs.size+1)::(us++ds)) _ _ E (hr.make C us [])
  (I2.env0.make C us []) (hb _ (Value.ref (s.heap.objs.size+1)::us) I2.kIn hl) r2 hq) fun r s' hq'=>?_))
 cases r with
 | error e=>exact hx pins σ _ _ e s' I2 hq'
 | ok fl =>
  cases fl with
  | ret u =>
   obtain⟨v,H',I3,rv,ev,q3⟩:=I2.after hq'
   subst ev
   exact⟨rv,⟨V.ref (s.heap.objs.size+1),H',I3,rfl,q3⟩⟩
  | next=>exact False.elim hq'
  | brk=>exact False.elim hq'
  | cont=>exact False.elim hq'
theorem afm (M:Mk X.K C f) (F:FnOk X.prog X.w X.K X.mg X.base CX k f fd ps sp) (hr:Room (k+1) X.A) (hg:Gl X x) (hm:X.mg x=some (.ref C)) (hb:Binds X.K fd ps ds) (hd:Vals dvs ds) (hx:Passes CX X E)
  (ha:PA X (e::es) t) (hdb:(x == ("__debug__":Str))=false:=by decide) (he:starEach (e::es) X.env=(false,eval e X.env)::starEach es X.env:=by rfl) (hpl:(backTo pos (starEach es X.env)).any (·.1)=false:=by rfl) :
  PE X (.Call (.Name x p) (e::es) [] pos) (tMake C sp dvs E t):=by
 intro pins s σ H Q I h
 refine wpAny_Call_Name_kw (ld_glob I hg hm ?_ hdb)
 refine PySem.W.callWith_K (h₀:=X.base) I.ok.mod.kin M.kp (thn (ha pos pins s σ H _ I h) fun us s1 ⟨vs,H1,I1,r,q⟩=>⟨I1.kIn,?_⟩) he hpl
 exact run_make M F hr hb hd hx I1 r q
end
section
variable {X:Cx}{CX:CXT}{k:Nat}{f C:Addr}{fd:FuncData}{ps ks:List Str}{sp:Sp}{E:XK}{x m:Str}{p pos apos kpos:Pos}{e o:Expr}{es:List Expr}{kws:List Keyword}{te ta:TE}{t tk:TA}{nm:Option Str}
variable {g:List Value→List Value→List Value}{gV:List V→List V→List V}
end
structure FnScope (N P:List Str) (sc:Scope):Prop where
 kind:sc.kind=.function
 co:sc.isCoroutine=false
 gen:sc.isGenerator=false
 nd:N.Nodup
 pre:N.take P.length=P
 par:∀ x∈P,sc.names.lookup x=some .local∨sc.names.lookup x=some .cell
 nofree:∀ y∈sc.names,y.2≠.free
theorem bindL_out {kindOf:Str→Option NameKind}{x:Str}:∀ {binds:List (Str×Value)}{m:Str→Option Value},(∀ v,(x,v) ∉ binds)→bindL kindOf binds m x=m x
 | [],_,_=>rfl
 | (n,v)::r,m,h=>by
  unfold bindL
  rw [bindL_out fun w hw=>h w (List.mem_cons_of_mem _ hw)]
  split
  ·have:x≠n:=by rintro rfl; exact h v List.mem_cons_self
   simp [this]
  ·rfl
theorem bindC_out {kindOf:Str→Option NameKind}{x:Str}:∀ {binds:List (Str×Value)}{m:Str→Option Value},(∀ v,(x,v) ∉ binds)→bindC kindOf binds m x=m x
 | [],_,_=>rfl
 | (n,v)::r,m,h=>by
  unfold bindC
  rw [bindC_out fun w hw=>h w (List.mem_cons_of_mem _ hw)]
  split
  ·rfl
  ·have:x≠n:=by rintro rfl; exact h v List.mem_cons_self
   simp [this]
theorem bindL_get {kindOf:Str→Option NameKind}{x:Str}{v:Value}:∀ {P:List Str}{vs:List Value}{i:Nat}{m:Str→Option Value},P.Nodup→P[i]?=some x→vs[i]?=some v→kindOf x=some .local →
  bindL kindOf (P.zip vs) m x=some v
 | [],_,_,_,_,h,_,_=>by simp at h
 | _::_,[],_,_,_,_,h,_=>by simp at h
 | p::P,w::vs,0,m,nd,h1,h2,hk=>by
  simp at h1 h2; subst h1; subst h2
  show bindL kindOf ((p,w)::P.zip vs) m p=_
  unfold bindL
  rw [bindL_out fun v hv=>(List.nodup_cons.mp nd).1 (List.of_mem_zip hv).1,if_pos hk]
  simp
 | p::P,w::vs,i+1,m,nd,h1,h2,hk=>by
  show bindL kindOf ((p,w)::P.zip vs) m x=_
  unfold bindL
  exact bindL_get (i:=i) (List.nodup_cons.mp nd).2 (by simpa using h1) (by simpa using h2) hk
theorem bindC_get {kindOf:Str→Option NameKind}{x:Str}{v:Value}:∀ {P:List Str}{vs:List Value}{i:Nat}{m:Str→Option Value},P.Nodup→P[i]?=some x→vs[i]?=some v→kindOf x≠some .local →
  bindC kindOf (P.zip vs) m x=some v
 | [],_,_,_,_,h,_,_=>by simp at h
 | _::_,[],_,_,_,_,h,_=>by simp at h
 | p::P,w::vs,0,m,nd,h1,h2,hk=>by
  simp at h1 h2; subst h1; subst h2
  show bindC kindOf ((p,w)::P.zip vs) m p=_
  unfold bindC
  rw [bindC_out fun v hv=>(List.nodup_cons.mp nd).1 (List.of_mem_zip hv).1,if_neg hk]
  simp
 | p::P,w::vs,i+1,m,nd,h1,h2,hk=>by
  show bindC kindOf ((p,w)::P.zip vs) m x=_
  unfold bindC
  exact bindC_get (i:=i) (List.nodup_cons.mp nd).2 (by simpa using h1) (by simpa using h2) hk
def start (N:List Str) (vs:List V):St:=vs.map some++List.replicate (N.length - vs.length) none
def cxOf (CX:CXT) (P:Program) (w:World) (K:PySem.W.Frag) (mg:Str→Option Value) (base:Heap) (N:List Str) (qual:Str) (scope:Scope) (f:Addr) (cd:Value) (A:Around) (outer:List Env) (s:Shared) (H:Hp) (E:XK):Cx where
 prog:=P
 w:=w
 K:=K
 mg:=mg
 base:=base
 A:=A.deeper (envOfC qual scope s.heap.objs.size f cd)
 N:=N
 s₀:=s
 H₀:=H
 env:=envOfC qual scope s.heap.objs.size f cd
 outer:=outer
 stack:=envOfC qual scope s.heap.objs.size f cd::outer
 ex:=[]
 calm:=true
 fn:=fun _=>true
 pn:=[]
 xe:=fun e s'=>wpAny (model P w) (A.deeper (envOfC qual scope s.heap.objs.size f cd)) (leaving (envOfC qual scope s.heap.objs.size f cd) e) (fun _ s''=>CX outer H s E e s'') (fun e' s''=>CX outer H s E e' s'') s'
theorem cell_has {sc:Scope}{n:Nat}{x:Str} (h:sc.names.lookup x=some .cell):∃ c,(cellsFrom n sc.names []).lookup x=some c:=by
 have q:=PySem.W.cellsFrom_some sc.names n [] (.inl h)
 exact Option.isSome_iff_exists.mp q
theorem inv_start {CX:CXT}{P:Program}{w:World}{K:PySem.W.Frag}{mg:Str→Option Value}{base:Heap}{N ps:List Str}{qual:Str}{scope:Scope}{f:Addr}{cd:Value}{A:Around}{outer:List Env}{s s1:Shared}{H:Hp}{E:XK}{us:List Value}{vs:List V}
  (S:FnScope N ps scope) (hd:A.handled=none) (e0:Env0 P w K mg base A outer s H) (hl:vs.length=ps.length) (r:Vals vs us)
  (x:InCallC s s.heap.objs.size (bindL (envOfC qual scope s.heap.objs.size f cd).kindOf (ps.zip us) fun _=>none) (cellsFrom (s.heap.objs.size+1) scope.names []) (bindC (envOfC qual scope s.heap.objs.size f cd).kindOf (ps.zip us) fun _=>none) s1) :
  Inv (cxOf CX P w K mg base N qual scope f cd A outer s H E) [] (start N vs) H s1:=by
 have hpl:ps.length≤N.length:=by have:=congrArg List.length S.pre; rw [List.length_take] at this; lia
 obtain⟨h1,tk,rfl,hk⟩:=x.done
 have noA:∀ b:Addr,b ∉ (cxOf CX P w K mg base N qual scope f cd A outer s H E).ex:=fun b z=>absurd (show b∈([]:List Addr) from z) (by simp)
 refine⟨⟨e0.mod,S.kind,rfl,rfl,Nat.le_refl _,fun y z c h1 h2=>?_,fun y hy=>?_,fun y c _ h=>?_,fun _=>hd,Around.frames_deeper e0.frames,.inr ⟨rfl,rfl⟩,fun b z=>absurd z (noA b),e0.bs,e0.bsz,fun b _ _=>noA b,fun b z=>absurd z (noA b),e0.funs,e0.frf⟩,
  rfl,e0.bare,Un.kept hk,⟨_,x.toInCall.ns,fun i y v h1 h2 h3=>?_⟩,fun y c h=>⟨_,x.cell y c h⟩,e0.hok.fresh (Nat.le_refl _),fun y c h=>?_,fun p hp=>absurd (show p∈([]:List (Addr×Obj)) from hp) (by simp),e0.hok.kept hk,?_⟩
 ·exact name_of_addr x.apart (PySem.mem_of_lookup h1) (PySem.mem_of_lookup h2)
 ·have hy:scope.names.lookup y=some .cell∨scope.names.lookup y=some .free:=hy
  rcases hy with hy | hy
  ·exact cell_has hy
  ·exact absurd rfl (S.nofree _ (PySem.mem_of_lookup hy))
 ·exact Nat.le_of_lt (x.above y c (PySem.mem_of_lookup h))
 ·have hi:i<vs.length:=by
   unfold start at h2
   by_cases hi:i<vs.length
   ·exact hi
   ·rw [List.getElem?_append_right (by simpa using hi)] at h2
    rw [List.getElem?_replicate] at h2
    split at h2 <;> cases h2
  have ha:vs[i]?=some v:=by
   unfold start at h2
   rw [List.getElem?_append_left (by simpa using hi),List.getElem?_map] at h2
   cases e:vs[i]? with
   | none=>rw [e] at h2; cases h2
   | some a=>rw [e] at h2; cases h2; rfl
  obtain⟨u,hu,rv⟩:=r.get ha
  have hp:ps[i]?=some y:=by
   rw [← S.pre,List.getElem?_take_of_lt (by lia)]; exact h1
  have ndP:ps.Nodup:=by rw [← S.pre]; exact S.nd.sublist (List.take_sublist _ _)
  refine⟨u,rv,?_⟩
  rcases S.par y (List.mem_of_getElem? hp) with k | k
  ·exact .inl ⟨k,bindL_get ndP hp hu k⟩
  ·obtain⟨c,e⟩:=cell_has (n:=s.heap.objs.size+1) k
   refine .inr ⟨.inl k,c,e,?_⟩
   have q:=x.cell y c e
   rw [bindC_get ndP hp hu (by show scope.names.lookup y≠_; rw [k]; decide)] at q
   exact q
 ·exact e0.hok.fresh (Nat.le_of_lt (x.above y c (PySem.mem_of_lookup h)))
 ·unfold start
  show _=N.length
  rw [List.length_append,List.length_map,List.length_replicate]
  lia
theorem fn_of {CX:CXT}{P:Program}{w:World}{K:PySem.W.Frag}{mg:Str→Option Value}{base:Heap}{k:Nat}{f:Addr}{name qual:Str}{params:Arguments}{body:List Stmt}{scope:Scope}{dV kV doc pm cdv ct oc:Value}{an od:Option Addr}
  {osl:Array (Option Value)}{N ps:List Str}{sp:Sp} (lk:K.lookup f=some ⟨oc,od,.func (PySem.W.fnOf name qual params body scope dV kV doc pm an cdv ct),osl⟩) (hcd:PySem.W.codeIn K cdv qual=true) (S:FnScope N ps scope)
  (len:∀ vs H Q E,sp vs H Q E→vs.length=ps.length)
  (hbody:∀ (A:Around) (outer:List Env) (s:Shared) (H:Hp) (vs:List V) (Q:VK) (E:XK),Room k (A.deeper (envOfC qual scope s.heap.objs.size f cdv))→sp vs H Q E →
   ∃ t,PSs (cxOf CX P w K mg base N qual scope f cdv A outer s H E) body t∧t { nx:=fun _ H'=>Q .non H',rt:=Q } (start N vs) H) :
  FnOk P w K mg base CX (k+1) f (PySem.W.fnOf name qual params body scope dV kV doc pm an cdv ct) ps sp:=by
 refine⟨len,fun A outer s H args us vs Q E hr e0 hb r hsp=>?_⟩
 have hl:=len _ _ _ _ hsp
 have KX:K.In s.heap:=e0.mod.kin.keeps fun b o e=>(e0.bs b o e).1
 have lim:s.heap.NoLimit:=e0.mod.nolimit.keeps fun b o e=>(e0.bs b o e).1
 have hkind:∀ y∈ps.zip us,scope.names.lookup y.1=some .local∨(scope.names.lookup y.1=some .cell∧((cellsFrom (s.heap.objs.size+1) scope.names []).lookup y.1).isSome=true):=fun ⟨n,v⟩ hy=>by
  rcases S.par n (List.of_mem_zip hy).1 with q | q
  ·exact .inl q
  ·exact .inr ⟨q,PySem.W.cellsFrom_some _ _ _ (.inl q)⟩
 refine codeAny_call_function hr.depth (KX _ _ lk) rfl S.co S.gen rfl (PySem.W.codeRec_of KX hcd) (hb _ _ _ _ ?_)
 refine wpAny_newFunctionEnv_cells S.kind hkind fun env he s1 x=>?_
 subst he
 refine⟨lim.keeps x.toInCall.keep,codeAny_func ?_⟩
 obtain⟨t,ht,hq⟩:=hbody A outer s H vs Q E (hr.deeper _) hsp
 have I:Inv (cxOf CX P w K mg base N qual scope f cdv A outer s H E) [] (start N vs) H s1:=inv_start S hr.hd e0 hl r x
 refine wpAny_mono (ht [] s1 (start N vs) H _ I hq) (fun fl s' hs=>?_) fun e s' hs=>hs
 have fin:∀ {σ':St}{H':Hp}{v:V}{u:Value},Inv (cxOf CX P w K mg base N qual scope f cdv A outer s H E) [] σ' H' s'→RelV v u→Q v H'→CE outer P w H s Q u s' :=
  fun {σ' H' v u} J rv q=>⟨v,H',J.os,J.bare,J.base,J.hok,rv,q⟩
 cases fl with
 | ret u =>
  obtain⟨v,σ',H',J,rv,q⟩:=hs
  exact fin J rv q
 | next =>
  obtain⟨σ',H',J,q⟩:=hs
  exact fin (v:=V.non) (u:=Value.none) J rfl q
 | brk =>
  obtain⟨_,_,_,q⟩:=hs
  exact False.elim q
 | cont =>
  obtain⟨_,_,_,q⟩:=hs
  exact False.elim q
end L2
namespace L2
open PySem PySem.Spec PyProof.Rows
section
variable {X:Cx}{x:Str}{p pos:Pos}{e:Expr}{es:List Expr}{t:TA}{id T:String}{r:List V→Hp→VK→Prop}
def tCB (r:List V→Hp→VK→Prop) (t:TA):TE:=fun σ H Q=>t σ H fun vs H1=>r vs H1 Q
theorem pe_callB (hc:CallR X (.builtin id) r) (hg:Gl X x) (hm:X.mg x=none) (hv:bootBuiltins x=some (.builtin id)) (ha:PA X (e::es) t) (hn:x≠"__name__":=by decide) (hdb:(x == ("__debug__":Str))=false:=by decide)
  (he:starEach (e::es) X.env=(false,eval e X.env)::starEach es X.env:=by rfl) (hpl:(backTo pos (starEach es X.env)).any (·.1)=false:=by rfl):PE X (.Call (.Name x p) (e::es) [] pos) (tCB r t):=by
 intro pins s σ H Q I h
 refine wpAny_Call_Name_kw (ld_blt I hg hm hv ?_ hn hdb)
 exact PyProof.Rows.callWith_builtin1 (thn (ha pos pins s σ H _ I h) fun us s1 ⟨vs,H1,I1,r1,q1⟩=>hc pins s1 σ H1 vs us Q I1 r1 q1) he hpl
theorem abM (hc:CallR X (.type T) r) (hg:Gl X x) (hm:X.mg x=none) (hv:bootBuiltins x=some (.type T)) (ha:PA X (e::es) t) (hn:x≠"__name__":=by decide) (hdb:(x == ("__debug__":Str))=false:=by decide)
  (he:starEach (e::es) X.env=(false,eval e X.env)::starEach es X.env:=by rfl) (hpl:(backTo pos (starEach es X.env)).any (·.1)=false:=by rfl):PE X (.Call (.Name x p) (e::es) [] pos) (tCB r t):=by
 intro pins s σ H Q I h
 refine wpAny_Call_Name_kw (ld_blt I hg hm hv ?_ hn hdb)
 exact PyProof.Rows.callWith_type1 (thn (ha pos pins s σ H _ I h) fun us s1 ⟨vs,H1,I1,r1,q1⟩=>hc pins s1 σ H1 vs us Q I1 r1 q1) he hpl
end
end L2
namespace HT
open PySem PyProof.Rows
section
open PySem.SeqAt
open PySem.AutoSeq1 (wpAny_loadPart')
open PySem.MeetsSeq PySem.MeetsSeq2 PySem.MeetsSeq3
end
section
variable {prog:Program}{w:World}{A:Around}{E:Value→Shared→Prop}{s:Shared}
theorem afV {t b:Addr}{vs ws:List Value}{Q:Value→Shared→Prop} (ht:IsTup s.heap t vs.toArray) (hb:IsTup s.heap b ws.toArray) (hv:vs≠[])
  (h1:ws=[]→Q (.ref t) s) (h2:ws≠[]→Q (.ref s.heap.objs.size) { s with heap:=s.heap.push { cls:=.type "tuple",data:=.seq (vs++ws).toArray } })
  (hsz:vs.length+ws.length≤sizeLine):wpAny (model prog w) A (binaryOp .Add (.ref t) (.ref b)) Q E s:=by
 obtain⟨⟨cls,dd,data,sl⟩,ho,hc,n,hd⟩:=id ht
 obtain⟨⟨cls2,dd2,data2,sl2⟩,ho2,hc2,n2,hd2⟩:=id hb
 simp only at hc hd hc2 hd2
 subst hc hd hc2 hd2
 have e:vs.toArray++ws.toArray=(vs++ws).toArray:=by simp
 by_cases hw:ws=[]
 ·exact concat_meets ⟨_,ho,rfl⟩ ⟨_,ho2,rfl⟩ noFill_tuple_add seq_tuple_add PySem.F.slot_tuple_add PySem.F.entry_tuple_add (PySem.F.args_tuple_add_2 _ _)
   (tuple_addW1 t b vs.toArray ws.toArray n n2 dd dd2 sl sl2 (by simpa using hv) (by simp [hw])) ⟨ho,ho2,h1 hw⟩
 ·refine concat_meets ⟨_,ho,rfl⟩ ⟨_,ho2,rfl⟩ noFill_tuple_add seq_tuple_add PySem.F.slot_tuple_add PySem.F.entry_tuple_add (PySem.F.args_tuple_add_2 _ _)
   (tuple_addW2 t b vs.toArray ws.toArray n n2 dd dd2 sl sl2 (by simpa using hv) (by simpa using hw) (by rw [List.size_toArray,List.size_toArray]; exact hsz)) ⟨ho,ho2,?_⟩
  rw [e]
  exact h2 hw
def sIx (n d:Nat):Option Int→Nat
 | none=>d
 | some v=>if v<0 then (v+(n:Int)).toNat else min v.toNat n
theorem Ub (n d:Nat):sIx n d none=d:=rfl
theorem Yq (n d k:Nat):sIx n d (some (k:Int))=min k n:=by
 show (if (k:Int)<0 then ((k:Int)+(n:Int)).toNat else min (k:Int).toNat n)=min k n
 rw [if_neg (by lia),Int.toNat_natCast]
theorem agj (n d:Nat) (hd:d≤n) (o:Option Int):sIx n d o≤n:=by
 cases o with
 | none=>exact hd
 | some v =>
  show (if v<0 then (v+(n:Int)).toNat else min v.toNat n)≤n
  by_cases hv:v<0
  ·rw [if_pos hv]; lia
  ·rw [if_neg hv]; exact Nat.min_le_right _ _
theorem Y0 (v:Int) (n d:Nat):(if v<0 then max (v+(n:Int)) 0 else min v (n:Int))=((sIx n d (some v):Nat):Int):=by
 show (if v<0 then max (v+(n:Int)) 0 else min v (n:Int))=(((if v<0 then (v+(n:Int)).toNat else min v.toNat n):Nat):Int)
 by_cases hv:v<0
 ·simp only [if_pos hv]; lia
 ·simp only [if_neg hv]; lia
theorem aaP (lo hi:Option Int) (n:Nat):Builtin.Slice.sliceAdjust lo hi 1 (n:Int)=(((sIx n 0 lo:Nat):Int),((sIx n n hi:Nat):Int)):=by
 have h1:¬ ((1:Int)<0):=by lia
 unfold Builtin.Slice.sliceAdjust
 simp only [h1,if_false]
 refine Prod.ext ?_ ?_
 ·cases lo with
  | none=>rfl
  | some v=>exact Y0 v n 0
 ·cases hi with
  | none=>rfl
  | some v=>exact Y0 v n n
theorem ZF (i j:Nat):Builtin.Slice.slicePlaces (i:Int) (j:Int) 1=j - i:=by
 unfold Builtin.Slice.slicePlaces
 have h1:(1:Int) > 0:=by lia
 simp only [h1,if_true,Int.ediv_one]
 split <;> lia
theorem Mu {v:Value}{o:Option Int}{Q:Option Int→Shared→Prop} (p:IsPart v o) (h:Q o s):wpAny (model prog w) A (Builtin.Slice.slicePartIndex v) Q E s:=by
 cases p with
 | none=>exact slicePart_none h
 | int i t=>exact slicePart_int h
theorem wu {sl:Addr}{vl vu:Value}{lo hi:Option Int}{n:Nat}{Q:Int×Int×Nat→Shared→Prop} (hs:s.heap.IsSliceOf sl vl vu .none) (pl:IsPart vl lo) (pu:IsPart vu hi)
  (h:Q (((sIx n 0 lo:Nat):Int),1,sIx n n hi - sIx n 0 lo) s):wpAny (model prog w) A (Builtin.Slice.sliceApplied (.ref sl) (pure (n:Int))) Q E s:=by
 obtain⟨os,hos,hcs,hds⟩:=id hs
 unfold Builtin.Slice.sliceApplied Builtin.Slice.sliceFields
 refine wpAny_bind (wpAny_bind (wpAny_field hos hds (x:=vl) rfl (wpAny_bind (wpAny_field hos hds (x:=vu) rfl (wpAny_bind (wpAny_field hos hds (x:=.none) rfl (wpAny_pure ?_)))))))
 refine wpAny_bind (slicePart_none ?_)
 show wpAny _ _ (if ((1:Int) == 0)=true then _ else _) _ _ s
 rw [if_neg (by decide)]
 refine wpAny_bind (Mu pl (wpAny_bind (Mu pu (wpAny_bind (wpAny_pure ?_)))))
 show wpAny _ _ (match Builtin.Slice.sliceAdjust lo hi 1 (n:Int) with | (lo,hi)=>pure (lo,(1:Int),Builtin.Slice.slicePlaces lo hi 1)) _ _ s
 rw [aaP lo hi n]
 show wpAny _ _ (pure (((sIx n 0 lo:Nat):Int),(1:Int),Builtin.Slice.slicePlaces ((sIx n 0 lo:Nat):Int) ((sIx n n hi:Nat):Int) 1)) _ _ s
 rw [ZF]
 exact wpAny_pure h
theorem ady (xs:Array Value) (i k:Nat):((List.range k).filterMap fun (m:Nat)=>xs[((i:Int)+(m:Int) * 1).toNat]?).toArray=((xs.toList.drop i).take k).toArray:=by
 have e:(fun (m:Nat)=>xs[((i:Int)+(m:Int) * 1).toNat]?)=fun m=>xs[i+m]?:=by
  funext m
  have:((i:Int)+(m:Int) * 1).toNat=i+m:=by lia
  rw [this]
 rw [e]
 have:=pick_run xs i k
 rw [List.filterMap_map] at this
 have e2:((fun x=>xs[x]?)∘fun x=>i+x)=fun m=>xs[i+m]?:=rfl
 rw [e2] at this
 rw [this]
theorem Jh {t sl:Addr}{items:Array Value}{vl vu:Value}{lo hi:Option Int}{Q:Value→Shared→Prop} (ht:IsTup s.heap t items) (hs:s.heap.IsSliceOf sl vl vu .none) (pl:IsPart vl lo) (pu:IsPart vu hi)
  (hw:¬ (sIx items.size 0 lo=0∧sIx items.size items.size hi=items.size))
  (h:Q (.ref s.heap.objs.size) { s with heap:=s.heap.push { cls:=.type "tuple",data:=.seq ((items.toList.drop (sIx items.size 0 lo)).take (sIx items.size items.size hi - sIx items.size 0 lo)).toArray } })
  (hsz:items.size≤sizeLine):wpAny (model prog w) A (getItem (.ref t) (.ref sl)) Q E s:=by
 have SJ:sizeOk (.seq ((items.toList.drop (sIx items.size 0 lo)).take (sIx items.size items.size hi - sIx items.size 0 lo)).toArray):=by
  show ((items.toList.drop (sIx items.size 0 lo)).take (sIx items.size items.size hi - sIx items.size 0 lo)).toArray.size≤sizeLine
  rw [List.size_toArray,List.length_take,List.length_drop,Array.length_toList]
  lia
 have hj:sIx items.size items.size hi≤items.size:=agj _ _ (Nat.le_refl _) hi
 obtain⟨os,hos,hcs,hds⟩:=id hs
 have hTs:s.TypeIs (.ref sl) "slice":=⟨os,hos,hcs⟩
 unfold getItem
 try with_reducible refine wpAny_holding ?_
 first | refine wpAny_bind (wpAny_pure ?_) | skip
 refine wpAny_bind (wpAny_sequenceKey ht.typeIs (by decide) ?_)
 refine wpAny_bind (wpAny_callSpecial?_slot (name:=Str.ofString "__getitem__") ht.typeIs PyProof.Rows.slot_tuple_getitem
  (wpAny_call_entry PyProof.Rows.slot_tuple_getitem ht.typeIs entry_tuple_getitem ?_ (args_tuple_getitem _ _)))
 show wpAny _ _ (Builtin.Tuple.tupleItemsOf (.ref t) >>= _) _ _ s
 refine wpAny_bind (tupleItemsOf_ ht ?_)
 refine wpAny_bind (wpAny_typeOf hTs ?_)
 rw [if_pos (by decide)]
 refine wpAny_bind (wu hs pl pu ?_)
 have hno:¬ ((((sIx items.size 0 lo:Nat):Int) == 0 && (1:Int) == 1 && (sIx items.size items.size hi - sIx items.size 0 lo) == items.size)=true):=by
  intro q
  rw [Bool.and_eq_true,Bool.and_eq_true] at q
  have q1:((sIx items.size 0 lo:Nat):Int)=0:=eq_of_beq q.1.1
  have q2:sIx items.size items.size hi - sIx items.size 0 lo=items.size:=eq_of_beq q.2
  exact hw ⟨by lia,by lia⟩
 show wpAny _ _ (if (((sIx items.size 0 lo:Nat):Int) == 0 && (1:Int) == 1 && (sIx items.size items.size hi - sIx items.size 0 lo) == items.size)=true then _ else _) _ _ s
 rw [if_neg hno,ady]
 first
  | exact wpAny_bind (m:=Builtin.Tuple.tupleExact _) (wpAny_newObj_type (wpAny_pure ⟨_,rfl,wpAny_pure h⟩) SJ)
  | exact wpAny_bind (m:=Builtin.Tuple.tupleExact _) (wpAny_newObj_type (wpAny_bind (wpAny_pure (wpAny_pure ⟨_,rfl,wpAny_pure h⟩))) SJ)
  | exact wpAny_bind (wpAny_bind (m:=Builtin.Tuple.tupleExact _) (wpAny_newObj_type (wpAny_pure (wpAny_pure ⟨_,rfl,wpAny_pure h⟩)) SJ))
  | exact wpAny_bind (wpAny_bind (m:=Builtin.Tuple.tupleExact _) (wpAny_newObj_type (wpAny_pure ⟨_,rfl,wpAny_pure h⟩) SJ))
end
end HT
namespace L2
open PySem PySem.Spec PyProof.Rows
abbrev TO:=St→Hp→(Option Int→Hp→Prop)→Prop
def PO (X:Cx) (e:Option Expr) (t:TO):Prop :=
 ∀ (pins:List (Addr×Obj)) (s:Shared) (σ:St) (H:Hp) (Q:Option Int→Hp→Prop),Inv X pins σ H s→t σ H Q →
  wpAny (model X.prog X.w) X.A (evalPart e X.env) (fun u s'=>∃ o H',Inv X pins σ H' s'∧IsPart u o∧Q o H') X.xe s
def Om:TO:=fun _ H Q=>Q none H
def aeu (t:TE):TO:=fun σ H Q=>t σ H fun x H1=>∃ i,x=.int i∧Q (some i) H1
theorem intsAre_of {ns:List Int}:∀ {us:List Value},Vals (ns.map V.int) us→IntsAre us ns:=by
 induction ns with
 | nil=>intro us r; rw [List.map_nil] at r; cases r; exact .nil
 | cons n ns ih =>
  intro us r
  rw [List.map_cons] at r
  cases r with
  | cons r1 r2 =>
   obtain⟨t,e⟩:=r1
   subst e
   exact .cons n t (ih r2)
section
variable {X:Cx}{e:Expr}{te:TE}{lo hi:Option Expr}{tl th:TO}{pos p2:Pos}
theorem afi:PO X none Om:=by
 intro pins s σ H Q I h
 rw [evalPart_none]
 exact wpAny_pure ⟨none,H,I,.none,h⟩
theorem afh (h:PE X e te):PO X (some e) (aeu te):=by
 intro pins s σ H Q I hw
 rw [evalPart_some]
 refine thn (h pins s σ H _ I hw) fun u s1 ⟨x,H1,I1,r1,q1⟩=>?_
 obtain⟨i,rfl,q⟩:=q1
 obtain⟨t,rfl⟩:=r1
 exact⟨some i,H1,I1,.int i t,q⟩
def SlR (X:Cx) (r:V→Option Int→Option Int→Hp→VK→Prop):Prop :=
 ∀ (pins:List (Addr×Obj)) (s:Shared) (σ:St) (H:Hp) (x:V) (v vl vu:Value) (lo hi:Option Int) (sl:Addr) (Q:VK),Inv X pins σ H s→RelV x v→s.heap.IsSliceOf sl vl vu .none→IsPart vl lo→IsPart vu hi→r x lo hi H Q →
  ∃ T id,typeLookup (.type T) "__getitem__"=pure (some (.builtin id))∧s.TypeIs v T∧wpAny (model X.prog X.w) X.A (getItem v (.ref sl)) (EP X pins σ Q) X.xe s
def tSl (r:V→Option Int→Option Int→Hp→VK→Prop) (te:TE) (tl th:TO):TE:=fun σ H Q=>te σ H fun x H1=>tl σ H1 fun l H2=>th σ H2 fun u H3=>r x l u H3 Q
theorem adz {r:V→Option Int→Option Int→Hp→VK→Prop} (hr:SlR X r) (he:PE X e te) (hl:PO X lo tl) (hu:PO X hi th):PE X (.Subscript e (.Slice lo hi none p2) pos) (tSl r te tl th):=by
 intro pins s σ H Q I h
 refine Subscript_ (thn (he pins s σ H _ I h) fun v s1 ⟨x,H1,I1,r1,q1⟩=>?_)
 refine wpAny_Slice (thn (hl pins s1 σ H1 _ I1 q1) fun vl s2 ⟨l,H2,I2,pl,q2⟩=>thn (hu pins s2 σ H2 _ I2 q2) fun vu s3 ⟨u,H3,I3,pu,q3⟩=>?_)
 rw [evalPart_none]
 refine wpAny_pure ?_
 have I4:Inv X pins σ H3 { s3 with heap:=s3.heap.push { cls:=.type "slice",data:=.fields #[vl,vu,.none] } }:=I3.kept (t':=s3.toks) fun b ob q=>Heap.get?_push_of_some _ q
 obtain⟨T,id,hT,ht,hg⟩:=hr pins { s3 with heap:=s3.heap.push { cls:=.type "slice",data:=.fields #[vl,vu,.none] } } σ H3 x v vl vu l u s3.heap.objs.size Q I4 r1 (Heap.IsSliceOf.new ..) pl pu q3
 show wpAny (model X.prog X.w) X.A (subscriptTail e (.Slice lo hi none p2) v (.ref s3.heap.objs.size)) (EP X pins σ Q) X.xe { s3 with heap:=s3.heap.push { cls:=.type "slice",data:=.fields #[vl,vu,.none] } }
 exact tail_any (ops:=[.ref s3.heap.objs.size,v]) ht hT hg (by with_unfolding_all rfl)
def pC (xs:List V) (lo hi:Option Int):List V:=(xs.drop (HT.sIx xs.length 0 lo)).take (HT.sIx xs.length xs.length hi - HT.sIx xs.length 0 lo)
theorem Jw (xs:List V) (lo hi:Option Int):(pC xs lo hi).length≤xs.length:=by
 unfold pC
 rw [List.length_take,List.length_drop]
 lia
def aj4 (K:PySem.W.Frag):V→Option Int→Option Int→Hp→VK→Prop:=fun x lo hi H Q=>∃ a xs,x=.ref a∧SqT K H a xs ∧
 ¬ (HT.sIx xs.length 0 lo=0∧HT.sIx xs.length xs.length hi=xs.length)∧∀ p,H p=none→Q (.ref p) (upd H p (.tup (pC xs lo hi)))
theorem agg:SlR X (aj4 X.K):=by
 intro pins s σ H x v vl vu lo hi sl Q I rx hs pl pu h
 obtain⟨a,xs,rfl,hx,hw,q⟩:=h
 cases rx
 obtain⟨its,r,ht,hz⟩:=I.tuple hx
 have hlen:its.toArray.size=xs.length:=by rw [List.size_toArray]; exact r.length.symm
 refine⟨"tuple",_,PyProof.Rows.slot_tuple_getitem.lookup,ht.typeIs,?_⟩
 refine HT.Jh ht hs pl pu (by rw [hlen]; exact hw) ?_ (by rw [hlen]; exact hz)
 rw [hlen]
 refine⟨.ref s.heap.objs.size,_,I.laid (t':=s.toks) (o:=.tup (pC xs lo hi)) (fun b ob q=>Heap.get?_push_of_some _ q) (Nat.le_refl _) ?_,rfl,q _ (I.hok.fresh (Nat.le_refl _))⟩
 exact⟨Nat.le_trans (Jw xs lo hi) hz,_,(r.drop (HT.sIx xs.length 0 lo)).take (HT.sIx xs.length xs.length hi - HT.sIx xs.length 0 lo),IsTup.new _ _⟩
def ai3 (K:PySem.W.Frag):R2:=fun x y H Q=>∃ a b xs ys,x=.ref a∧y=.ref b∧SqT K H a xs∧SqT K H b ys∧xs≠[]∧xs.length+ys.length≤sizeLine ∧
 (ys=[]→Q (.ref a) H)∧(ys≠[]→∀ p,H p=none→Q (.ref p) (upd H p (.tup (xs++ys))))
theorem Vals.Aw {xs:List V}{us:List Value} (r:Vals xs us):us=[]↔xs=[]:=by
 cases r with
 | nil=>simp
 | cons _ _=>simp
theorem afr:OpR X (binaryOp .Add) (ai3 X.K):=by
 intro pins s σ H x y v u Q I rx ry h
 obtain⟨a,b,xs,ys,rfl,rfl,ha,hb,hx,hz,q1,q2⟩:=h
 cases rx
 cases ry
 obtain⟨its,r1,p1,_⟩:=I.tuple ha
 obtain⟨its2,r2,p2,_⟩:=I.tuple hb
 refine HT.afV p1 p2 (fun z=>hx (r1.Aw.mp z)) (fun z=>⟨.ref a,H,I,rfl,q1 (r2.Aw.mp z)⟩) (fun z=>?_) (by rw [← r1.length,← r2.length]; exact hz)
 refine⟨.ref s.heap.objs.size,_,I.laid (t':=s.toks) (o:=.tup (xs++ys)) (fun b ob q=>Heap.get?_push_of_some _ q) (Nat.le_refl _) ?_,rfl,q2 (fun w=>z (r2.Aw.mpr w)) _ (I.hok.fresh (Nat.le_refl _))⟩
 exact⟨by rw [List.length_append]; exact hz,_,r1.append r2,IsTup.new _ _⟩
end
end L2
namespace L2
open PySem PySem.Spec PyProof.Rows
def ixN (n:Nat) (i:Int):Option Nat:=if 0≤i then (if i<n then some i.toNat else none) else if -(n:Int)≤i then some (i+n).toNat else none
def atI {α:Type} (xs:List α) (i:Int):Option α:=(ixN xs.length i).bind fun j=>xs[j]?
theorem ixN_seq {n:Nat}{i:Int}{j:Nat} (h:ixN n i=some j):seqIndex? i n=some j∧j<n∧-(n:Int)≤i∧i<n:=by
 unfold ixN at h
 by_cases h0:0≤i
 ·rw [if_pos h0] at h
  by_cases h1:i<n
  ·rw [if_pos h1] at h
   have e:i.toNat=j:=Option.some.inj h
   exact⟨by rw [seqIndex_of h0 h1,e],by lia,by lia,h1⟩
  ·rw [if_neg h1] at h; cases h
 ·rw [if_neg h0] at h
  by_cases h1:-(n:Int)≤i
  ·rw [if_pos h1] at h
   have e:(i+n).toNat=j:=Option.some.inj h
   exact⟨by rw [seqIndex_neg (by lia) h1,e],by lia,h1,by lia⟩
  ·rw [if_neg h1] at h; cases h
theorem atI_get {α:Type}{xs:List α}{i:Int}{v:α} (h:atI xs i=some v):∃ j,seqIndex? i xs.length=some j∧xs[j]?=some v∧j<xs.length∧-(xs.length:Int)≤i∧i<xs.length:=by
 unfold atI at h
 cases e:ixN xs.length i with
 | none=>rw [e] at h; cases h
 | some j =>
  rw [e] at h
  obtain⟨h1,h2,h3,h4⟩:=ixN_seq e
  exact⟨j,h1,h,h2,h3,h4⟩
theorem atI_nat {α:Type}{xs:List α}{j:Nat}{v:α} (h:xs[j]?=some v):atI xs (j:Int)=some v:=by
 have hj:j<xs.length:=(List.getElem?_eq_some_iff.mp h).1
 have e:ixN xs.length (j:Int)=some j:=by
  unfold ixN
  rw [if_pos (by lia),if_pos (by lia)]; simp
 unfold atI; rw [e]; exact h
def PlainIx (b:Expr):Prop:=∀ o i,subscripted b false o i=operate [o,i] (getItem o i)
def IxR (X:Cx) (r:R2):Prop :=
 ∀ (value slice:Expr) (pins:List (Addr×Obj)) (s:Shared) (σ:St) (H:Hp) (x y:V) (v u:Value) (Q:VK),Inv X pins σ H s→RelV x v→RelV y u→r x y H Q →
  subscripted slice false v u=operate [v,u] (getItem v u)→wpAny (model X.prog X.w) X.A (subscriptTail value slice v u) (EP X pins σ Q) X.xe s
def MtR (X:Cx) (id:String) (r:V→List V→Hp→VK→Prop):Prop :=
 ∀ (pins:List (Addr×Obj)) (s:Shared) (σ:St) (H:Hp) (x:V) (xs:List V) (v:Value) (us:List Value) (Q:VK),Inv X pins σ H s→RelV x v→Vals xs us→r x xs H Q →
  wpAny (model X.prog X.w) X.A (call (.builtin id) (v::us)) (EP X pins σ Q) X.xe s
section
variable {X:Cx}{a b:Expr}{ta tb:TE}{pos:Pos}
theorem pe_ix {r:R2} (hr:IxR X r) (ha:PE X a ta) (hb:PE X b tb) (hs:PlainIx b):PE X (.Subscript a b pos) (tOp r ta tb):=by
 intro pins s σ H Q I h
 exact Subscript_ (binT ha hb I h fun v u s2 x y H2 I2 rx ry q=>hr a b pins s2 σ H2 x y v u Q I2 rx ry q (hs _ _))
def rIxL (K:PySem.W.Frag):R2:=fun x y H Q=>∃ p xs i v,x=.ref p∧y=.int i∧SqL K H p xs∧atI xs i=some v∧Q v H
def ado (K:PySem.W.Frag):R2:=fun x y H Q=>∃ p xs i v,x=.ref p∧y=.int i∧SqT K H p xs∧atI xs i=some v∧Q v H
theorem ix_list:IxR X (rIxL X.K):=by
 intro value slice pins s σ H x y v u Q I rx ry h hs
 obtain⟨p,xs,i,z,rfl,rfl,hq,he,q⟩:=h
 cases rx
 obtain⟨t,rfl⟩:=ry
 obtain⟨its,r,pl,hz⟩:=I.list hq
 obtain⟨j,h1,h2,h3,h4,h5⟩:=atI_get he
 obtain⟨w,ew,rw'⟩:=r.get h2
 have hl:=r.length
 have hn:=line63
 have fin:EP X pins σ Q w s:=⟨z,H,I,rw',q⟩
 by_cases h0:0≤i
 ·have hj:i.toNat=j:=by
   rw [seqIndex_of h0 h5] at h1
   exact Option.some.inj h1
  exact item_listR pl.isList h0 (by lia) (by rw [hj]; simpa using ew) fin hs
 ·have hj:(i+(its.toArray.size:Int)).toNat=j:=by
   rw [seqIndex_neg (by lia) h4] at h1
   rw [List.size_toArray,← hl]
   exact Option.some.inj h1
  exact subscriptTail_builtinR (x:=w) pl.isList.typeIs slot_list_getitem.lookup
   (wpAny_getItem_list_neg (Q:=fun r s'=>r=w∧EP X pins σ Q r s') pl.isList (by lia) (by rw [List.size_toArray] <;> lia) (by lia) (by rw [hj]; simpa using ew) ⟨rfl,fin⟩) hs
theorem jq:IxR X (ado X.K):=by
 intro value slice pins s σ H x y v u Q I rx ry h hs
 obtain⟨p,xs,i,z,rfl,rfl,hq,he,q⟩:=h
 cases rx
 obtain⟨t,rfl⟩:=ry
 obtain⟨its,r,pl,hz⟩:=I.tuple hq
 obtain⟨j,h1,h2,h3,h4,h5⟩:=atI_get he
 obtain⟨w,ew,rw'⟩:=r.get h2
 have hl:=r.length
 have hn:=line63
 have fin:EP X pins σ Q w s:=⟨z,H,I,rw',q⟩
 exact subscriptTail_builtinR (x:=w) pl.typeIs slot_tuple_getitem.lookup
  (getItem_tuple (j:=j) (Q:=fun r s'=>r=w∧EP X pins σ Q r s') pl (by lia) (by lia) (by rw [List.size_toArray,← hl]; exact h1) (by simpa using ew) ⟨rfl,fin⟩) hs
theorem Z4 (its:List Value) (n j:Nat) (u:Value):Obj.mapSeq (·.setIfInBounds j u) { cls:=.type "list",data:=.seq its.toArray n }={ cls:=.type "list",data:=.seq (its.set j u).toArray n }:=by
 simp [Obj.mapSeq]
theorem Inv.lst {pins:List (Addr×Obj)}{σ:St}{H:Hp}{s:Shared}{p:Addr}{xs:List V} (I:Inv X pins σ H s) (h:H p=some (.lst xs)) :
  ∃ (its:List Value) (n:Nat),Vals xs its∧s.heap.get? p=some { cls:=.type "list",data:=.seq its.toArray n }∧xs.length≤sizeLine:=by
 obtain⟨z,its,n,r,e⟩:=I.hok p _ h
 exact⟨its,n,r,e,z⟩
theorem Inv.ahd {pins:List (Addr×Obj)}{σ:St}{H:Hp}{s:Shared}{p:Addr}{xs ys:List V}{its its':List Value}{n n':Nat}{f:Obj→Obj} (I:Inv X pins σ H s) (h:H p=some (.lst xs))
  (ho:s.heap.get? p=some { cls:=.type "list",data:=.seq its.toArray n }) (hf:f { cls:=.type "list",data:=.seq its.toArray n }={ cls:=.type "list",data:=.seq its'.toArray n' }) (r:Vals ys its') (hz:ys.length≤sizeLine) (t:Nat) :
  Inv X pins σ (upd H p (.lst ys)) { s with heap:=s.heap.update p f,toks:=t }:=by
 have e:(s.heap.update p f).get? p=some { cls:=.type "list",data:=.seq its'.toArray n' }:=by
  rw [Heap.get?_update_self f ho (by rw [hf] <;> rfl),hf]
 refine I.write (x:=p) (e:=p) (by rw [h]; trivial) (.inl rfl) (fun b u hb q=>(Heap.get?_update_other _ _ (Ne.symm hb)).trans q) ⟨_,e⟩ ?_
 exact⟨hz,its',n',r,e⟩
def aiZ:V→V→V→Hp→(Hp→Prop)→Prop:=fun o i v H Q=>∃ p xs k j,o=.ref p∧i=.int k∧H p=some (.lst xs)∧ixN xs.length k=some j∧Q (upd H p (.lst (xs.set j v)))
theorem set_list:Wt X aiZ:=by
 intro pins s σ H o i v ov iv u Q I ro ri rv h
 obtain⟨p,xs,k,j,rfl,rfl,hp,hj,q⟩:=h
 cases ro
 obtain⟨t,rfl⟩:=ri
 obtain⟨its,n,r,ho,hz⟩:=I.lst hp
 obtain⟨h1,h2,h3,h4⟩:=ixN_seq hj
 have hl:=r.length
 have hn:=line63
 have I':Inv X pins σ (upd H p (.lst (xs.set j v))) { s with heap:=s.heap.update p (Obj.mapSeq (·.setIfInBounds j u)) } :=
  I.ahd hp ho (Z4 its n j u) (r.set rv j) (by rw [List.length_set]; exact hz) s.toks
 by_cases h0:0≤k
 ·have hk:k.toNat=j:=by
   rw [seqIndex_of h0 h4] at h1
   exact Option.some.inj h1
  exact PySem.W.ki_setAt ho h0 (by lia) (by rw [List.size_toArray,← hl]; exact h4) (by rw [hk]; exact⟨_,I',q⟩)
 ·have hk:(k+(its.toArray.size:Int)).toNat=j:=by
   rw [seqIndex_neg (by lia) h3] at h1
   rw [List.size_toArray,← hl]
   exact Option.some.inj h1
  exact PySem.W.ki_setBack ho (by lia) (by rw [List.size_toArray,← hl]; exact h3) (by lia) (by rw [hk]; exact⟨_,I',q⟩)
theorem TX (lo hi:Option Int) (n:Nat):(sliceBounds lo hi none n).1=((HT.sIx n 0 lo:Nat):Int)∧(sliceBounds lo hi none n).2.1=((HT.sIx n n hi:Nat):Int)∧(sliceBounds lo hi none n).2.2=1:=by
 refine⟨?_,?_,rfl⟩
 ·cases lo with
  | none=>simp [sliceBounds,HT.sIx]
  | some i =>
   simp only [sliceBounds,HT.sIx,Option.getD_none,show (1:Int) > 0 by decide,if_true]
   by_cases h:i<0
   ·simp only [h,if_true] <;> lia
   ·simp only [h,if_false] <;> lia
 ·cases hi with
  | none=>simp [sliceBounds,HT.sIx]
  | some i =>
   simp only [sliceBounds,HT.sIx,Option.getD_none,show (1:Int) > 0 by decide,if_true]
   by_cases h:i<0
   ·simp only [h,if_true] <;> lia
   ·simp only [h,if_false] <;> lia
theorem RG (its:List Value) (lo hi:Option Int):slicePick its.toArray lo hi none=((its.drop (HT.sIx its.length 0 lo)).take (HT.sIx its.length its.length hi - HT.sIx its.length 0 lo)).toArray:=by
 obtain⟨h1,h2,h3⟩:=TX lo hi its.toArray.size
 unfold slicePick
 rw [h1,h2,h3]
 simp only [sliceRange_one,pick_run,List.size_toArray] <;> rfl
def aj5 (K:PySem.W.Frag):V→Option Int→Option Int→Hp→VK→Prop:=fun x lo hi H Q=>∃ a xs,x=.ref a∧SqL K H a xs∧∀ p,H p=none→Q (.ref p) (upd H p (.lst (pC xs lo hi)))
theorem aeV:SlR X (aj5 X.K):=by
 intro pins s σ H x v vl vu lo hi sl Q I rx hs pl pu h
 obtain⟨a,xs,rfl,hx,q⟩:=h
 cases rx
 obtain⟨its,r,ht,hz⟩:=I.list hx
 have hlen:=r.length
 refine⟨"list",_,slot_list_getitem.lookup,ht.isList.typeIs,?_⟩
 refine wpAny_getItem_list_slice ht.isList hs pl pu .none (by simp) ?_ (by rw [List.size_toArray] <;> lia)
 rw [RG,← hlen]
 refine⟨.ref s.heap.objs.size,_,I.laid (t':=s.toks) (o:=.lst (pC xs lo hi)) (fun b ob q=>Heap.get?_push_of_some _ q) (Nat.le_refl _) ?_,rfl,q _ (I.hok.fresh (Nat.le_refl _))⟩
 exact⟨Nat.le_trans (Jw xs lo hi) hz,_,0,(r.drop (HT.sIx xs.length 0 lo)).take (HT.sIx xs.length xs.length hi - HT.sIx xs.length 0 lo),Heap.get?_push_size _ rfl⟩
def Il:V→Bool
 | .non=>true
 | .bl _=>true
 | .int _=>true
 | .str _=>true
 | _=>false
def eqV:V→V→Bool
 | .non,.non=>true
 | .bl a,.bl b=>a == b
 | .bl a,.int b=>(if a then 1 else 0) == b
 | .int a,.bl b=>a == (if b then 1 else 0)
 | .int a,.int b=>a == b
 | .str a,.str b=>a == b
 | _,_=>false
theorem ahy {A:Around}{s:Shared}{y x:V}{u v:Value} (ry:RelV y u) (rx:RelV x v) (fy:Il y=true) (fx:Il x=true):SeqAt.EqAt A s u v (eqV y x):=by
 cases y with
 | non =>
  cases ry
  cases x with
  | non=>cases rx; exact SeqAt.EqAt.same _
  | bl b=>cases rx; exact SeqAt.EqAt.none_bool b
  | int b=>obtain⟨t,rfl⟩:=rx; exact SeqAt.EqAt.none_int b t
  | str b=>obtain⟨t,rfl⟩:=rx; exact SeqAt.EqAt.none_str b t
  | _=>exact absurd (show false=true from fx) Bool.false_ne_true
 | bl a =>
  cases ry
  cases x with
  | non=>cases rx; exact SeqAt.EqAt.bool_none a
  | bl b=>cases rx; exact SeqAt.EqAt.bool_bool a b
  | int b=>obtain⟨t,rfl⟩:=rx; exact SeqAt.EqAt.bool_int a b t
  | str b=>obtain⟨t,rfl⟩:=rx; exact SeqAt.EqAt.bool_str a b t
  | _=>exact absurd (show false=true from fx) Bool.false_ne_true
 | int a =>
  obtain⟨t',rfl⟩:=ry
  cases x with
  | non=>cases rx; exact SeqAt.EqAt.int_none a t'
  | bl b=>cases rx; exact SeqAt.EqAt.int_bool a t' b
  | int b=>obtain⟨t,rfl⟩:=rx; exact SeqAt.EqAt.int_int a t' b t
  | str b=>obtain⟨t,rfl⟩:=rx; exact SeqAt.EqAt.int_str a t' b t
  | _=>exact absurd (show false=true from fx) Bool.false_ne_true
 | str a =>
  obtain⟨t',rfl⟩:=ry
  cases x with
  | non=>cases rx; exact SeqAt.EqAt.str_none a t'
  | bl b=>cases rx; exact SeqAt.EqAt.str_bool a t' b
  | int b=>obtain⟨t,rfl⟩:=rx; exact SeqAt.EqAt.str_int a t' b t
  | str b=>obtain⟨t,rfl⟩:=rx; exact SeqAt.EqAt.str_str a t' b t
  | _=>exact absurd (show false=true from fx) Bool.false_ne_true
 | _=>exact absurd (show false=true from fy) Bool.false_ne_true
def eqU (x:V) (u:Value):Bool:=match u with
 | .none=>eqV .non x
 | .bool b=>eqV (.bl b) x
 | .int i _=>eqV (.int i) x
 | .str z _=>eqV (.str z) x
 | _=>false
theorem acf {x y:V}{u:Value} (r:RelV y u) (f:Il y=true):eqU x u=eqV y x:=by
 cases y with
 | non=>cases r; rfl
 | bl b=>cases r; rfl
 | int i=>obtain⟨t,rfl⟩:=r; rfl
 | str z=>obtain⟨t,rfl⟩:=r; rfl
 | _=>exact absurd (show false=true from f) Bool.false_ne_true
theorem U4 {A:Around}{s:Shared}{x:V}{v:Value} (rx:RelV x v) (fx:Il x=true):∀ {xs:List V}{us:List Value},Vals xs us→xs.all Il=true→∀ u∈us,SeqAt.EqAt A s u v (eqU x u)
 | _,_,.nil,_=>fun u hu=>by cases hu
 | y::xs,u::us,.cons r t,f=>fun u' hu=>by
  rw [List.all_cons,Bool.and_eq_true] at f
  rcases List.mem_cons.mp hu with rfl | hu
  ·rw [acf r f.1]; exact ahy r rx f.1 fx
  ·exact U4 rx fx t f.2 u' hu
theorem call_len_seq:CallR X (.builtin "len") (fun xs H Q=>∃ p ys,xs=[.ref p]∧(SqL X.K H p ys∨SqT X.K H p ys)∧Q (.int ys.length) H):=by
 intro pins s σ H xs us Q I r h
 obtain⟨p,ys,rfl,hq,q⟩:=h
 obtain⟨u,rfl,rx⟩:=vals1 r
 cases rx
 have hn:=line63
 rcases hq with hq | hq
 ·obtain⟨its,r',pl,hz⟩:=I.list hq
  have hlen:=r'.length
  exact Calls.call_len_list pl.isList (by simp only [List.size_toArray] <;> lia) ⟨.int ys.length,H,I.tok _,⟨s.toks+1,by rw [List.size_toArray,hlen]⟩,q⟩
 ·obtain⟨its,r',pl,hz⟩:=I.tuple hq
  have hlen:=r'.length
  exact len_tuple pl (by simp only [List.size_toArray] <;> lia) ⟨.int ys.length,H,I.tok _,⟨s.toks+1,by rw [List.size_toArray,hlen]⟩,q⟩
theorem V6:CallR X (.type "list") (fun xs H Q=>∃ p ys,xs=[.ref p]∧(SqL X.K H p ys∨SqT X.K H p ys)∧∀ l,H l=none→Q (.ref l) (upd H l (.lst ys))):=by
 intro pins s σ H xs us Q I r h
 obtain⟨p,ys,rfl,hq,q⟩:=h
 obtain⟨u,rfl,rx⟩:=vals1 r
 cases rx
 have fin:∀ (its:List Value),Vals ys its→ys.length≤sizeLine→∀ (h':Heap) (c':Nat),(∀ b o',s.heap.get? b=some o'→h'.get? b=some o') →
   h'.get? s.heap.objs.size=some { cls:=.type "list",dict:=none,data:=.seq its.toArray c',slots:=#[] }→EP X pins σ Q (.ref s.heap.objs.size) { s with heap:=h' }:=fun its r' hz h' c' kp e =>
  ⟨.ref s.heap.objs.size,_,I.laid (t':=s.toks) kp (Nat.le_refl _) (show ObjOk X.prog X.w _ h' _ (.lst ys) from ⟨hz,its,c',r',e⟩),rfl,q _ (I.hok.fresh (Nat.le_refl _))⟩
 rcases hq with hq | hq
 ·obtain⟨its,r',pl,hz⟩:=I.list hq
  have hlen:=r'.length
  obtain⟨o,ho,hc,n,hd⟩:=pl.isList
  exact call_list_seq p (.inl rfl) ho hc hd (fun h' c' kp e=>fin its r' hz h' c' kp e) (by simp only [List.size_toArray] <;> lia)
 ·obtain⟨its,r',pl,hz⟩:=I.tuple hq
  have hlen:=r'.length
  obtain⟨o,ho,hc,n,hd⟩:=pl
  exact call_list_seq p (.inr rfl) ho hc hd (fun h' c' kp e=>fin its r' hz h' c' kp e) (by simp only [List.size_toArray] <;> lia)
theorem gJ:CallR X (.type "tuple") (fun xs H Q=>∃ p ys,xs=[.ref p]∧((SqL X.K H p ys∧∀ l,H l=none→Q (.ref l) (upd H l (.tup ys)))∨(SqT X.K H p ys∧Q (.ref p) H))):=by
 intro pins s σ H xs us Q I r h
 obtain⟨p,ys,rfl,h⟩:=h
 obtain⟨u,rfl,rx⟩:=vals1 r
 cases rx
 rcases h with⟨hq,q⟩ | ⟨hq,q⟩
 ·obtain⟨its,r',pl,hz⟩:=I.list hq
  have hlen:=r'.length
  refine call_tuple_list pl.isList (fun h' kp=>?_) (by simp only [List.size_toArray] <;> lia)
  have I1:Inv X pins σ H { s with heap:=h' }:=I.kept (t':=s.toks) kp
  have I2:Inv X pins σ (upd H h'.objs.size (.tup ys)) { s with heap:=h'.push { cls:=.type "tuple",data:=.seq its.toArray } } :=
   I1.laid (t':=s.toks) (fun b o e=>Heap.get?_push_of_some _ e) (Nat.le_refl _) (show ObjOk X.prog X.w _ _ _ (.tup ys) from ⟨hz,its,r',IsTup.new _ _⟩)
  exact⟨.ref h'.objs.size,_,I2,rfl,q _ (I1.hok.fresh (Nat.le_refl _))⟩
 ·obtain⟨its,r',pl,hz⟩:=I.tuple hq
  exact call_tuple_same pl ⟨.ref p,H,I,rfl,q⟩
def tyV (K:PySem.W.Frag) (T:String) (x:V) (H:Hp):Prop:=match x with
 | .str _=>T="str"
 | .int _=>T="int"
 | .ref p=>(T="list"∧∃ xs,SqL K H p xs)∨(T="tuple"∧∃ o,K.lookup p=some o∧o.cls=.type "tuple"∧o.dict=none) ∨
   (T="dict"∧((∃ kvs,H p=some (.dK kvs))∨∃ kvs,H p=some (.dT kvs)))∨(T="set"∧∃ S n,H p=some (.set S n))
 | _=>False
theorem aa9 {pins:List (Addr×Obj)}{σ:St}{H:Hp}{s:Shared}{T:String}{x:V}{v:Value} (I:Inv X pins σ H s) (r:RelV x v) (ty:tyV X.K T x H) :
  s.TypeIs v T∧∀ a,v=.ref a→∃ ob,s.heap.get? a=some ob∧ob.dict=none:=by
 cases x with
 | str z =>
  obtain⟨t,rfl⟩:=r
  cases (show T="str" from ty)
  exact⟨typeIs_str s z t,fun _ e=>nomatch e⟩
 | int i =>
  obtain⟨t,rfl⟩:=r
  cases (show T="int" from ty)
  exact⟨typeIs_int s i t,fun _ e=>nomatch e⟩
 | ref p =>
  cases r
  rcases ty with⟨rfl,xs,hq⟩ | ⟨rfl,o,hk,hc,hd⟩ | ⟨rfl,hk⟩ | ⟨rfl,S,n,hk⟩
  ·obtain⟨its,_,pl,_⟩:=I.list hq
   refine⟨pl.isList.typeIs,fun a e=>?_⟩
   cases e
   obtain⟨o,n,e,c,hd,_⟩:=pl
   exact⟨o,e,hd⟩
  ·refine⟨⟨o,I.kIn p o hk,hc⟩,fun a e=>?_⟩
   cases e
   exact⟨o,I.kIn _ o hk,hd⟩
  ·have z:∃ o,s.heap.get? p=some o∧o.ExactDict:=by
    rcases hk with⟨kvs,hk⟩ | ⟨kvs,hk⟩
    ·obtain⟨_,_,_,_,o,_,_,e,ex,_⟩:=I.hok p _ hk
     exact⟨o,e,ex⟩
    ·obtain⟨_,_,_,_,o,_,_,e,ex,_⟩:=I.hok p _ hk
     exact⟨o,e,ex⟩
   obtain⟨o,e,ex⟩:=z
   refine⟨⟨o,e,ex.1⟩,fun a e2=>?_⟩
   cases e2
   exact⟨o,e,ex.2.1⟩
  ·obtain⟨o,_,_,_,e,ex,_⟩:=I.hok p _ hk
   refine⟨⟨o,e,ex.1⟩,fun a e2=>?_⟩
   cases e2
   exact⟨o,e,ex.2.1⟩
 | _=>exact False.elim ty
def agc (K:PySem.W.Frag) (T:String) (r:V→List V→Hp→VK→Prop) (to:TE):TE:=fun σ H Q=>to σ H fun x H1=>tyV K T x H1∧r x [] H1 Q
def tBM (K:PySem.W.Frag) (T:String) (r:V→List V→Hp→VK→Prop) (to:TE) (t:TA):TE:=fun σ H Q=>to σ H fun x H1=>tyV K T x H1∧t σ H1 fun xs H2=>r x xs H2 Q
variable {o e:Expr}{es:List Expr}{to:TE}{t:TA}{name:Str}{apos cpos:Pos}{T id:String}{r:V→List V→Hp→VK→Prop}
theorem agN (pa:PlainAttrs T) (slot:Slot T name id) (hty:typeOf (.builtin id)=pure (.type "method_descriptor")) (hm:MtR X id r) (ho:PE X o to)
  (hbase:attributeBase o name X.env (eval o X.env)=eval o X.env:=by rfl) (hline:(apos.endLine == cpos.line)=true:=by rfl):PE X (.Call (.Attribute o name apos) [] [] cpos) (agc X.K T r to):=by
 intro pins s σ H Q I h
 refine wpAny_Call_method0_late hbase hline (thn (ho pins s σ H _ I h) fun v s1 ⟨x,H1,I1,r1,ty,q1⟩=>?_)
 obtain⟨h1,h2⟩:=aa9 I1 r1 ty
 exact⟨T,id,pa,slot,hty,h1,h2,Calls.callWith_builtin rfl (PySem.evalArgs_none (hm pins s1 σ H1 x [] v [] Q I1 r1 .nil q1))⟩
theorem ai7 (pa:PlainAttrs T) (slot:Slot T name id) (hty:typeOf (.builtin id)=pure (.type "method_descriptor")) (hm:MtR X id r) (ho:PE X o to) (ha:PA X (e::es) t)
  (hbase:attributeBase o name X.env (eval o X.env)=eval o X.env:=by rfl)
  (hfew:((backTo cpos (starEach (e::es) X.env)).all (fun x=>!x.1) && (backToKw cpos (keywordEach [] X.env)).all (fun x=>x.1.isSome)
   && decide ((e::es).length+([]:List Keyword).length+(if ([]:List Keyword).isEmpty then 0 else 1)<30))=true:=by rfl)
  (hline:(apos.endLine == cpos.line)=true:=by rfl) (hs:starEach (e::es) X.env=(false,eval e X.env)::starEach es X.env:=by rfl) (hplain:(backTo cpos (starEach es X.env)).any (·.1)=false:=by rfl) :
  PE X (.Call (.Attribute o name apos) (e::es) [] cpos) (tBM X.K T r to t):=by
 intro pins s σ H Q I h
 refine wpAny_Call_method_late hbase hfew hline rfl (thn (ho pins s σ H _ I h) fun v s1 ⟨x,H1,I1,r1,ty,q1⟩=>?_)
 obtain⟨h1,h2⟩:=aa9 I1 r1 ty
 refine⟨T,id,pa,slot,hty,h1,h2,?_⟩
 have hA:=ha cpos pins s1 σ H1 _ I1 q1
 rw [hs] at hA ⊢
 refine Calls.callWith_builtin (by show (false || (backTo cpos (starEach es X.env)).any (·.1))=false; rw [hplain] <;> rfl) (Calls.evalArgs_plain ?_)
 exact thn hA fun us s2 ⟨vs,H2,I2,r2,q2⟩=>hm pins s2 σ H2 x vs v us Q I2 r1 r2 q2
end
end L2
namespace L2
open PySem PySem.Spec PyProof.Rows
def MtM (X:Cx) (id:String) (r:V→List V→Hp→VK→Prop):Prop :=
 ∀ (pins:List (Addr×Obj)) (s:Shared) (σ:St) (H:Hp) (x:V) (xs:List V) (v:Value) (us:List Value) (Q:VK),Inv X pins σ H s→RelV x v→Vals xs us→r x xs H Q →
  wpAny (model X.prog X.w) X.A (call (.builtin id) (v::us)) (EP X pins σ Q) X.xe s
theorem Vals.one:∀ {x:V}{us:List Value},Vals [x] us→∃ u,us=[u]∧RelV x u
 | _,_,.cons r .nil=>⟨_,rfl,r⟩
theorem Vals.zero:∀ {us:List Value},Vals [] us→us=[]
 | _,.nil=>rfl
theorem Vals.dropLast {xs:List V}{us:List Value} (h:Vals xs us):Vals xs.dropLast us.dropLast:=by
 induction h with
 | nil=>exact .nil
 | cons r t ih =>
  cases t with
  | nil=>exact .nil
  | cons q t'=>exact .cons r ih
theorem Vals.eraseIdx:∀ {xs:List V}{us:List Value} (i:Nat),Vals xs us→Vals (xs.eraseIdx i) (us.eraseIdx i)
 | _,_,_,.nil=>.nil
 | _,_,0,.cons _ t=>t
 | _,_,i+1,.cons r t=>.cons r (Vals.eraseIdx i t)
theorem Vals.reverse {xs:List V}{us:List Value} (h:Vals xs us):Vals xs.reverse us.reverse:=by
 induction h with
 | nil=>exact .nil
 | cons r t ih=>rw [List.reverse_cons,List.reverse_cons]; exact Vals.append ih (.cons r .nil)
theorem Vals.rep {xs:List V}{us:List Value} (h:Vals xs us):∀ k:Nat,Vals (List.replicate k xs).flatten (List.replicate k us).flatten
 | 0=>.nil
 | k+1=>by
  rw [List.replicate_succ,List.replicate_succ,List.flatten_cons,List.flatten_cons]
  exact Vals.append h (Vals.rep h k)
theorem aan {α:Type} (l:List α):l.eraseIdx (l.length - 1)=l.dropLast:=by
 induction l with
 | nil=>rfl
 | cons a r ih =>
  cases r with
  | nil=>rfl
  | cons b r =>
   have e:(a::b::r).length - 1=((b::r).length - 1)+1:=by
    have h1:(a::b::r).length=r.length+2:=rfl
    have h2:(b::r).length=r.length+1:=rfl
    lia
   rw [e,List.eraseIdx_cons_succ,ih]
   all_goals rfl
theorem Ru {α:Type}:∀ (l:List α) (i:Nat),(l.eraseIdx i).length≤l.length
 | [],_=>Nat.le_refl _
 | _::_,0=>Nat.le_succ _
 | _::r,i+1=>Nat.succ_le_succ (Ru r i)
theorem foldl_rep (its:List Value):∀ (k:Nat) (acc:List Value),
  List.foldl (fun x1 x2=>x1++x2) acc.toArray (List.replicate k its.toArray)=(acc++(List.replicate k its).flatten).toArray
 | 0,acc=>by simp
 | k+1,acc=>by
  have e:acc.toArray++its.toArray=(acc++its).toArray:=by simp
  have e2:(acc++its)++(List.replicate k its).flatten=acc++(List.replicate (k+1) its).flatten:=by
   rw [List.replicate_succ,List.flatten_cons,List.append_assoc]
  rw [← e2,← foldl_rep its k (acc++its),← e,List.replicate_succ,List.foldl_cons]
section
variable {X:Cx}{pins:List (Addr×Obj)}{σ:St}{H:Hp}{s:Shared}{l b:Addr}{xs ys zs:List V}
theorem Inv.Vj {its its':List Value}{n:Nat}{f:Array Value→Array Value}{t':Nat} (I:Inv X pins σ H s) (hH:H l=some (.lst xs))
  (e:s.heap.get? l=some { cls:=.type "list",data:=.seq its.toArray n }) (hf:f its.toArray=its'.toArray) (hv:Vals ys its') (hz:ys.length≤sizeLine) :
  Inv X pins σ (upd H l (.lst ys)) { s with heap:=s.heap.update l (Obj.mapSeq f),toks:=t' }:=by
 have q:=PySem.IsL.update e f
 rw [hf] at q
 refine I.write (x:=l) (e:=l) (by rw [hH]; exact trivial) (.inl rfl) (fun b' u hb hu=>(Heap.get?_update_other s.heap (Obj.mapSeq f) (Ne.symm hb)).trans hu) ⟨_,q⟩ ?_
 exact⟨hz,its',_,hv,q⟩
theorem Inv.lnew {its:List Value}{t':Nat} (I:Inv X pins σ H s) (hv:Vals ys its) (hz:ys.length≤sizeLine) :
  Inv X pins σ (upd H s.heap.objs.size (.lst ys)) { s with heap:=s.heap.push { cls:=.type "list",data:=.seq its.toArray },toks:=t' } :=
 I.laid (fun _ _ q=>Heap.get?_push_of_some _ q) (Nat.le_refl _) ⟨hz,its,0,hv,Heap.get?_push_size _ rfl⟩
theorem Inv.fresh (I:Inv X pins σ H s):H s.heap.objs.size=none:=I.hok.fresh (Nat.le_refl _)
theorem Inv.lstM (I:Inv X pins σ H s) (hH:H l=some (.lst xs)):xs.length≤sizeLine∧∃ (its:List Value) (n:Nat),Vals xs its∧xs.length=its.length∧s.heap.get? l=some { cls:=.type "list",data:=.seq its.toArray n }:=by
 obtain⟨z,its,n,r,e⟩:=I.hok l _ hH
 exact⟨z,its,n,r,r.length,e⟩
theorem Ku {n:Nat} (h:n≤sizeLine):Builtin.List.listTooLong n=false:=by
 unfold Builtin.List.listTooLong
 exact decide_eq_false (by lia)
end
section
variable {X:Cx}
def ae6:V→List V→Hp→VK→Prop:=fun x vs H Q=>∃ l xs y,x=.ref l∧vs=[y]∧H l=some (.lst xs)∧xs.length<sizeLine∧Q .non (upd H l (.lst (xs++[y])))
theorem cN:MtM X "list.append" ae6:=by
 intro pins s σ H x vs v us Q I rx rv h
 obtain⟨l,xs,y,rfl,rfl,hH,hz,q⟩:=h
 cases rx
 obtain⟨u,rfl,ru⟩:=rv.one
 obtain⟨z,its,n,r,hl,e⟩:=I.lstM hH
 refine call_meets F.slot_list_append ⟨_,e,rfl⟩ F.entry_list_append (F.args_list_append_2 _ _) (PySem.list_append l its.toArray n u (by rw [List.size_toArray]; lia)) ⟨e,?_⟩
 refine⟨.non,_,I.Vj (its':=its++[u]) hH e (by simp) (r.append (.cons ru .nil)) ?_,rfl,q⟩
 rw [List.length_append,List.length_singleton]
 lia
def aj7:V→List V→Hp→VK→Prop:=fun x vs H Q=>∃ l xs y,x=.ref l∧vs=[]∧H l=some (.lst xs)∧xs[xs.length - 1]?=some y∧Q y (upd H l (.lst xs.dropLast))
theorem rW:MtM X "list.pop" aj7:=by
 intro pins s σ H x vs v us Q I rx rv h
 obtain⟨l,xs,y,rfl,rfl,hH,hy,q⟩:=h
 cases rx
 have hus:=rv.zero
 subst hus
 obtain⟨z,its,n,r,hl,e⟩:=I.lstM hH
 obtain⟨u,hu,ru⟩:=r.get hy
 have hy':its.toArray[its.toArray.size - 1]?=some u:=by
  show its.toArray[its.length - 1]?=some u
  rw [← Array.getElem?_toList,← hl]
  exact hu
 refine call_meets F.slot_list_pop ⟨_,e,rfl⟩ F.entry_list_pop (F.args_list_pop_1 _) (MeetsSeq.list_pop_last l its.toArray n u hy' (by rw [List.size_toArray]; lia)) ⟨e,?_⟩
 refine⟨y,_,I.Vj (its':=its.dropLast) hH e ?_ r.dropLast ?_,ru,q⟩
 ·show its.toArray.eraseIdxIfInBounds (its.toArray.size - 1)=its.dropLast.toArray
  rw [List.size_toArray,List.eraseIdxIfInBounds_toArray,aan]
 ·rw [List.length_dropLast]
  lia
def ago:V→List V→Hp→VK→Prop:=fun x vs H Q=>∃ l xs i k y,x=.ref l∧vs=[.int i]∧H l=some (.lst xs)∧-(2 ^ 63)≤i∧i<2 ^ 63∧seqIndex? i xs.length=some k∧xs[k]?=some y∧Q y (upd H l (.lst (xs.eraseIdx k)))
theorem Kw:MtM X "list.pop" ago:=by
 intro pins s σ H x vs v us Q I rx rv h
 obtain⟨l,xs,i,k,y,rfl,rfl,hH,h1,h2,hk,hy,q⟩:=h
 cases rx
 obtain⟨u,rfl,ru⟩:=rv.one
 obtain⟨t,rfl⟩:=ru
 obtain⟨z,its,n,r,hl,e⟩:=I.lstM hH
 obtain⟨w,hw,rw'⟩:=r.get hy
 refine call_meets F.slot_list_pop ⟨_,e,rfl⟩ F.entry_list_pop (F.args_list_pop_2 _ _)
  (MeetsSeq.list_pop_at l its.toArray n i t k w (fitsIndex_both h1 h2) (by rw [List.size_toArray,← hl]; exact hk) (by rw [← Array.getElem?_toList]; exact hw) (by rw [List.size_toArray]; lia)) ⟨e,?_⟩
 refine⟨y,_,I.Vj (its':=its.eraseIdx k) hH e ?_ (r.eraseIdx k) ?_,rw',q⟩
 ·show its.toArray.eraseIdxIfInBounds k=(its.eraseIdx k).toArray
  rw [List.eraseIdxIfInBounds_toArray]
 ·have:=Ru xs k
  lia
def aj6:R2:=fun x y H Q=>∃ l k xs,x=.ref l∧y=.int k∧H l=some (.lst xs)∧-(2 ^ 63)≤k∧k<2 ^ 63∧xs.length * k.toNat≤sizeLine ∧
 ∀ p,H p=none→Q (.ref p) (upd H p (.lst (List.replicate k.toNat xs).flatten))
theorem len_rep {α:Type} (xs:List α) (k:Nat):(List.replicate k xs).flatten.length=k * xs.length:=by
 induction k with
 | zero=>simp
 | succ k ih=>rw [List.replicate_succ,List.flatten_cons,List.length_append,ih,Nat.succ_mul,Nat.add_comm]
theorem agR:OpR X (binaryOp .Mult) aj6:=by
 intro pins s σ H x y v u Q I rx ry h
 obtain⟨l,k,xs,rfl,rfl,hH,h1,h2,hz,q⟩:=h
 cases rx
 obtain⟨t,rfl⟩:=ry
 obtain⟨z,its,n,r,hl,e⟩:=I.lstM hH
 have hlen:its.toArray.size * k.toNat≤sizeLine:=by rw [List.size_toArray,← hl]; exact hz
 have hcap:¬ its.toArray.size * k.toNat > (2 ^ 63 - 1) / 8:=by
  have:(sizeLine:Nat)≤(2 ^ 63 - 1) / 8:=by decide
  lia
 have hfit:¬ (!Builtin.List.listFitsIndex k)=true:=by
  rw [fitsIndex_both h1 h2]
  exact Bool.false_ne_true
 have aai:¬ Builtin.List.listTooLong (its.toArray.size * k.toNat)=true:=by
  rw [Ku hlen]
  exact Bool.false_ne_true
 have hnew:List.foldl (fun x1 x2=>x1++x2) #[] (List.replicate (if its.toArray.isEmpty=true then 0 else k.toNat) its.toArray)=(List.replicate k.toNat its).flatten.toArray:=by
  have f0:∀ m:Nat,List.foldl (fun x1 x2=>x1++x2) #[] (List.replicate m its.toArray)=(List.replicate m its).flatten.toArray:=fun m=>by
   have:=foldl_rep its m []
   rw [List.nil_append] at this
   exact this
  rw [f0]
  cases its with
  | nil=>simp
  | cons a r'=>rw [if_neg (by simp)]
 refine wpAny_binaryOp_repeat_ref (T:="list") (U:="int") (by decide) ⟨_,e,rfl⟩ (fun s'=>typeIs_int s' k t) noFill_list_mul F.fills_int_mul F.slot_int_rmul repeat_list F.slot_int_index.lookup
  (call_meets F.slot_int_rmul (typeIs_int s k t) F.entry_int_rmul (F.args_int_rmul_2 _ _) (int___rmul___int_list k t l its.toArray n)
   ⟨e,rfl,⟨_,e,rfl⟩,call_meets F.slot_list_mul ⟨_,e,rfl⟩ F.entry_list_mul (F.args_list_mul_2 _ _) (AutoListH.list___mul___list_int_3 l its.toArray n k t hfit hcap aai) ⟨e,?_⟩⟩)
 rw [hnew]
 exact⟨.ref _,_,I.lnew (t':=s.toks) (r.rep k.toNat) (by rw [len_rep,Nat.mul_comm]; exact hz),rfl,q _ I.fresh⟩
end
section
variable {prog:Program}{w:World}{A:Around}{E:Value→Shared→Prop}{s:Shared}
end
section
variable {X:Cx}
end
end L2
namespace Att
open PySem PySem.W PySem.Calls PyProof.Rows
theorem ints_of_wellAll {P:Params}{h:Heap}:∀ (ns:List Int) (vs:List Value),WellAll P h vs (ns.map WData.int)→IntsAre vs ns:=by
 intro ns
 induction ns with
 | nil =>
  intro vs w
  rw [List.map_nil] at w
  cases w
  exact .nil
 | cons n ns ih =>
  intro vs w
  rw [List.map_cons] at w
  cases w with
  | cons a b =>
   cases a
   exact .cons _ _ (ih _ b)
theorem script_of {l:OpenLaw}{n:Nat} (hn:l.most=some n) {P:Params}{h:Heap}{args:List WData}{vals:List Value}
  (hpre:l.row.toRowW.claim.pre args=true) (hwl:WellAll P h vals args) :
  ∃ a vs ns,vals=[Value.ref a]∧args=[WData.list (ns.map WData.int)]∧h.get? a=some { cls:=.type "list",data:=.seq vs.toArray }∧IntsAre vs ns∧ns.length≤n:=by
 have hsh:WShape.hasAll [] args [.list .int]=true:=(pre_splitW hpre).1
 have hc:l.pre.holds [] { args:=args }=true:=(pre_splitW hpre).2
 obtain⟨d,r,rfl,h1,h2⟩:=hasAllW_cons hsh
 obtain rfl:=hasAllW_nil h2
 obtain⟨xs,rfl,h3⟩:=hasW_list h1
 obtain⟨ns,rfl⟩:=items_int h3
 have hlen:ns.length≤n:=by
  unfold OpenLaw.pre at hc
  have h4:(WTm.not (.lt (.lit (.int (n:Int))) (.len (.arg 0)))).holds [] { args:=[.list (ns.map .int)] }=true:=by
   have h4:=(holds_andW hc).1
   rw [hn] at h4
   exact h4
  have h5:=condW_of h4 (w_not (w_lt w_lit (w_len_list (w_arg rfl))))
  rw [List.length_map] at h5
  refine Nat.le_of_not_lt fun q=>?_
  have q':(n:Int)<((ns.length:Nat):Int):=by lia
  first
   | (rw [decide_eq_true q'] at h5; exact absurd h5 (by decide))
   | (simp at h5; lia)
 cases hwl with
 | cons w1 w2 =>
  cases w2
  cases w1 with
  | list ho hall=>exact⟨_,_,ns,rfl,rfl,ho,ints_of_wellAll ns _ hall,hlen⟩
theorem post_true (l:OpenLaw) (args:List WData):l.row.toRowW.claim.post args (.bool true) args=true :=
 postW_of (r:=l.row.toRowW) (X:=(true == true))
  (show WShape.has [] (.bool true) .bool=true by first | rfl | decide | simp [WShape.has,WShape.arms,WShape.armsAll])
  (show (WTm.eq .res (.lit (.bool true))).value [] { args:=args,res:=some (.bool true),after:=args }=some (.bool (true == true)) from w_eq_bool (w_res rfl) w_lit) rfl
theorem attach_call {l:OpenLaw}{n:Nat}{q:Program}{loose:List Str}{XP:(Str→Option Value)→Heap→Prop}{YP:World→Heap→Prop}{d:DefRec}
  (hn:l.most=some n) (hdf:d.params.defaults=[])
  (call:∀ (w:World) (s₀ s₁:Shared) (mg mb:Str→Option Value) (fa:Addr) (o:Obj) (pm cd doc:Value) (a:Addr) (vs:List Value) (ns:List Int),
   Ground q loose [] XP w s₀ mg mb s₁.heap→YP w s₁.heap →
   s₁.heap.get? fa=some o→o.data=.func (docDef d.name d.params d.body d.scope pm cd doc)→s₁.heap.CodeRec cd d.name→mg d.name=some (.ref fa) →
   s₁.heap.get? a=some { cls:=.type "list",data:=.seq vs.toArray }→IntsAre vs ns→ns.length≤n→s₁.gens=#[] →
   codeAny (model l.prog w) callerA (.call (.ref fa) ⟨[.ref a],[]⟩) (fun r s'=>r=.ok (.ret (.bool true))∧OldK s₁.heap s'.heap∧s'.os=s₁.os∧AllBare s'.gens) s₁) :
  WalkO q loose XP YP l.row.toRowW d [] (fun f vs=>PySem.call f vs):=by
 intro w s₀ s₁ mg mb G Y fa o pm cd doc dV kV ho hd hcd hD hmg hg args vals as hpre hlay hrd hwl hlo
 obtain rfl:dV=.none:=Dflts.none hD hdf
 obtain rfl:kV=.none:=Dflts.noKw hD
 obtain⟨a,vs,ns,rfl,rfl,hobj,hints,hlen⟩:=script_of hn hpre hwl
 refine enter_call (codeAny_mono (call w s₀ s₁ mg mb fa o pm cd doc a vs ns G Y ho (fd_plain hd) hcd hmg hobj hints hlen hg) fun r s' hq=>?_)
 obtain⟨rfl,h2,h3,h4⟩:=hq
 exact⟨.inl ⟨.bool true,.bool true,[],rfl,fun _=>rfl,.bool true,post_true l _,fun _=>⟨List.Pairwise.nil,fun _ hm=>(nomatch hm)⟩⟩,h2,h3,h4⟩
section
variable {prog:Program}{w:World}{A:Around}{E:Value→Shared→Prop}{s:Shared}{K:Frag}
end
end Att
namespace L2
open PySem PySem.Spec PyProof.Rows
theorem vals_ints:∀ {vs:List Value}{ns:List Int},IntsAre vs ns→Vals (ns.map V.int) vs
 | _,_,.nil=>.nil
 | _,_,.cons n t h=>.cons ⟨t,rfl⟩ (vals_ints h)
def Only (H:Hp):Prop:=∀ b,H b=none∨∃ o xs,H b=some (.frz o (.lst xs))
theorem law_call {P:Program}{w:World}{K:PySem.W.Frag}{mg mb:Str→Option Value}{CX:CXT}{k:Nat}{fa a:Addr}{fd:FuncData}{x:Str}{sp:Sp}{s₁:Shared}{vs:List Value}{ns:List Int}
  (KX:K.In s₁.heap) (hns:s₁.heap.Ns mainGlobals mg) (hb:s₁.heap.Ns builtinsNs mb) (hbb:∀ x:Str,x≠"__name__"→mb x=bootBuiltins x) (hlim:s₁.heap.NoLimit) (hg:s₁.gens=#[])
  (ha:s₁.heap.get? a=some { cls:=.type "list",data:=.seq vs.toArray }) (hi:IntsAre vs ns) (hl:ns.length≤sizeLine) (hr:Room k callerA)
  (F:∀ base:Heap,K.In base→base.Ns mainGlobals mg→FnOk P w K mg base CX k fa fd [x] sp) (hbind:∀ (s:Shared) (u:Value),BindsTo s fd ⟨[u],[]⟩ [(x,u)])
  (hsp:∀ H:Hp,Only H→SqL K H a (ns.map V.int)→sp [.ref a] H (fun v _=>v=.bl true) fun _ _ _=>False)
  (hCX:∀ H e s',CX [] H s₁ (fun _ _ _=>False) e s'→False) :
  codeAny (model P w) callerA (.call (.ref fa) ⟨[.ref a],[]⟩) (fun r s'=>r=.ok (.ret (.bool true))∧OldK s₁.heap s'.heap∧s'.os=s₁.os∧AllBare s'.gens) s₁:=by
 have rv:=vals_ints hi
 have lenV:=hi.length
 have core:∀ H:Hp,Only H→SqL K H a (ns.map V.int)→HOk P w H s₁.heap→(∀ b,H b≠none→b=a)→(H a≠none→K.lookup a=none) →
   codeAny (model P w) callerA (.call (.ref fa) ⟨[.ref a],[]⟩) (fun r s'=>r=.ok (.ret (.bool true))∧OldK s₁.heap s'.heap∧s'.os=s₁.os∧AllBare s'.gens) s₁:=by
  intro H hO hS hok hA hK
  have base_of:∀ {b:Addr}{o:Obj},s₁.heap.get? b=some o→H b=none→(hidT s₁.heap H).get? b=some o:=fun e n=>hidT_get e n
  have noA:∀ {b:Addr}{o:Obj}{es:Array DictEntry}{ep:Nat},s₁.heap.get? b=some o→o.data=.dict es ep→H b=none:=fun {b o es ep} e d=>by
   cases q:H b with
   | none=>rfl
   | some u =>
    have e':b=a:=hA b (by rw [q]; simp)
    subst e'
    rw [ha] at e; cases e
    have d':Data.seq vs.toArray _=Data.dict es ep:=d
    cases d'
  have nsK:∀ {b:Addr}{m:Str→Option Value},s₁.heap.Ns b m→(hidT s₁.heap H).Ns b m:=fun {b m} ⟨o,es,ep,e,d,r⟩=>⟨o,es,ep,base_of e (noA e d),d,r⟩
  have hKb:K.In (hidT s₁.heap H):=fun b o e=>base_of (KX b o e) (by
   cases q:H b with
   | none=>rfl
   | some u =>
    have e':b=a:=hA b (by rw [q]; simp)
    subst e'
    rw [hK (by rw [q]; simp)] at e; cases e)
  have hM:Mod K mg (hidT s₁.heap H):=⟨hKb,nsK hns,⟨mb,nsK hb,hbb⟩,let ⟨mc,h1,h2⟩:=hlim; ⟨mc,nsK h1,h2⟩⟩
  have e0:Env0 P w K mg (hidT s₁.heap H) callerA [] s₁ H:=⟨rfl,hM,fun b o e=>of_hidT e,Nat.le_of_eq (hidT_size _ _),trivial,fun b hb=>absurd (show b∈([]:List Addr) from hb) (by simp),hok,.of_eq hg⟩
  refine codeAny_mono ((F _ hKb (nsK hns)).run callerA [] s₁ H ⟨[.ref a],[]⟩ [.ref a] [.ref a] _ _ hr e0 (hbind s₁ (.ref a)) (.cons rfl .nil) (hsp H hO hS)) fun r s' h=>?_
  cases r with
  | error e=>exact (hCX H e s' h).elim
  | ok fl =>
   cases fl with
   | next=>exact False.elim h
   | brk=>exact False.elim h
   | cont=>exact False.elim h
   | ret u =>
    obtain⟨v,H',os,bare,un,hok',r',q⟩:=h
    have q':v=.bl true:=q
    subst q'
    obtain rfl:u=Value.bool true:=r'
    refine⟨rfl,OldK.of_keep fun b o e=>?_,os,bare⟩
    cases q:H b with
    | none=>exact un.keep b o e q (by intro z; exact absurd (show b∈([]:List Addr) from z) (by simp)) (by simp)
    | some u =>
     rcases hO b with z | ⟨ob,xs,z⟩
     ·rw [q] at z; cases z
     ·have z2:=un.frzs b ob _ z
      obtain⟨e1,_⟩:=hok b _ z
      obtain⟨e2,_⟩:=hok' b _ z2
      rw [e] at e1; cases e1
      exact e2
 cases hk:K.lookup a with
 | some o =>
  have e:=KX a o hk
  rw [ha] at e
  cases e
  refine core (fun _=>none) (fun _=>.inl rfl) (.inr ⟨_,vs.toArray,_,hk,rfl,rfl,rfl,by rw [List.size_toArray,lenV]; exact hl,by simpa using rv⟩) (fun b u z=>by have z':(none:Option HO)=some u:=z; cases z') (fun b z=>absurd rfl z) fun z=>absurd rfl z
 | none =>
  refine core (fun b=>if b=a then some (.frz { cls:=.type "list",data:=.seq vs.toArray } (.lst (ns.map V.int))) else none) (fun b=>?_) (.inl (.inr ⟨{ cls:=.type "list",data:=.seq vs.toArray },if_pos rfl⟩)) (fun b u z=>?_) (fun b z=>?_) fun _=>hk
  ·by_cases hb:b=a
   ·exact .inr ⟨_,_,if_pos hb⟩
   ·exact .inl (if_neg hb)
  ·by_cases hb:b=a
   ·have z':=(if_pos hb).symm.trans z
    cases z'
    subst hb
    exact⟨ha,by rw [List.length_map]; exact hl,vs,_,rv,ha⟩
   ·have z':=(if_neg hb).symm.trans z
    cases z'
  ·by_cases hb:b=a
   ·exact hb
   ·exact absurd (if_neg hb) z
end L2
namespace L2
open PySem PySem.Spec PyProof.Rows
theorem walk_of {l:PySem.W.OpenLaw}{n k:Nat}{q:Program}{loose:List Str}{XP:(Str→Option Value)→Heap→Prop}{YP:World→Heap→Prop}{d:DefRec}{K:Params→PySem.W.Frag}{CX:World→CXT}{sp:World→Sp}{x:Str}
  (hn:l.most=some n) (hn2:n≤sizeLine) (hdf:d.params.defaults=[]) (hr:Room k callerA)
  (hY:∀ (w:World) (h:Heap),YP w h→(K w.params).In h)
  (F:∀ (w:World) (mg:Str→Option Value) (fa:Addr) (h:Heap),(K w.params).In h→h.Ns mainGlobals mg→mg d.name=some (.ref fa) →
   ∃ fd:FuncData,(∀ (s:Shared) (u:Value),BindsTo s fd ⟨[u],[]⟩ [(x,u)]) ∧
    ∀ base:Heap,(K w.params).In base→base.Ns mainGlobals mg→FnOk l.prog w (K w.params) mg base (CX w) k fa fd [x] (sp w))
  (hsp:∀ (w:World) (H:Hp) (a:Addr) (ns:List Int),ns.length≤n→Only H→SqL (K w.params) H a (ns.map V.int)→sp w [.ref a] H (fun v _=>v=.bl true) fun _ _ _=>False)
  (hCX:∀ (w:World) (H:Hp) (s:Shared) (e:Value) (s':Shared),CX w [] H s (fun _ _ _=>False) e s'→False) :
  PySem.W.WalkO q loose XP YP l.row.toRowW d [] (fun f vs=>PySem.call f vs):=by
 refine Att.attach_call hn hdf fun w s₀ s₁ mg mb fa o pm cd doc a vs ns G Y ho hd hcd hmg hobj hints hlen hg=>?_
 have KX:=hY w _ Y
 obtain⟨fd,hb,hF⟩:=F w mg fa _ KX G.T.g hmg
 exact law_call KX G.T.g G.T.b G.T.builtins G.T.nolimit hg hobj hints (Nat.le_trans hlen hn2) hr hF hb (fun H hO hS=>hsp w H a ns hlen hO hS) fun H e s'=>hCX w H s₁ e s'
end L2
namespace L2
open PySem PySem.Spec PyProof.Rows
def inClass (s:Stmt) (j:Nat):Stmt:=match s with
 | .ClassDef _ _ _ body _ _ _ _ _ _ _=>body.getD j (.Pass ⟨0,0,0,0⟩)
 | _=>.Pass ⟨0,0,0,0⟩
def defArgs (s:Stmt):Arguments:=match s with
 | .FunctionDef _ a _ _ _ _ _ _ _ _=>a
 | _=>{ posonlyargs:=[],args:=[],vararg:=none,kwonlyargs:=[],kw_defaults:=[],kwarg:=none,defaults:=[] }
def defBody (s:Stmt):List Stmt:=match s with
 | .FunctionDef _ _ b _ _ _ _ _ _ _=>b
 | _=>[]
def defScope (s:Stmt):Scope:=match s with
 | .FunctionDef _ _ _ _ _ _ sc _ _ _=>sc
 | _=>{ kind:=.function,names:=[],isGenerator:=false,isCoroutine:=false }
abbrev CX0:CXT:=fun _ _ _ _ _ _=>False
abbrev E0:XK:=fun _ _ _=>False
theorem pass0 {X:Cx}:Passes CX0 X E0:=fun _ _ _ _ _ _ _ h=>h.elim
structure Fun (K:PySem.W.Frag) (x qual:Str) (st:Stmt) (f:Addr) (fd:FuncData):Prop where
 ex:∃ (oc:Value) (od:Option Addr) (kV doc pm:Value) (an:Option Addr) (cdv ct:Value) (osl:Array (Option Value)),
  fd=PySem.W.fnOf x qual (defArgs st) (defBody st) (defScope st) .none kV doc pm an cdv ct∧K.lookup f=some ⟨oc,od,.func fd,osl⟩∧PySem.W.codeIn K cdv qual=true
 kp:PySem.W.keepIn K (.ref f)=true
section
variable {P:Program}{w:World}{K:PySem.W.Frag}{mg:Str→Option Value}{base:Heap}
theorem Fun.ok {x qual:Str}{st:Stmt}{f:Addr}{fd:FuncData}{N ps:List Str}{k:Nat}{sp:Sp} (F:Fun K x qual st f fd) (S:FnScope N ps (defScope st)) (len:∀ vs H Q E,sp vs H Q E→vs.length=ps.length)
  (hbody:∀ (cdv:Value) (A:Around) (outer:List Env) (s:Shared) (H:Hp) (vs:List V) (Q:VK) (E:XK),Room k (A.deeper (envOfC qual (defScope st) s.heap.objs.size f cdv))→sp vs H Q E →
   ∃ t,PSs (cxOf CX0 P w K mg base N qual (defScope st) f cdv A outer s H E).nox (defBody st) t∧t { nx:=fun _ H'=>Q .non H',rt:=Q } (start N vs) H):FnOk P w K mg base CX0 (k+1) f fd ps sp:=by
 obtain⟨oc,od,kV,doc,pm,an,cdv,ct,osl,rfl,lk,hcd⟩:=F.ex
 refine fn_of lk hcd S len fun A outer s H vs Q E hr hsp=>?_
 obtain⟨t,h,q⟩:=hbody cdv A outer s H vs Q E hr hsp
 exact⟨t,h.nox,q⟩
theorem Fun.binds {x qual:Str}{st:Stmt}{f:Addr}{fd:FuncData}{ps:List Str} (F:Fun K x qual st f fd)
  (h:∀ (kV doc pm:Value) (an:Option Addr) (cdv ct:Value) (us:List Value),us.length=ps.length→bindArgs (PySem.W.fnOf x qual (defArgs st) (defBody st) (defScope st) .none kV doc pm an cdv ct) ⟨us,[]⟩=pure (ps.zip us)):Binds K fd ps []:=by
 obtain⟨oc,od,kV,doc,pm,an,cdv,ct,osl,rfl,lk,hcd⟩:=F.ex
 exact .all (h kV doc pm an cdv ct)
theorem fun_mk {x qual:Str}{st:Stmt}{f:Addr}{oc:Value}{od an:Option Addr}{osl:Array (Option Value)}{kV doc pm cdv ct:Value} (l:K.lookup f=some ⟨oc,od,.func (PySem.W.fnOf x qual (defArgs st) (defBody st) (defScope st) .none kV doc pm an cdv ct),osl⟩)
  (c:PySem.W.codeIn K cdv qual=true) (k:PySem.W.keepIn K (.ref f)=true):Fun K x qual st f (PySem.W.fnOf x qual (defArgs st) (defBody st) (defScope st) .none kV doc pm an cdv ct):=⟨⟨oc,od,kV,doc,pm,an,cdv,ct,osl,rfl,l,c⟩,k⟩
end
section
variable {X:Cx}
theorem pv (i:Nat) {x:Str}{pos:Pos} (hN:X.N[i]?=some x:=by rfl) (hv:Vis X.env.scope x:=by first | exact Or.inl rfl | exact Or.inr (Or.inl rfl) | exact Or.inr (Or.inr rfl)) (hd:(x == ("__debug__":Str))=false:=by decide)
  (hcd:(x == ("__classdict__":Str))=false:=by decide):PE X (.Name x pos) (tVar i):=pe_var hN hv hd hcd
end
theorem iteF {A B:Prop} (h:B):if false=true then A else B:=by
 rw [if_neg Bool.false_ne_true]
 exact h
theorem iteT {A B:Prop} (h:A):if true=true then A else B:=by
 rw [if_pos rfl]
 exact h
theorem ite2 {c A B:Prop} [Decidable c] (h1:c→A) (h2:¬ c→B):if c then A else B:=by
 by_cases h:c
 ·rw [if_pos h]
  exact h1 h
 ·rw [if_neg h]
  exact h2 h
def Same (H H':Hp):Prop:=∀ b o,H b=some o→H' b=some o
theorem Same.refl (H:Hp):Same H H:=fun _ _ h=>h
theorem Same.trans {H H1 H2:Hp} (a:Same H H1) (b:Same H1 H2):Same H H2:=fun c o h=>b c o (a c o h)
theorem Same.free {H H':Hp} (e:Same H H') {l:Addr} (h:H' l=Option.none):H l=Option.none:=by
 cases q:H l with
 | none=>rfl
 | some o =>
  rw [e l o q] at h
  cases h
theorem Same.seq {K:PySem.W.Frag}{H H':Hp}{a:Addr}{xs:List V} (e:Same H H') (h:SqL K H a xs):SqL K H' a xs:=by
 rcases h with (h | ⟨o,h⟩) | h
 ·exact .inl (.inl (e _ _ h))
 ·exact .inl (.inr ⟨o,e _ _ h⟩)
 ·exact .inr h
end L2
set_option maxHeartbeats 4000000
namespace Sw
inductive aW {α β:Type} (R:α→β→Prop):List α→List β→Prop where
 | nil:aW R [] []
 | cons {a:α}{b:β}{as:List α}{bs:List β}:R a b→aW R as bs→aW R (a::as) (b::bs)
namespace aW
variable {α β:Type}{R S:α→β→Prop}
theorem length {as:List α}{bs:List β} (h:aW R as bs):bs.length=as.length:=by
 induction h with
 | nil=>rfl
 | cons _ _ ih=>rw [List.length_cons,List.length_cons,ih]
theorem imp {as:List α}{bs:List β} (f:∀ a b,R a b→S a b) (h:aW R as bs):aW S as bs:=by
 induction h with
 | nil=>exact .nil
 | cons r _ ih=>exact .cons (f _ _ r) ih
theorem append {as as':List α}{bs bs':List β} (h:aW R as bs) (g:aW R as' bs'):aW R (as++as') (bs++bs'):=by
 induction h with
 | nil=>exact g
 | cons r _ ih=>exact .cons r ih
theorem one {a:α}{b:β} (h:R a b):aW R [a] [b]:=.cons h .nil
theorem get {as:List α}{bs:List β} (h:aW R as bs):∀ {i:Nat}{b:β},bs[i]?=some b→∃ a,as[i]?=some a∧R a b:=by
 induction h with
 | nil=>intro i b e; simp at e
 | cons r _ ih =>
  intro i b e
  cases i with
  | zero=>exact⟨_,rfl,by have e':=Option.some.inj e; rw [← e']; exact r⟩
  | succ i=>exact ih (i:=i) (by simpa using e)
theorem of_get:∀ {bs:List β}{as:List α},bs.length=as.length→(∀ (i:Nat) b,bs[i]?=some b→∃ a,as[i]?=some a∧R a b)→aW R as bs
 | [],[],_,_=>.nil
 | [],_::_,h,_=>by simp at h
 | _::_,[],h,_=>by simp at h
 | b::bs,a::as,h,g=>by
  obtain⟨a',e,r⟩:=g 0 b rfl
  have e':=Option.some.inj e
  refine .cons (by rw [e']; exact r) (of_get (by simpa using h) fun i b e=>?_)
  exact g (i+1) b (by simpa using e)
end aW
inductive T where
 | node (ts:List T)
namespace T
def kids:T→List T | .node ts=>ts
mutual
def parts:T→Nat | .node ts=>1+aD ts
def aD:List T→Nat
 | []=>0
 | t::ts=>parts t+aD ts
end
mutual
def deep:T→Nat | .node ts=>cj ts
def cj:List T→Nat
 | []=>0
 | t::ts=>max (deep t+1) (cj ts)
end
mutual
def beq:T→T→Bool | .node ts,.node us=>vB ts us
def vB:List T→List T→Bool
 | [],[]=>true
 | t::ts,u::us=>beq t u && vB ts us
 | _,_=>false
end
mutual
theorem beq_iff:∀ t u:T,beq t u=true↔t=u
 | .node ts,.node us=>by
  unfold beq
  rw [V8 ts us]
  exact⟨fun h=>by rw [h],fun h=>by injection h⟩
theorem V8:∀ ts us:List T,vB ts us=true↔ts=us
 | [],[]=>by simp [vB]
 | [],_::_=>by simp [vB]
 | _::_,[]=>by simp [vB]
 | t::ts,u::us=>by
  unfold vB
  rw [Bool.and_eq_true,beq_iff t u,V8 ts us]
  simp
end
theorem aei (t:T):beq t t=true:=(beq_iff t t).mpr rfl
instance:DecidableEq T:=fun t u=>if h:beq t u=true then isTrue ((beq_iff t u).mp h) else isFalse fun e=>h ((beq_iff t u).mpr e)
theorem aM (ts:List T):(T.node ts).parts=1+aD ts:=by unfold parts; rfl
theorem aP (ts:List T):(T.node ts).deep=cj ts:=by unfold deep; rfl
theorem aR:aD []=0:=by unfold aD; rfl
theorem aF (t:T) (ts:List T):aD (t::ts)=t.parts+aD ts:=by rw [aD]
theorem bV:cj []=0:=by unfold cj; rfl
theorem aO (t:T) (ts:List T):cj (t::ts)=max (t.deep+1) (cj ts):=by rw [cj]
theorem g_ (t:T):1≤t.parts:=by cases t; rw [aM]; lia
theorem dH (t:T):t.parts=1+aD t.kids:=by cases t; rw [aM]; rfl
theorem Gi (t:T):t.deep=cj t.kids:=by cases t; rw [aP]; rfl
theorem cJ:∀ a b:List T,aD (a++b)=aD a+aD b
 | [],b=>by rw [aR,List.nil_append]; lia
 | t::a,b=>by rw [List.cons_append,aF,aF,cJ a b]; lia
theorem iu:∀ a b:List T,cj (a++b)=max (cj a) (cj b)
 | [],b=>by rw [bV,List.nil_append]; lia
 | t::a,b=>by rw [List.cons_append,aO,aO,iu a b]; lia
theorem cV:∀ ts:List T,ts.length≤aD ts
 | []=>by simp
 | t::ts=>by
  have h1:=g_ t
  have h2:=cV ts
  rw [aF,List.length_cons]
  lia
theorem MP {ts:List T}{t:T} (h:ts[ts.length - 1]?=some t):aD ts=aD ts.dropLast+t.parts:=by
 have e:ts=ts.dropLast++[t]:=by
  have hne:ts≠[]:=by rintro rfl; simp at h
  have h2:=List.dropLast_concat_getLast hne
  have h3:ts.getLast hne=t:=by
   rw [← List.getLast?_eq_getElem?,List.getLast?_eq_some_getLast hne] at h
   exact Option.some.inj h
  rw [h3] at h2
  exact h2.symm
 have e2:aD ts=aD (ts.dropLast++[t]):=congrArg aD e
 rw [e2,cJ,aF,aR]
 lia
theorem Kc (n:Nat) (ts:List T):aD ts=aD (ts.take n)+aD (ts.drop n):=by
 rw [← cJ,List.take_append_drop]
theorem Fp {B:Nat}:∀ {ts:List T},(∀ t∈ts,t.parts≤B)→aD ts≤ts.length * B
 | [],_=>by rw [aR]; lia
 | t::ts,h=>by
  have h1:=h t List.mem_cons_self
  have h2:=Fp fun u hu=>h u (List.mem_cons_of_mem _ hu)
  rw [aF,List.length_cons,Nat.succ_mul]
  lia
theorem Jt {B:Nat}:∀ {ts:List T},(∀ t∈ts,t.deep+1≤B)→cj ts≤B
 | [],_=>by rw [bV]; lia
 | t::ts,h=>by
  have h1:=h t List.mem_cons_self
  have h2:=Jt fun u hu=>h u (List.mem_cons_of_mem _ hu)
  rw [aO]
  lia
theorem lW:∀ {ts:List T}{t:T},t∈ts→t.parts≤aD ts
 | _::ts,t,h=>by
  rw [aF]
  rcases List.mem_cons.mp h with rfl | h
  ·lia
  ·have:=lW h
   lia
theorem wW:∀ {ts:List T}{t:T},t∈ts→t.deep+1≤cj ts
 | _::ts,t,h=>by
  rw [aO]
  rcases List.mem_cons.mp h with rfl | h
  ·lia
  ·have:=wW h
   lia
end T
end Sw
namespace Sw
open PySem PySem.Spec PyProof.Rows L2
abbrev Sg:=List (Option V)
def blk (X:Cx) (scope:Scope) (cl:List (Str×Addr)) (C:Addr) (N:List Str) (s:Shared) (H:Hp) (fp:List Addr) (pins:List (Addr×Obj)):Cx :=
 { X with N:=N,s₀:=s,H₀:=H,env:=compEnvC scope cl C X.env,outer:=X.stack,ex:=fp,fn:=fun _=>false,calm:=true,pn:=X.pn++pins,xe:=fun _ _=>False }
def DG (X:Cx) (scope:Scope):List Str→List Nat→Prop
 | [],[]=>True
 | y::fr,j::js=>(X.N[j]?=some y∧X.env.scope.names.lookup y=some .cell∧(relabel scope X.env).names.lookup y=some .cell)∧DG X scope fr js
 | _,_=>False
theorem DG.len {X:Cx}{scope:Scope}:∀ {fr:List Str}{js:List Nat},DG X scope fr js→fr.length=js.length
 | [],[],_=>rfl
 | _::_,_::_,h=>congrArg (· + 1) (DG.len h.2)
theorem DG.get {X:Cx}{scope:Scope}:∀ {fr:List Str}{js:List Nat},DG X scope fr js→∀ {i:Nat}{y:Str},fr[i]?=some y →
  ∃ j:Nat,js[i]?=some j∧X.N[j]?=some y∧X.env.scope.names.lookup y=some .cell∧(relabel scope X.env).names.lookup y=some .cell
 | [],[],_,i,y,e=>by simp at e
 | z::fr,j::js,h,0,y,e=>by
  have e':z=y:=by simpa using e
  subst e'
  exact⟨j,rfl,h.1⟩
 | z::fr,j::js,h,i+1,y,e=>by
  obtain⟨k,h1,h2⟩:=DG.get h.2 (i:=i) (y:=y) (by simpa using e)
  exact⟨k,by simpa using h1,h2⟩
structure yw (X:Cx) (scope:Scope) (x:Str) (fr:List Str) (js:List Nat) (cl:List (Str×Addr)):Prop where
 kind:scope.kind=.function
 clos:closureFor scope X.env=pure cl
 cell:∀ y∈scope.names,y.2≠.cell
 loc:∀ y∈scope.names,y.2=.local→scope.names.lookup y.1=some .local
 var:scope.names.lookup x=some .local
 sub:∀ y c,cl.lookup y=some c→X.env.cells.lookup y=some c
 has:∀ y,((relabel scope X.env).names.lookup y=some .cell∨(relabel scope X.env).names.lookup y=some .free)→∃ c,cl.lookup y=some c
 frk:DG X scope fr js
 nd:(x::fr).Nodup
section
variable {X:Cx}{pins:List (Addr×Obj)}{σ:Sg}{H:Hp}{s:Shared}{scope:Scope}{cl:List (Str×Addr)}{x:Str}{fr:List Str}{js:List Nat}{fp:List Addr}
theorem acq {N:List Str} (I:Inv X pins σ H s) (L:yw X scope x fr js cl) (hc:X.calm=true) (hfp:∀ b∈fp,FpOk X pins H b) (hsz:∀ b∈fp,b<s.heap.objs.size) :
  (blk X scope cl s.heap.objs.size N s H fp pins).Ok where
 mod:=I.ok.mod
 kind:=L.kind
 glob:=I.ok.glob
 blt:=I.ok.blt
 above:=Nat.le_refl _
 inj:=fun y z c h1 h2=>I.ok.inj y z c (L.sub y c h1) (L.sub z c h2)
 has:=fun y hy=>L.has y hy
 cab:=fun y c h _=>absurd (show false=true from h) Bool.false_ne_true
 hd:=fun _=>I.ok.hd hc
 frames:=I.ok.frames
 stk:=.inl rfl
 exf:=fun b hb=>⟨Nat.ne_of_lt (hsz b hb),fun y c h=>(hfp b hb).2.2.2.2.1 y c (L.sub y c h)⟩
 bs:=I.bs
 bsz:=Nat.le_trans I.ok.bsz I.sz
 noex:=fun b o e hb=>by
  rcases (hfp b hb).2.2.2.1 with z | z
  ·exact I.ok.noex b o e z
  ·exact absurd (Nat.lt_of_lt_of_le (Nat.lt_of_lt_of_le (Heap.lt_size e) I.ok.bsz) z) (Nat.lt_irrefl _)
 exfs:=fun b hb z=>by
  rcases List.mem_cons.mp (I.stkSub b z) with e | e
  ·exact (hfp b hb).2.1 e
  ·exact (hfp b hb).2.2.1 e
 funs:=I.stack
 frf:=I.stkFree
def frv (σ:Sg) (js:List Nat):Sg:=js.map fun j=>(σ[j]?).getD none
theorem Y4 {h1:Heap}{m1:Str→Option Value}{tk:Nat} (I:Inv X pins σ H s) (L:yw X scope x fr js cl) (hc:X.calm=true) (hfp:∀ b∈fp,FpOk X pins H b) (hsz:∀ b∈fp,b<s.heap.objs.size)
  (hn:h1.Ns s.heap.objs.size m1) (hk:∀ b o,s.heap.get? b=some o→h1.get? b=some o) :
  Inv (blk X scope cl s.heap.objs.size (x::fr) s H fp pins) [] (none::frv σ js) H { s with heap:=h1,toks:=tk }:=by
 refine⟨acq I L hc hfp hsz,rfl,I.bare,Un.kept hk,⟨m1,hn,fun i y v e1 e2 _=>?_⟩,fun y c e=>?_,I.hok.fresh (Nat.le_refl _),fun y c e=>I.freeC y c (L.sub y c e),fun p hp=>?_,I.hok.kept hk,?_⟩
 ·cases i with
  | zero=>exact absurd e2 (by simp)
  | succ i =>
   have e1':fr[i]?=some y:=by simpa [blk] using e1
   obtain⟨j,hj,hN,hcell,hrel⟩:=L.frk.get e1'
   have e2':σ[j]?=some (some v):=by
    have q:(frv σ js)[i]?=some (some v):=by simpa using e2
    unfold frv at q
    rw [List.getElem?_map,hj] at q
    have q':(σ[j]?).getD none=some v:=by simpa using q
    cases hs:σ[j]? with
    | none=>rw [hs] at q'; cases q'
    | some o=>rw [hs] at q'; exact congrArg some q'
   obtain⟨m,_,hl⟩:=I.loc
   obtain⟨u,r,lk⟩:=hl j y v hN e2' (.inr (.inl hcell))
   refine⟨u,r,.inr ⟨.inl hrel,?_⟩⟩
   rcases lk with⟨hloc,_⟩ | ⟨_,c,hc1,hc2⟩
   ·have:X.env.scope.names.lookup y=some .local:=hloc
    rw [hcell] at this; cases this
   ·obtain⟨c',hc'⟩:=L.has y (.inl hrel)
    have e3:=L.sub y c' hc'
    rw [hc1] at e3; cases e3
    exact⟨c,hc',hc2.keeps hk⟩
 ·obtain⟨v,hv⟩:=I.cell y c (L.sub y c e)
  exact⟨v,hv.keeps hk⟩
 ·have hp':p∈X.pn++pins:=by simpa [blk] using hp
  obtain⟨a1,a2,a3,a4,a5⟩:=I.pin p hp'
  refine⟨hk _ _ a1,a2,Nat.ne_of_lt (Heap.lt_size a1),fun z=>?_,a5⟩
  rcases List.mem_cons.mp (I.stkSub _ z) with e | e
  ·exact a3 e
  ·exact a4 e
 ·show (none::frv σ js).length=(x::fr).length
  simp [frv,L.frk.len]
theorem Ls {H':Hp}{s':Shared}{h':Heap}{σ':Sg}{N:List Str}{pins':List (Addr×Obj)} (I:Inv X pins σ H s) (J:Inv (blk X scope cl s.heap.objs.size N s H fp pins) pins' σ' H' s') (hfp:∀ b∈fp,FpOk X pins H b)
  (hsb:Heap.SameBut s.heap.objs.size s'.heap h'):Inv X pins σ H' { s' with heap:=h' }:=by
 have hos:s'.os=s.os:=J.os
 have nC:H' s.heap.objs.size=none:=J.free
 have kp:∀ b,b≠s.heap.objs.size→h'.get? b=s'.heap.get? b:=hsb.2
 have low:∀ b o,s.heap.get? b=some o→b≠s.heap.objs.size:=fun b o e=>Nat.ne_of_lt (Heap.lt_size e)
 have u:Un (frs X.stack) fp H H' s.heap h':=by
  have u0:Un (frs X.stack) fp H H' s.heap s'.heap:=J.base
  exact⟨fun b o e n h1 h2=>(kp b (low b o e)).trans (u0.keep b o e n h1 h2),fun b o e n h1 h2=>by
    obtain⟨sl,q⟩:=u0.slot b o e n h1 h2
    exact⟨sl,(kp b (low b o e)).trans q⟩,u0.free,fun b o e h1=>by
    obtain⟨o',q⟩:=u0.there b o e h1
    exact⟨o',(kp b (low b o e)).trans q⟩,u0.tups,u0.frzs,u0.tbls⟩
 have hok:HOk X.prog X.w H' h':=fun b o e=>by
  refine (J.hok b o e).stay (fun c v hc q=>(kp c ?_).trans q) (fun _ q=>q) fun _ _ q=>q
  rcases hc with z | z
  ·rw [z]; intro z'; rw [z',nC] at e; cases e
  ·intro z'; rw [z',nC] at z; cases z
 have q:=I.call (g':=s'.gens) (t':=s'.toks) (d':=s'.drawn) u hok J.bare fun b hb=>⟨(hfp b hb).2.2.2.1,(hfp b hb).2.1,(hfp b hb).2.2.2.2.1,(hfp b hb).2.2.2.2.2⟩
 obtain⟨hp,g,d,tk,os⟩:=s'
 have:os=s.os:=hos
 subst this
 exact q
end
def yQ (J:It) (js:List Nat) (te:TE) (σ:Sg) (Q:VK) (H1:Hp):Prop:=∀ D,H1 D=none →
 ∃ W:Nat→Nat→List V→Hp→Prop,(∃ m,W 0 m [] (upd H1 D (.lst [])))∧∀ i m ys H',W i m ys H'→H' D=some (.lst ys) ∧
  ((J.stop i H'∧Q (.ref D) H')∨(J.go i H'∧∀ x H2,J.yld i H' x H2→te (some x::frv σ js) H2 fun y H3=>H3 D=some (.lst ys)∧ys.length<sizeLine ∧
   ∃ m',m'<m∧W (i+1) m' (ys++[y]) (upd H3 D (.lst (ys++[y])))))
def tLC (wi:TI) (js:List Nat) (te:TE):TE:=fun σ H Q=>wi σ H fun J H1=>yQ J js te σ Q H1
section
variable {X:Cx}{scope:Scope}{cl:List (Str×Addr)}{x:Str}{fr:List Str}{js:List Nat}{elt iter:Expr}{px pos:Pos}{wi:TI}{te:TE}
theorem Qm {prog:Program}{w:World}{A:Around}{R:Result→Shared→Prop}{s:Shared}{tg:Expr}{it acc:Value}{env:Env} (Iv:Nat→Shared→Prop)
  (turn:∀ n s,Iv n s→wpAny (model prog w) A (pyNext it) (fun r s1=>match r with
   | none=>R (.ok .next) s1
   | some v=>wpAny (model prog w) A (letOwnedTupleGo tg it v) (fun _ s2=>wpAny (model prog w) A (assign tg env v) (fun _ s3=>wpAny (model prog w) A (eval elt env) (fun y s4 =>
     wpAny (model prog w) A (call (.builtin "list.append") [acc,y]) (fun _ s5=>∃ m,m<n∧Iv m s5) (fun _ _=>False) s4) (fun _ _=>False) s3) (fun _ _=>False) s2) (fun _ _=>False) s1) (fun _ _=>False) s)
  (n:Nat) (h:Iv n s):codeAny (model prog w) A (.compLoop (.ListComp elt [⟨tg,iter,[],0⟩] scope pos) 0 it acc env) R s:=by
 refine codeAny_loop rfl Iv (fun n s hI=>?_) n h
 refine wpAny_noted ?_
 rw [compTurn_list1]
 refine wpAny_bind (wpAny_standAt (wpAny_bind (wpAny_mono (turn n s hI) (fun r s1 h1=>?_) fun _ _ z=>z.elim)))
 cases r with
 | none=>exact wpAny_pure h1
 | some v =>
  refine wpAny_bind (wpAny_mono h1 (fun _ s2 h2=>?_) fun _ _ z=>z.elim)
  refine wpAny_bind (wpAny_mono h2 (fun _ s3 h3=>?_) fun _ _ z=>z.elim)
  refine wpAny_bind (wpAny_bind (wpAny_mono h3 (fun y s4 h4=>?_) fun _ _ z=>z.elim))
  refine wpAny_bind (wpAny_mono h4 (fun _ s5 h5=>?_) fun _ _ z=>z.elim)
  exact wpAny_pure (wpAny_pure ⟨rfl,h5⟩)
theorem ai6 (hc:X.calm=true) (L:yw X scope x fr js cl) (hi:PI X (.Name x px) iter wi)
  (he:∀ C s H fp pins,PE (blk X scope cl C (x::fr) s H fp pins) elt te)
  (hs:∀ v,foldedSetIterable iter X.env v=pure v:=by intro _; rfl) :
  PE X (.ListComp elt [⟨.Name x px,iter,[],0⟩] scope pos) (tLC wi js te):=by
 intro pins s σ H Q I h
 rw [eval_ListComp]
 refine wpAny_comprehension_free (use:=none) rfl hs L.clos L.kind L.loc (thn (hi pins s σ H _ I h) fun v s1 h1=>thn h1 fun itv s2 h2=>?_)
 obtain⟨it,fp,tn,J,H2,e,I2,T,st2,f2,rd⟩:=h2
 subst e
 obtain⟨W,⟨m0,w0⟩,turn⟩:=rd _ I2.fresh
 have I3:=I2.lnew (ys:=[]) (its:=[]) (t':=s2.toks) .nil (Nat.zero_le _)
 refine wpAny_newObj_type ?_
 have Ga:∀ b∈fp,b<s2.heap.objs.size:=fun b hb=>by
  obtain⟨o,ho,_⟩:=T.obj 0 _ st2 b hb
  exact Heap.lt_size ho
 generalize hs3:({ s2 with heap:=s2.heap.push { cls:=.type "list",dict:=none,data:=.seq ([]:List Value).toArray } }:Shared)=s3
 have I3':Inv X pins σ (upd H2 s2.heap.objs.size (.lst [])) s3:=by rw [← hs3]; exact I3
 have sz3:s3.heap.objs.size=s2.heap.objs.size+1:=by rw [← hs3]; exact Heap.size_push ..
 have k23:∀ b o,s2.heap.get? b=some o→s3.heap.get? b=some o:=fun b o e=>by rw [← hs3]; exact Heap.get?_push_of_some _ e
 have fsz:∀ b∈fp,b<s3.heap.objs.size:=fun b hb=>by rw [sz3]; exact Nat.lt_succ_of_lt (Ga b hb)
 have f3:∀ b∈fp,FpOk X pins (upd H2 s2.heap.objs.size (.lst [])) b:=fun b hb=>⟨by rw [upd_ne (Nat.ne_of_lt (Ga b hb))]; exact (f2 b hb).1,(f2 b hb).2⟩
 refine wpAny_newFunctionEnv L.cell (by intro y hy; simp at hy) (fun h4 hn4 Vo=>?_) L.kind
 have k34:∀ b o,s3.heap.get? b=some o→h4.get? b=some o:=fun b o e=>(Vo.2 b (Nat.ne_of_lt (Heap.lt_size e))).trans (Heap.get?_push_of_some _ e)
 generalize hX':blk X scope cl s3.heap.objs.size (x::fr) s3 (upd H2 s2.heap.objs.size (.lst [])) fp pins=X'
 have I4:Inv X' [] (none::frv σ js) (upd H2 s2.heap.objs.size (.lst [])) { s3 with heap:=h4,toks:=s3.toks+([]:List (Str×Value)).length }:=by
  rw [← hX']; exact Y4 I3' L hc f3 fsz hn4 k34
 have st4:tn 0 h4:=T.keep _ _ _ st2 fun b _ o e=>k34 b o (k23 b o e)
 have he':PE X' elt te:=by rw [← hX']; exact he _ _ _ _ _
 have xp:X'.prog=X.prog:=by rw [← hX']; rfl
 have xw:X'.w=X.w:=by rw [← hX']; rfl
 have xK:X'.K=X.K:=by rw [← hX']; rfl
 have xA:X'.A=X.A:=by rw [← hX']; rfl
 have xc:X'.calm=true:=by rw [← hX']; rfl
 have xe:X'.xe=fun _ _=>False:=by rw [← hX']; rfl
 have xn:X'.N=x::fr:=by rw [← hX']; rfl
 have xv:X'.env=compEnvC scope cl s3.heap.objs.size X.env:=by rw [← hX']; rfl
 have xpn:X'.pn=X.pn++pins:=by rw [← hX']; rfl
 have xex:X'.ex=fp:=by rw [← hX']; rfl
 have xfs:X'.fs=frs X.stack:=by rw [← hX']; rfl
 have back:∀ {H':Hp}{s':Shared}{h':Heap}{σ':Sg},Inv X' [] σ' H' s'→Heap.SameBut s3.heap.objs.size s'.heap h'→Inv X pins σ H' { s' with heap:=h' }:=fun {H' s' h' σ'} J' hsb=>by
  rw [← hX'] at J'; exact Ls I3' J' f3 hsb
 have frame:∀ b∈fp,b ∉ frs X.stack:=fun b hb z=>by
  rcases List.mem_cons.mp (I3'.stkSub b z) with e | e
  ·exact (f3 b hb).2.1 e
  ·exact (f3 b hb).2.2.1 e
 have stat:∀ {H':Hp},(∀ b∈fp,H' b=none)→∀ b∈fp,FpOk X' [] H' b:=fun {H'} hn b hb=>by
  refine⟨hn b hb,?_,?_,.inl (by rw [xex]; exact hb),?_,?_⟩
  ·rw [xv]; exact Nat.ne_of_lt (fsz b hb)
  ·rw [xfs]; exact frame b hb
  ·rw [xv]; exact fun y c e=>(f3 b hb).2.2.2.2.1 y c (L.sub y c e)
  ·rw [xpn,List.append_nil]; exact (f3 b hb).2.2.2.2.2
 have loop:codeAny (model X.prog X.w) X.A (.compLoop (.ListComp elt [⟨.Name x px,iter,[],0⟩] scope pos) 0 (.ref it) (.ref s2.heap.objs.size) (compEnvC scope cl s3.heap.objs.size X.env))
   (compPost (model X.prog X.w) X.A X.xe none (EP X pins σ Q) (.ref s2.heap.objs.size) s3.heap.objs.size) { s3 with heap:=h4,toks:=s3.toks+([]:List (Str×Value)).length }:=by
  refine Qm (fun n s'=>∃ i ys o H',Inv X' [] (o::frv σ js) H' s'∧tn i s'.heap∧(∀ b∈fp,H' b=none)∧W i n ys H') ?_ m0 ⟨0,[],none,_,I4,st4,fun b hb=>(f3 b hb).1,w0⟩
  rintro n s5 ⟨i,ys,o,H5,I5,st5,fr5,w5⟩
  obtain⟨hD,hstep⟩:=turn i n ys H5 w5
  rcases hstep with⟨stop,qn⟩ | ⟨go,step⟩
  ·have q:=T.done X' xp xw xK xc i [] s5 _ H5 (fun _ _=>False) I5 (stat fr5) st5 stop
   rw [xA] at q
   refine thn q fun r s6 ⟨hr,I6⟩=>?_
   subst hr
   obtain⟨m6,hn6,_⟩:=I6.loc
   rw [xv] at hn6
   exact⟨m6,hn6,fun h' hsb=>⟨.ref s2.heap.objs.size,H5,back I6 hsb,rfl,qn⟩⟩
  ·have q:=T.item X' xp xw xK xc i [] s5 _ H5 (fun _ _=>False) I5 (stat fr5) st5 go
   rw [xA] at q
   refine thn q fun r s6 ⟨u,hr,h6⟩=>?_
   subst hr
   refine thn h6 fun _ s7 ⟨xx,H7,I7,r7,y7,st7,fr7⟩=>?_
   have I7':=I7.pinned (stat fr7) (T.obj _ _ st7)
   have hg:PG X' (.Name x px) (gName 0):=by
    refine pg_name (i:=0) (x:=x) (by rw [xn]; exact L.nd) (by rw [xn]; rfl) ?_ ?_
    ·rw [xv]; exact .inl (lookup_relabel_local L.var)
    ·rw [xv]; exact .inr (lookup_relabel_local L.var)
   have q7:=hg _ s7 _ H7 xx u (fun σ8 H8=>σ8=some xx::frv σ js∧H8=H7) I7' r7 ⟨rfl,rfl⟩
   rw [xp,xw,xA,xe,xv] at q7
   refine thn q7 fun _ s8 ⟨σ8,H8,I8,e8,e8'⟩=>?_
   subst e8 e8'
   have q8:=he' _ s8 _ _ _ I8 (step xx _ y7)
   rw [xp,xw,xA,xe,xv] at q8
   refine thn q8 fun yv s9 ⟨y,H9,I9,r9,d9,z9,m9,hm9,w9⟩=>?_
   have q9:=cN (X:=X') _ s9 _ H9 (.ref s2.heap.objs.size) [y] (.ref s2.heap.objs.size) [yv] (fun z H'=>H'=upd H9 s2.heap.objs.size (.lst (ys++[y]))) I9 rfl (.cons r9 .nil) ⟨_,ys,y,rfl,rfl,d9,z9,rfl⟩
   rw [xp,xw,xA,xe] at q9
   refine thn q9 fun _ s10 ⟨_,H10,I10,_,e10⟩=>?_
   subst e10
   refine⟨m9,hm9,i+1,ys++[y],some xx,_,I10.unpinned,T.keep _ _ _ st7 fun b hb ob e=>(I10.pin (b,ob) (List.mem_append_right _ (List.mem_append_right _ (mem_pinsAt hb e)))).1,fun b hb=>?_,w9⟩
   obtain⟨ob,e,_⟩:=T.obj _ _ st7 b hb
   exact (I10.pin (b,ob) (List.mem_append_right _ (List.mem_append_right _ (mem_pinsAt hb e)))).2.1
 exact codeAny_compStart_list loop (T.self _ 0 _ _ _ st4 loop)
end
end Sw
namespace Sw
open PySem PySem.Spec PyProof.Rows L2
def um (cells:List (Str×Addr)):List (Str×NameKind)→List (Str×Addr)→List (Str×Addr)
 | [],acc=>acc
 | (n,.free)::r,acc=>match cells.lookup n with
  | some c=>um cells r ((n,c)::acc)
  | none=>um cells r acc
 | (_,_)::r,acc=>um cells r acc
theorem GC {cells:List (Str×Addr)}{n:Str}{k:NameKind}{r:List (Str×NameKind)}{acc:List (Str×Addr)} (h:k≠.free):um cells ((n,k)::r) acc=um cells r acc:=by
 cases k <;> first | rfl | exact absurd rfl h
theorem GD {cells:List (Str×Addr)}{n:Str}{c:Addr}{r:List (Str×NameKind)}{acc:List (Str×Addr)} (h:cells.lookup n=some c):um cells ((n,.free)::r) acc=um cells r ((n,c)::acc):=by
 rw [um,h]
theorem Lp {cells:List (Str×Addr)}:∀ {names:List (Str×NameKind)}{acc:List (Str×Addr)},(∀ y∈names,y.2=.free→∃ c,cells.lookup y.1=some c)→(∀ y c,acc.lookup y=some c→cells.lookup y=some c) →
  ∀ y c,(um cells names acc).lookup y=some c→cells.lookup y=some c
 | [],_,_,h,y,c,e=>h y c e
 | (n,k)::r,acc,hf,h,y,c,e=>by
  have hr:∀ y∈r,y.2=.free→∃ c,cells.lookup y.1=some c:=fun y hy=>hf y (List.mem_cons_of_mem _ hy)
  by_cases hk:k=.free
  ·subst hk
   obtain⟨d,hd⟩:=hf (n,.free) List.mem_cons_self rfl
   rw [GD hd] at e
   refine Lp hr (fun z b hz=>?_) y c e
   rw [List.lookup_cons] at hz
   cases hzn:z == n with
   | true =>
    rw [hzn] at hz
    have:z=n:=eq_of_beq hzn
    rw [this,hd]
    exact hz
   | false =>
    rw [hzn] at hz
    exact h z b hz
  ·rw [GC hk] at e
   exact Lp hr h y c e
theorem Lq {cells:List (Str×Addr)}:∀ {names:List (Str×NameKind)}{acc:List (Str×Addr)},(∀ y∈names,y.2=.free→∃ c,cells.lookup y.1=some c) →
  ∀ y:Str,((y,NameKind.free)∈names∨∃ c,acc.lookup y=some c)→∃ c,(um cells names acc).lookup y=some c
 | [],_,_,y,h=>by
  rcases h with h | h
  ·simp at h
  ·exact h
 | (n,k)::r,acc,hf,y,h=>by
  have hr:∀ y∈r,y.2=.free→∃ c,cells.lookup y.1=some c:=fun y hy=>hf y (List.mem_cons_of_mem _ hy)
  by_cases hk:k=.free
  ·subst hk
   obtain⟨d,hd⟩:=hf (n,.free) List.mem_cons_self rfl
   rw [GD hd]
   refine Lq hr y ?_
   by_cases hyn:y=n
   ·subst hyn
    exact .inr ⟨d,by simp [List.lookup_cons]⟩
   ·rcases h with h | ⟨c,h⟩
    ·rcases List.mem_cons.mp h with e | e
     ·exact absurd (congrArg Prod.fst e) hyn
     ·exact .inl e
    ·refine .inr ⟨c,?_⟩
     rw [List.lookup_cons]
     have:(y == n)=false:=by simpa using hyn
     rw [this]
     exact h
  ·rw [GC hk]
   refine Lq hr y ?_
   rcases h with h | h
   ·rcases List.mem_cons.mp h with e | e
    ·exact absurd (congrArg Prod.snd e).symm hk
    ·exact .inl e
   ·exact .inr h
theorem aay {scope:Scope}{env:Env} (hf:∀ y∈scope.names,y.2=.free→∃ c,env.cells.lookup y.1=some c):closureFor scope env=pure (um env.cells scope.names []):=by
 have key:∀ (names:List (Str×NameKind)) (acc:List (Str×Addr)),(∀ y∈names,y.2=.free→∃ c,env.cells.lookup y.1=some c) →
   (forIn names acc fun (x:Str×NameKind) (cs:List (Str×Addr))=>(match x with | (name,kind)=>if (kind == NameKind.free)=true then (cellOf env name >>= fun a=>pure (ForInStep.yield ((name,a)::cs))) else pure (ForInStep.yield cs):Sem (ForInStep (List (Str×Addr)))))=pure (um env.cells names acc):=by
  intro names
  induction names with
  | nil=>intro acc _; rfl
  | cons x r ih =>
   intro acc h
   obtain⟨n,k⟩:=x
   have hr:∀ y∈r,y.2=.free→∃ c,env.cells.lookup y.1=some c:=fun y hy=>h y (List.mem_cons_of_mem _ hy)
   rw [List.forIn_cons]
   by_cases hk:k=.free
   ·subst hk
    obtain⟨d,hd⟩:=h (n,.free) List.mem_cons_self rfl
    have hc:cellOf env n=pure d:=by unfold cellOf; rw [hd]
    rw [GD hd,← ih _ hr]
    simp only [beq_self_eq_true,if_true,hc,pure_bind]
   ·have hb:(k == NameKind.free)=false:=by simpa using hk
    rw [GC hk,← ih _ hr]
    simp only [hb,Bool.false_eq_true,if_false,pure_bind]
 have:=key scope.names [] hf
 unfold closureFor
 simp only [bind_pure_comp,map_pure] at this ⊢
 first
  | exact this
  | (rw [this]; rfl)
  | (simp only [this]; rfl)
theorem rH {X:Cx}{scope sc:Scope}{x:Str}{fr:List Str}{js:List Nat} (hk:scope.kind=.function) (hsc:X.env.scope=sc) (hkf:sc.kind=.function)
  (hcell:∀ y∈scope.names,y.2≠.cell) (hloc:∀ y∈scope.names,y.2=.local→scope.names.lookup y.1=some .local) (amZ:scope.names.lookup x=some .local)
  (hfree:∀ y∈scope.names,y.2=.free→sc.names.lookup y.1=some .cell) (hfr:DG X scope fr js) (hnd:(x::fr).Nodup)
  (hcs:∀ y,X.env.scope.names.lookup y=some .cell→∃ c,X.env.cells.lookup y=some c):yw X scope x fr js (um X.env.cells scope.names []):=by
 have hall:∀ y∈scope.names,y.2=.free→∃ c,X.env.cells.lookup y.1=some c:=fun y hy e=>hcs _ (by rw [hsc]; exact hfree y hy e)
 refine⟨hk,aay hall,hcell,hloc,amZ,Lp hall fun y c e=>by simp at e,fun y hy=>Lq hall y (.inl ?_),hfr,hnd⟩
 have get:∀ k,(k=NameKind.cell∨k=NameKind.free)→(relabel scope X.env).names.lookup y=some k→(y,NameKind.free)∈scope.names:=fun k hkk e=>by
  have hm:=PySem.mem_of_lookup e
  unfold relabel at hm
  obtain⟨⟨n,k0⟩,hin,heq⟩:=List.mem_map.mp hm
  dsimp only at heq
  split at heq
  ·rename_i hc
   have e1:n=y:=congrArg Prod.fst heq
   have e2:k0=.free:=by
    rw [Bool.and_eq_true,Bool.and_eq_true] at hc
    exact eq_of_beq hc.1.1
   rw [← e1,← e2]
   exact hin
  ·have e1:n=y:=congrArg Prod.fst heq
   have e2:k0=k:=congrArg Prod.snd heq
   rcases hkk with z | z
   ·exact absurd (by rw [e2,z]) (hcell _ hin)
   ·rw [← e1,← z,← e2]
    exact hin
 rcases hy with h | h
 ·exact get _ (.inl rfl) h
 ·exact get _ (.inr rfl) h
end Sw
namespace Sw
open PySem PySem.Spec PyProof.Rows L2
theorem same_new {H:Hp}{p:Addr} (h:H p=none) (o:HO):Same H (upd H p o):=fun b u q=>by rw [upd_ne (ne_of_none q h)]; exact q
structure Kt (H H':Hp):Prop where
 t:∀ b xs,H b=some (.tup xs)→H' b=some (.tup xs)
 f:∀ b o u,H b=some (.frz o u)→H' b=some (.frz o u)
theorem Kt.of {H H':Hp} (S:Same H H'):Kt H H':=⟨fun b _ e=>S b _ e,fun b _ _ e=>S b _ e⟩
theorem Kt.refl (H:Hp):Kt H H:=⟨fun _ _ e=>e,fun _ _ _ e=>e⟩
theorem Kt.trans {H H1 H2:Hp} (a:Kt H H1) (b:Kt H1 H2):Kt H H2:=⟨fun _ _ e=>b.t _ _ (a.t _ _ e),fun _ _ _ e=>b.f _ _ _ (a.f _ _ _ e)⟩
theorem Kt.new {H:Hp}{p:Addr}{o:HO} (h:H p=none):Kt H (upd H p o):=.of (same_new h o)
theorem Kt.lst {H:Hp}{p:Addr}{ys:List V}{o:HO} (h:H p=some (.lst ys)):Kt H (upd H p o) :=
 ⟨fun b xs e=>by rw [upd_ne (ne_of e h (fun z=>by cases z))]; exact e,fun b o' u e=>by rw [upd_ne (ne_of e h (fun z=>by cases z))]; exact e⟩
theorem cO {K:PySem.W.Frag}{H H':Hp}{a:Addr}{xs:List V} (S:Kt H H') (h:SqT K H a xs):SqT K H' a xs:=by
 rcases h with (h | ⟨o,h⟩) | h
 ·exact .inl (.inl (S.t _ _ h))
 ·exact .inl (.inr ⟨o,S.f _ _ _ h⟩)
 ·exact .inr h
theorem cY {H H':Hp}{p:Addr}{o:HO} (S:Same H H') (h:H p=none):Same H (upd H' p o):=fun b u q=>by rw [upd_ne (ne_of_none q h)]; exact S b u q
section
variable {X:Cx}
theorem Gb (l:Addr) (items:Array Value) (n:Nat) (b:Addr) (items2:Array Value) (n2:Nat) (dd:Option Addr) (sl:Array (Option Value))
  (h0:¬ (!items.isEmpty && Builtin.List.listTooLong (items.size+items2.size))=true) (h1:items.size≤sizeLine) (h2:items.size+items2.size≤sizeLine+1) :
  Meets (Builtin.«list.extend» ⟨[.ref l,.ref b],[]⟩) (fun _ R s=>s.heap.get? l=some { cls:=.type "list",dict:=none,data:=.seq items n,slots:=#[] } ∧
   s.heap.get? b=some { cls:=.type "tuple",dict:=dd,data:=.seq items2 n2,slots:=sl }∧R (.ok (.ret Value.none)) { s with heap:=s.heap.update l (Obj.mapSeq fun x=>x++items2),toks:=s.toks }) :=
 .of_wp fun prog w A R s h=>by
  obtain⟨hp,g,d,tk,os⟩:=s
  obtain⟨hl,hb,h⟩:=h
  have f1:=AutoSeq1.idx_int
  have f2:=AutoSeq1.sub_tuple_tuple
  have f3:=AutoSeq1.sub_list_list
  have f4:=AutoSeq1.sub_tuple_list
  have f5:=AutoSeq1.sub_list_tuple
  have hz':(items++items2).size≤sizeLine+1:=by
   rw [Array.size_append]
   exact h2
  wp_walk using (wpAny_updateSeq hl rfl (hz:=h1) (_hz':=hz')),AutoSeq1.wpAny_loadPart' hl,AutoSeq1.wpAny_loadPart' hb
  exact⟨_,rfl,h⟩
def ai0 (K:PySem.W.Frag):V→List V→Hp→VK→Prop:=fun x vs H Q=>∃ l b xs zs,x=.ref l∧vs=[.ref b]∧H l=some (.lst xs)∧SqT K H b zs∧xs.length+zs.length≤sizeLine∧Q .non (upd H l (.lst (xs++zs)))
theorem YF:MtM X "list.extend" (ai0 X.K):=by
 intro pins s σ H x vs v us Q I rx rv h
 obtain⟨l,b,xs,zs,rfl,rfl,hH,hB,hz,q⟩:=h
 cases rx
 obtain⟨u,rfl,ru⟩:=rv.one
 cases ru
 obtain⟨z,its,n,r,hl,e⟩:=I.lstM hH
 obtain⟨its2,r2,⟨⟨c2,d2,dt2,sl2⟩,e2,hc2,n2,hd2⟩,z2⟩:=I.tuple hB
 have hl2:=r2.length
 simp only at hc2 hd2
 subst hc2 hd2
 have hsz:its.toArray.size+its2.toArray.size≤sizeLine:=by rw [List.size_toArray,List.size_toArray]; lia
 have aai:¬ (!its.toArray.isEmpty && Builtin.List.listTooLong (its.toArray.size+its2.toArray.size))=true:=by
  rw [Ku hsz,Bool.and_false]
  exact Bool.false_ne_true
 refine call_meets F.slot_list_extend ⟨_,e,rfl⟩ F.entry_list_extend (F.args_list_extend_2 _ _)
  (Gb l its.toArray n b its2.toArray n2 d2 sl2 aai (by rw [List.size_toArray]; lia) (by lia)) ⟨e,e2,?_⟩
 refine⟨.non,_,I.Vj (its':=its++its2) hH e (by simp) (r.append r2) ?_,rfl,q⟩
 rw [List.length_append]
 lia
theorem Eh {prog:Program}{w:World}{A:Around}{E:Value→Shared→Prop}{s:Shared}{t sl:Addr}{items:Array Value}{vl vu:Value}{lo hi:Option Int}{Q:Value→Shared→Prop}
  (ht:IsTup s.heap t items) (hs:s.heap.IsSliceOf sl vl vu .none) (pl:IsPart vl lo) (pu:IsPart vu hi)
  (h1:HT.sIx items.size 0 lo=0) (h2:HT.sIx items.size items.size hi=items.size) (h:Q (.ref t) s):wpAny (model prog w) A (getItem (.ref t) (.ref sl)) Q E s:=by
 obtain⟨os,hos,hcs,hds⟩:=id hs
 have hTs:s.TypeIs (.ref sl) "slice":=⟨os,hos,hcs⟩
 unfold getItem
 try with_reducible refine wpAny_holding ?_
 first | refine wpAny_bind (wpAny_pure ?_) | skip
 refine wpAny_bind (wpAny_sequenceKey ht.typeIs (by decide) ?_)
 refine wpAny_bind (wpAny_callSpecial?_slot (name:=Str.ofString "__getitem__") ht.typeIs PyProof.Rows.slot_tuple_getitem
  (wpAny_call_entry PyProof.Rows.slot_tuple_getitem ht.typeIs entry_tuple_getitem ?_ (args_tuple_getitem _ _)))
 show wpAny _ _ (Builtin.Tuple.tupleItemsOf (.ref t) >>= _) _ _ s
 refine wpAny_bind (tupleItemsOf_ ht ?_)
 refine wpAny_bind (wpAny_typeOf hTs ?_)
 rw [if_pos (by decide)]
 refine wpAny_bind (HT.wu hs pl pu ?_)
 have hyes:(((HT.sIx items.size 0 lo:Nat):Int) == 0 && (1:Int) == 1 && (HT.sIx items.size items.size hi - HT.sIx items.size 0 lo) == items.size)=true:=by
  rw [h1,h2]
  simp
 show wpAny _ _ (if (((HT.sIx items.size 0 lo:Nat):Int) == 0 && (1:Int) == 1 && (HT.sIx items.size items.size hi - HT.sIx items.size 0 lo) == items.size)=true then _ else _) _ _ s
 rw [if_pos hyes]
 unfold Builtin.Tuple.tupleIsExact
 refine wpAny_bind (wpAny_bind (wpAny_typeOf ht.typeIs (wpAny_pure ?_)))
 rw [if_pos (by decide)]
 refine wpAny_bind (wpAny_rule ?_)
 exact wpAny_pure ⟨_,rfl,wpAny_pure h⟩
def aiY (K:PySem.W.Frag):V→Option Int→Option Int→Hp→VK→Prop:=fun x lo hi H Q=>∃ a xs,x=.ref a∧SqT K H a xs ∧
 HT.sIx xs.length 0 lo=0∧HT.sIx xs.length xs.length hi=xs.length∧Q (.ref a) H
theorem aeU:SlR X (aiY X.K):=by
 intro pins s σ H x v vl vu lo hi sl Q I rx hs pl pu h
 obtain⟨a,xs,rfl,hx,w1,w2,q⟩:=h
 cases rx
 obtain⟨its,r,ht,hz⟩:=I.tuple hx
 have hlen:its.toArray.size=xs.length:=by rw [List.size_toArray]; exact r.length.symm
 refine⟨"tuple",_,PyProof.Rows.slot_tuple_getitem.lookup,ht.typeIs,?_⟩
 exact Eh ht hs pl pu (by rw [hlen]; exact w1) (by rw [hlen]; exact w2) ⟨.ref a,H,I,rfl,q⟩
def Zz (K:PySem.W.Frag):V→Option Int→Option Int→Hp→VK→Prop:=fun x lo hi H Q=>∃ a xs,x=.ref a∧SqT K H a xs∧∀ p H',Same H H'→SqT K H' p (pC xs lo hi)→Q (.ref p) H'
theorem aav {xs:List V}{lo hi:Option Int} (h1:HT.sIx xs.length 0 lo=0) (h2:HT.sIx xs.length xs.length hi=xs.length):pC xs lo hi=xs:=by
 unfold pC
 rw [h1,h2]
 simp
theorem HS:SlR X (Zz X.K):=by
 intro pins s σ H x v vl vu lo hi sl Q I rx hs pl pu h
 obtain⟨a,xs,rfl,hx,q⟩:=h
 by_cases hw:HT.sIx xs.length 0 lo=0∧HT.sIx xs.length xs.length hi=xs.length
 ·exact aeU pins s σ H _ v vl vu lo hi sl Q I rx hs pl pu ⟨a,xs,rfl,hx,hw.1,hw.2,q a H (Same.refl H) (by rw [aav hw.1 hw.2]; exact hx)⟩
 ·exact agg pins s σ H _ v vl vu lo hi sl Q I rx hs pl pu ⟨a,xs,rfl,hx,hw,fun p hp=>q p _ (same_new hp _) (SqT.of upd_same)⟩
theorem Xz:CallR X (.builtin "isinstance") (fun xs H Q=>∃ x T t b,xs=[x,.ty T]∧TyOf X.K H x t∧PySem.W.kitOne X.K t (.type T)=some b∧Q (.bl b) H):=by
 intro pins s σ H xs us Q I r h
 obtain⟨x,T,t,b,rfl,ty,e,q⟩:=h
 obtain⟨u,w',rfl,r1,r2⟩:=vals2 r
 cases r2
 exact Rw I r1 ty e fun tk=>⟨.bl b,H,I.tok tk,rfl,q⟩
theorem GK:CallR X (.builtin "isinstance") (fun xs H Q=>∃ a ys T b,xs=[.ref a,.ty T]∧SqT X.K H a ys∧PySem.W.kitOne X.K (.type "tuple") (.type T)=some b∧Q (.bl b) H):=by
 intro pins s σ H xs us Q I r h
 obtain⟨a,ys,T,b,rfl,hq,e,q⟩:=h
 obtain⟨u,w',rfl,r1,r2⟩:=vals2 r
 cases r1
 cases r2
 obtain⟨its,_,⟨o,h1,h2,_⟩,_⟩:=I.tuple hq
 exact PySem.W.kia_one PySem.W.kitx_tuple I.kIn ⟨o,h1,h2⟩ e (fun z=>nomatch z) fun tk=>⟨.bl b,H,I.tok tk,rfl,q⟩
end
mutual
def TR (K:PySem.W.Frag) (H:Hp):T→V→Prop
 | .node ts,x=>∃ a xs,x=.ref a∧SqT K H a xs∧TRs K H ts xs
def TRs (K:PySem.W.Frag) (H:Hp):List T→List V→Prop
 | [],xs=>xs=[]
 | t::ts,xs=>∃ x r,xs=x::r∧TR K H t x∧TRs K H ts r
end
section
variable {K:PySem.W.Frag}{H H':Hp}
theorem cQ {ts:List T}{x:V}:TR K H (.node ts) x↔∃ a xs,x=.ref a∧SqT K H a xs∧TRs K H ts xs:=by rw [TR]
theorem bM {xs:List V}:TRs K H [] xs↔xs=[]:=by rw [TRs]
theorem cL {t:T}{ts:List T}{xs:List V}:TRs K H (t::ts) xs↔∃ x r,xs=x::r∧TR K H t x∧TRs K H ts r:=by rw [TRs]
theorem Nu {t:T}{x:V} (h:TR K H t x):∃ a xs,x=.ref a∧SqT K H a xs∧TRs K H t.kids xs:=by
 cases t with
 | node ts=>exact cQ.mp h
theorem vO {ts:List T}{a:Addr}{xs:List V} (h:SqT K H a xs) (q:TRs K H ts xs):TR K H (.node ts) (.ref a):=cQ.mpr ⟨a,xs,rfl,h,q⟩
mutual
theorem TR.mono (S:Kt H H'):∀ {t:T}{x:V},TR K H t x→TR K H' t x
 | .node ts,x,h=>by
  obtain⟨a,xs,e,h1,h2⟩:=cQ.mp h
  exact cQ.mpr ⟨a,xs,e,cO S h1,TRs.mono S h2⟩
theorem TRs.mono (S:Kt H H'):∀ {ts:List T}{xs:List V},TRs K H ts xs→TRs K H' ts xs
 | [],xs,h=>by rw [bM] at h ⊢; exact h
 | t::ts,xs,h=>by
  obtain⟨x,r,e,h1,h2⟩:=cL.mp h
  exact cL.mpr ⟨x,r,e,TR.mono S h1,TRs.mono S h2⟩
end
theorem TRs.length:∀ {ts:List T}{xs:List V},TRs K H ts xs→xs.length=ts.length
 | [],xs,h=>by rw [bM] at h; rw [h]; rfl
 | t::ts,xs,h=>by
  obtain⟨x,r,e,h1,h2⟩:=cL.mp h
  rw [e,List.length_cons,List.length_cons,TRs.length h2]
theorem TRs.append:∀ {ts us:List T}{xs ys:List V},TRs K H ts xs→TRs K H us ys→TRs K H (ts++us) (xs++ys)
 | [],us,xs,ys,h,g=>by rw [bM] at h; rw [h]; exact g
 | t::ts,us,xs,ys,h,g=>by
  obtain⟨x,r,e,h1,h2⟩:=cL.mp h
  rw [e]
  exact cL.mpr ⟨x,r++ys,rfl,h1,TRs.append h2 g⟩
theorem TRs.get:∀ {ts:List T}{xs:List V},TRs K H ts xs→∀ {i:Nat}{x:V},xs[i]?=some x→∃ t,ts[i]?=some t∧TR K H t x
 | [],xs,h,i,x,e=>by rw [bM] at h; rw [h] at e; simp at e
 | t::ts,xs,h,i,x,e=>by
  obtain⟨y,r,rfl,h1,h2⟩:=cL.mp h
  cases i with
  | zero=>exact⟨t,rfl,by have e':y=x:=(by simpa using e);rw [← e']; exact h1⟩
  | succ i=>exact TRs.get h2 (i:=i) (by simpa using e)
theorem TRs.take:∀ (n:Nat) {ts:List T}{xs:List V},TRs K H ts xs→TRs K H (ts.take n) (xs.take n)
 | 0,ts,xs,h=>by rw [List.take_zero,List.take_zero,bM]
 | n+1,[],xs,h=>by rw [bM] at h; rw [h]; exact bM.mpr rfl
 | n+1,t::ts,xs,h=>by
  obtain⟨x,r,rfl,h1,h2⟩:=cL.mp h
  exact cL.mpr ⟨x,r.take n,rfl,h1,TRs.take n h2⟩
theorem TRs.drop:∀ (n:Nat) {ts:List T}{xs:List V},TRs K H ts xs→TRs K H (ts.drop n) (xs.drop n)
 | 0,ts,xs,h=>h
 | n+1,[],xs,h=>by rw [bM] at h; rw [h]; exact bM.mpr rfl
 | n+1,t::ts,xs,h=>by
  obtain⟨x,r,rfl,h1,h2⟩:=cL.mp h
  exact TRs.drop n h2
theorem TRs.dropLast {ts:List T}{xs:List V} (h:TRs K H ts xs):TRs K H ts.dropLast xs.dropLast:=by
 rw [List.dropLast_eq_take,List.dropLast_eq_take,h.length]
 exact h.take _
end
section
variable {X:Cx}{pins:List (Addr×Obj)}{σ:Sg}{H:Hp}{s:Shared}
theorem abf (I:Inv X pins σ H s):∀ (n:Nat),(∀ (t u:T) (x:V),t.parts≤n→TR X.K H t x→TR X.K H u x→t=u)∧(∀ (ts us:List T) (xs:List V),T.aD ts≤n→TRs X.K H ts xs→TRs X.K H us xs→ts=us)
 | 0=>⟨fun t u x h _ _=>absurd (T.g_ t) (by lia),fun ts us xs h q r=>by
   have h1:=T.cV ts
   have h2:=q.length
   have h3:=r.length
   have e1:ts=[]:=List.length_eq_zero_iff.mp (by lia)
   have e2:us=[]:=List.length_eq_zero_iff.mp (by lia)
   rw [e1,e2]⟩
 | n+1=>by
  have ih:=abf I n
  have A:∀ (t u:T) (x:V),t.parts≤n+1→TR X.K H t x→TR X.K H u x→t=u:=fun t u x h q r=>by
   cases t with
   | node ts =>
    cases u with
    | node us =>
     obtain⟨a,xs,e1,q1,q2⟩:=cQ.mp q
     obtain⟨b,ys,e2,r1,r2⟩:=cQ.mp r
     rw [e1] at e2
     cases e2
     have:=I.uN q1 r1
     subst this
     rw [T.aM] at h
     rw [ih.2 ts us xs (by lia) q2 r2]
  refine⟨A,fun ts us xs h q r=>?_⟩
  cases ts with
  | nil =>
   rw [bM] at q
   subst q
   have:=r.length
   exact (List.length_eq_zero_iff.mp (by simpa using this.symm)).symm
  | cons t ts =>
   obtain⟨x,r',rfl,q1,q2⟩:=cL.mp q
   cases us with
   | nil=>rw [bM] at r; cases r
   | cons u us =>
    obtain⟨x2,r2',e,r1,r2⟩:=cL.mp r
    cases e
    rw [T.aF] at h
    have h1:=T.g_ t
    rw [A t u x (by lia) q1 r1,ih.2 ts us r' (by lia) q2 r2]
def vM (ts us:List T) (j:Nat):Bool:=match ts[j]?,us[j]? with
 | some t,some u=>T.beq t u
 | _,_=>false
theorem Df:∀ ts us:List T,((List.range (min ts.length us.length)).all (vM ts us) && ts.length == us.length)=T.vB ts us
 | [],[]=>by simp [T.vB]
 | [],u::us=>by simp [T.vB]
 | t::ts,[]=>by simp [T.vB]
 | t::ts,u::us=>by
  have ih:=Df ts us
  have e:min (t::ts).length (u::us).length=min ts.length us.length+1:=by simp only [List.length_cons]; lia
  rw [e,List.range_succ_eq_map,List.all_cons,List.all_map]
  have e2:(vM (t::ts) (u::us)∘Nat.succ)=vM ts us:=by
   funext j
   simp [vM]
  have e3:vM (t::ts) (u::us) 0=T.beq t u:=rfl
  have e4:((t::ts).length == (u::us).length)=(ts.length == us.length):=by simp
  rw [e2,e3,e4,Bool.and_assoc,ih]
  rw [T.vB]
theorem ae4 (I:Inv X pins σ H s):∀ (n:Nat) (t u:T) (A:Around) (a b:Addr),t.deep≤n→TR X.K H t (.ref a)→TR X.K H u (.ref b)→A.units+n<cLine→SeqAt.RcAt A s (.ref a) (.ref b) (T.beq t u):=by
 intro n
 induction n with
 | zero =>
  intro t u A a b hd q r hu
  cases t with
  | node ts =>
   cases u with
   | node us =>
    obtain⟨a',xs,e1,q1,q2⟩:=cQ.mp q
    cases e1
    obtain⟨b',ys,e2,r1,r2⟩:=cQ.mp r
    cases e2
    rw [T.aP] at hd
    have hts:ts=[]:=by
     cases ts with
     | nil=>rfl
     | cons t ts=>rw [T.aO] at hd; lia
    subst hts
    rw [bM] at q2
    subst q2
    obtain⟨its,rv,ht,_⟩:=I.tuple q1
    obtain⟨its2,rv2,ht2,_⟩:=I.tuple r1
    have h0:=rv.length
    have h2:=rv2.length
    have h3:=r2.length
    have key:=SeqAt.RcAt.tuples (A:=A) (e:=fun _=>true) ht ht2 (by lia) (fun j j1 _=>absurd j1 (by rw [List.size_toArray,← h0]; simp))
    have ev:((List.range (min its.toArray.size its2.toArray.size)).all (fun _=>true) && its.toArray.size == its2.toArray.size)=T.beq (.node []) (.node us):=by
     rw [List.size_toArray,List.size_toArray,← h0,← h2,h3,T.beq,← Df]
     simp
    rw [ev] at key
    exact key
 | succ n ih =>
  intro t u A a b hd q r hu
  cases t with
  | node ts =>
   cases u with
   | node us =>
    obtain⟨a',xs,e1,q1,q2⟩:=cQ.mp q
    cases e1
    obtain⟨b',ys,e2,r1,r2⟩:=cQ.mp r
    cases e2
    rw [T.aP] at hd
    obtain⟨its,rv,ht,_⟩:=I.tuple q1
    obtain⟨its2,rv2,ht2,_⟩:=I.tuple r1
    have l1:=rv.length
    have l2:=rv2.length
    have l3:=q2.length
    have l4:=r2.length
    have key:=SeqAt.RcAt.tuples (A:=A) (e:=vM ts us) ht ht2 (by lia) (fun j j1 j2=>?_)
    ·have ev:((List.range (min its.toArray.size its2.toArray.size)).all (vM ts us) && its.toArray.size == its2.toArray.size)=T.beq (.node ts) (.node us):=by
      rw [List.size_toArray,List.size_toArray,← l1,← l2,l3,l4,T.beq,← Df]
     rw [ev] at key
     exact key
    ·have j1':j<xs.length:=by rw [l1]; simpa using j1
     have j2':j<ys.length:=by rw [l2]; simpa using j2
     obtain⟨u1,hu1,ru1⟩:=rv.get (List.getElem?_eq_getElem j1')
     obtain⟨u2,hu2,ru2⟩:=rv2.get (List.getElem?_eq_getElem j2')
     obtain⟨t1,ht1,tr1⟩:=q2.get (List.getElem?_eq_getElem j1')
     obtain⟨t2,am0,tr2⟩:=r2.get (List.getElem?_eq_getElem j2')
     have ee:vM ts us j=T.beq t1 t2:=by unfold vM; rw [ht1,am0]
     have g1:its.toArray[j]=u1:=by
      have:its[j]?=some u1:=hu1
      rw [List.getElem?_eq_some_iff] at this
      obtain⟨_,e⟩:=this
      simpa using e
     have g2:its2.toArray[j]=u2:=by
      have:its2[j]?=some u2:=hu2
      rw [List.getElem?_eq_some_iff] at this
      obtain⟨_,e⟩:=this
      simpa using e
     rw [ee,g1,g2]
     obtain⟨a1,zs1,e1,_⟩:=Nu tr1
     obtain⟨a2,zs2,e2,_⟩:=Nu tr2
     rw [e1] at ru1 tr1
     rw [e2] at ru2 tr2
     obtain rfl:u1=Value.ref a1:=ru1
     obtain rfl:u2=Value.ref a2:=ru2
     by_cases hne:a1=a2
     ·subst hne
      have et:t1=t2:=(abf I t1.parts).1 t1 t2 _ (Nat.le_refl _) tr1 tr2
      rw [et,T.aei]
      exact SeqAt.EqAt.same _
     ·have hd1:t1.deep≤n:=by
       have:=T.wW (List.mem_of_getElem? ht1)
       lia
      exact SeqAt.EqAt.of_refs hne (ih t1 t2 A.in1 a1 a2 hd1 tr1 tr2 (by rw [Around.in1_units]; lia))
end
section
variable {X:Cx}
def ai1 (K:PySem.W.Frag) (n:Nat):R2:=fun x y H Q=>∃ t u,TR K H t x∧TR K H u y∧t.deep≤n∧Q (.bl (T.beq t u)) H
theorem Yz {n:Nat} (hu:X.A.units+n<cLine):OpR X (compareOp .Eq) (ai1 X.K n):=by
 intro pins s σ H x y v u Q I rx ry h
 obtain⟨t,t',h1,h2,hd,q⟩:=h
 obtain⟨a,xs,e1,_⟩:=Nu h1
 obtain⟨b,ys,e2,_⟩:=Nu h2
 subst e1 e2
 cases rx
 cases ry
 exact ae4 I n t t' X.A a b hd h1 h2 hu _ _ _ _ ⟨.bl _,H,I,rfl,q⟩
end
section
variable {X:Cx}{K:PySem.W.Frag}
end
theorem aeT {K:PySem.W.Frag}{H:Hp}{a D:Addr}{xs:List V}{o:HO} (h:SqL K H a xs) (hD:H D=none):SqL K (upd H D o) a xs:=(same_new hD o).seq h
theorem afG {K:PySem.W.Frag}{H:Hp}{a:Addr}{xs:List V}{σ:Sg}{js:List Nat}{te:TE}{Q:VK} (Pr:Nat→V→Prop) (hl:SqL K H a xs) (hz:xs.length≤sizeLine)
  (hte:∀ (i:Nat) (x:V) (H':Hp) (R:VK),xs[i]?=some x→Same H H'→(∀ y,Pr i y→R y H')→te (some x::frv σ js) H' R)
  (q:∀ (D:Addr) (ys:List V),H D=none→ys.length=xs.length→(∀ i y,ys[i]?=some y→Pr i y)→Q (.ref D) (upd H D (.lst ys))) :
  yQ (Itl K a) js te σ Q H:=by
 intro D hD
 refine⟨fun i m ys H'=>m=xs.length - i∧i≤xs.length∧ys.length=i∧(∀ j y,ys[j]?=some y→Pr j y)∧H'=upd H D (.lst ys),⟨xs.length,by lia,Nat.zero_le _,rfl,fun j y e=>by simp at e,rfl⟩,?_⟩
 rintro i m ys H' ⟨rfl,hi,hly,hp,rfl⟩
 refine⟨upd_same,?_⟩
 have hl':=aeT (o:=.lst ys) hl hD
 by_cases hlt:i<xs.length
 ·refine .inr ⟨⟨xs,xs[i],hl',List.getElem?_eq_getElem hlt⟩,fun x H2 y=>?_⟩
  obtain⟨e,y⟩:=y
  subst e
  refine hte i x _ _ (y xs hl') (same_new hD _) fun y py=>⟨upd_same,by lia,xs.length - (i+1),by lia,rfl,by lia,by simp [hly],fun j z e=>?_,by rw [Ob]⟩
  by_cases hj:j<ys.length
  ·rw [List.getElem?_append_left hj] at e
   exact hp j z e
  ·rw [List.getElem?_append_right (by lia)] at e
   have:j - ys.length=0:=by
    rcases Nat.eq_zero_or_pos (j - ys.length) with h | h
    ·exact h
    ·rw [List.getElem?_eq_none (by simp; lia)] at e; cases e
   rw [this] at e
   have e':y=z:=by simpa using e
   have ej:j=i:=by lia
   rw [← e',ej]
   exact py
 ·have ei:i=xs.length:=by lia
  exact .inl ⟨⟨xs,hl',by lia⟩,q D ys hD (by lia) hp⟩
end Sw
namespace SwR
open PySem PySem.Spec PyProof.Rows L2 Sw
theorem Ak:Slot "reversed" "__next__" "reversed.__next__":=.of (owner:="reversed") (n:="__next__") (by rw [typeLookup_type,builtinLookup_eq_fast]; kernel_rfl) (by decide +kernel) (by decide +kernel) (by decide +kernel) (by first | exact .inl (by decide +kernel) | exact .inr (by decide +kernel)) (by rw [isSubtype_type]; kernel_rfl)
theorem YW:entryFor table "reversed.__next__"=some Builtin.«reversed.__next__»:=entryFor_of_tree (by kernel_rfl)
theorem Y6 (a:Value):argsOk "reversed.__next__" ⟨[a],[]⟩:=by unfold argsOk; kernel_rfl
theorem Yp:Slot "reversed" "__iter__" "reversed.__iter__":=.of (owner:="reversed") (n:="__iter__") (by rw [typeLookup_type,builtinLookup_eq_fast]; kernel_rfl) (by decide +kernel) (by decide +kernel) (by decide +kernel) (by first | exact .inl (by decide +kernel) | exact .inr (by decide +kernel)) (by rw [isSubtype_type]; kernel_rfl)
theorem af2 (a:Value):argsOk "reversed.__iter__" ⟨[a],[]⟩:=by unfold argsOk; kernel_rfl
theorem afR:entryFor table "reversed.__iter__"=some Builtin.«dict_keyiterator.__iter__»:=entryFor_alias (id':="dict_keyiterator.__iter__") (by kernel_rfl) (by first | rfl | decide +kernel) (by decide +kernel) (by kernel_rfl)
theorem Ow:Slot "reversed" "__length_hint__" "reversed.__length_hint__":=.of (owner:="reversed") (n:="__length_hint__") (by rw [typeLookup_type,builtinLookup_eq_fast]; kernel_rfl) (by decide +kernel) (by decide +kernel) (by decide +kernel) (by first | exact .inl (by decide +kernel) | exact .inr (by decide +kernel)) (by rw [isSubtype_type]; kernel_rfl)
theorem afS:entryFor table "reversed.__length_hint__"=some Builtin.«reversed.__length_hint__»:=entryFor_of_tree (by kernel_rfl)
theorem af3 (a:Value):argsOk "reversed.__length_hint__" ⟨[a],[]⟩:=by unfold argsOk; kernel_rfl
theorem ag5:typeLookup (.type "reversed") "__len__"=pure none:=by rw [typeLookup_type,builtinLookup_eq_fast]; kernel_rfl
theorem aeW:Slot "reversed" "__init__" "object.__init__":=.of (owner:="object") (n:="__init__") (by rw [typeLookup_type,builtinLookup_eq_fast]; kernel_rfl) (by decide +kernel) (by decide +kernel) (by decide +kernel) (by first | exact .inl (by decide +kernel) | exact .inr (by decide +kernel)) (by rw [isSubtype_type]; kernel_rfl)
theorem abd:typeLookup (.type "tuple") "__reversed__"=pure none:=by rw [typeLookup_type,builtinLookup_eq_fast]; kernel_rfl
theorem aaz:TypeCalled "reversed" "reversed.__new__" "object.__init__" :=
 ⟨by decide +kernel,by decide +kernel,⟨_,_,F.mro_reversed⟩,F.made_reversed,by decide +kernel,by rw [isSubtype_type]; kernel_rfl,aeW⟩
def RvO (h:Heap) (p a:Addr) (i:Int):Prop:=∃ o,h.get? p=some o∧o.cls=.type "reversed"∧o.data=.fields #[.ref a,rawInt i]
theorem RvO.typeIs {s:Shared}{p a:Addr}{i:Int} (x:RvO s.heap p a i):s.TypeIs (.ref p) "reversed":=let ⟨o,ho,hc,_⟩:=x; ⟨o,ho,hc⟩
section
variable {prog:Program}{w:World}{A:Around}{E:Value→Shared→Prop}{s:Shared}
theorem next_item {it a:Addr}{i:Nat}{items:Array Value}{x:Value}{Q:Option Value→Shared→Prop} (hit:RvO s.heap it a (i:Int)) (ht:IsTup s.heap a items) (hx:items[i]?=some x) (hz:items.size≤sizeLine) (hne:a≠it)
  (hQ:∀ h' tk,RvO h' it a ((i:Int) - 1)→Heap.SameBut it s.heap h'→Q (some x) { s with heap:=h',toks:=tk }):wpAny (model prog w) A (pyNext (.ref it)) Q E s:=by
 obtain⟨o,ho,hc,hd⟩:=id hit
 unfold pyNext
 refine wpAny_bind (wpAny_attempt (wpAny_callSpecial?_slot (name:=Str.ofString "__next__") hit.typeIs Ak (wpAny_call_entry Ak hit.typeIs YW ?_ (Y6 _))))
 unfold Builtin.«reversed.__next__»
 refine wpAny_bind (wpAny_of_eq (a:=(Value.ref it,[])) rfl ?_)
 dsimp only
 refine wpAny_bind (wpAny_field ho hd (x:=.ref a) rfl ?_)
 refine wpAny_bind (wpAny_field ho hd (x:=rawInt (i:Int)) rfl ?_)
 show wpAny _ _ (if (i:Int)<0 then _ else _) _ _ s
 rw [if_neg (by lia)]
 refine wpAny_bind (wpAny_specialOf ht.typeIs PyProof.Rows.slot_tuple_getitem.lookup ?_)
 rw [if_neg (by decide)]
 have hi:i<items.size:=(Array.getElem?_eq_some_iff.mp hx).1
 have hl:sizeLine=16777216:=sizeLine_eq
 refine wpAny_bind (wpAny_mkInt ?_)
 refine wpAny_bind (wpAny_attempt (getItem_tuple (j:=i) ht (by lia) (by lia) (by rw [seqIndex_of (by lia) (by lia)]; rfl) hx ?_))
 dsimp only
 refine wpAny_bind (wpAny_field ho hd (x:=rawInt (i:Int)) rfl ?_)
 refine wpAny_bind (wpAny_setField ho hd (by simp) ?_)
 refine wpAny_pure ⟨x,rfl,wpAny_pure (hQ _ _ ?_ (Heap.SameBut.update ..))⟩
 exact⟨_,Heap.get?_update_self _ ho (Obj.isFreed_of_fields (Obj.data_mapFields hd _)),(Obj.cls_mapFields ..).trans hc,by rw [Obj.data_mapFields hd]; simp⟩
theorem next_end {it a:Addr}{Q:Option Value→Shared→Prop} (hh:A.handled=none) (hit:RvO s.heap it a (-1))
  (hQ:∀ h',Heap.ExtBut it s.heap h'→Q none { s with heap:=h' }):wpAny (model prog w) A (pyNext (.ref it)) Q E s:=by
 obtain⟨o,ho,hc,hd⟩:=id hit
 unfold pyNext
 refine wpAny_bind (wpAny_attempt (wpAny_callSpecial?_slot (name:=Str.ofString "__next__") hit.typeIs Ak (wpAny_call_entry Ak hit.typeIs YW ?_ (Y6 _))))
 unfold Builtin.«reversed.__next__»
 refine wpAny_bind (wpAny_of_eq (a:=(Value.ref it,[])) rfl ?_)
 dsimp only
 refine wpAny_bind (wpAny_field ho hd (x:=.ref a) rfl ?_)
 refine wpAny_bind (wpAny_field ho hd (x:=rawInt (-1)) rfl ?_)
 show wpAny _ _ (if (-1:Int)<0 then _ else _) _ _ s
 rw [if_pos (by decide)]
 refine wpAny_bind (wpAny_rule ?_)
 have e1:=Heap.get?_update_self (Obj.mapFields fun vs=>vs.setIfInBounds 1 (rawInt (-1))) ho (Obj.isFreed_of_fields (Obj.data_mapFields hd _))
 refine wpAny_bind (wpAny_bind (wpAny_setField ho hd (by simp) ?_))
 refine wpAny_setField e1 (Obj.data_mapFields hd _) (by simp) ?_
 refine wpAny_bind ?_
 unfold Builtin.SmallTypes.stopIteration
 refine wpAny_bind ?_
 simp only [newExc,newTuple]
 refine wpAny_bind (wpAny_newObj_type ?_ (by size_fits)); refine wpAny_bind (m:=firstArgMember _ _) (wpAny_of_eq (a:=Value.none) (by first | rfl | (simp only [firstArgMember]; rfl)) ?_); refine wpAny_newObj_type ?_ (by size_fits)
 simp only [raiseNew]; refine wpAny_bind (wpAny_handled ?_)
 first | rw [show A.in1.handled=none from hh] | rw [hh]
 refine wpAny_bind (wpAny_pure (wpAny_throw ?_)); refine wpAny_bind (wpAny_isInstance (T:="StopIteration") (b:=true) ⟨_,Heap.get?_push_size _ rfl,rfl⟩ isSubtype_stop (wpAny_pure (hQ _ ?_)))
 intro b ob hb e
 refine Heap.get?_push_of_some _ (Heap.get?_push_of_some _ ?_)
 exact (Heap.get?_update_other _ _ (Ne.symm hb)).trans ((Heap.get?_update_other _ _ (Ne.symm hb)).trans e)
theorem yL {it a:Addr}{i:Int}{Q:Value→Shared→Prop} (hit:RvO s.heap it a i) (h:Q (.ref it) s):wpAny (model prog w) A (pyIter (.ref it)) Q E s:=by
 refine wpAny_pyIter_slot hit.typeIs Yp (wpAny_call_entry Yp hit.typeIs afR ?_ (af2 _))
 show wpAny _ _ (ret (.ref it)) _ _ s
 exact wpAny_pure ⟨_,rfl,"reversed",_,hit.typeIs,Ak.lookup,h⟩
theorem RvO.keep {h h':Heap}{p a:Addr}{i:Int} (x:RvO h p a i) (e:∀ o,h.get? p=some o→h'.get? p=some o):RvO h' p a i:=let ⟨o,ho,r⟩:=x; ⟨o,e _ ho,r⟩
theorem Bq {h h':Heap}{a:Addr}{items:Array Value} (x:IsTup h a items) (e:∀ o,h.get? a=some o→h'.get? a=some o):IsTup h' a items:=let ⟨o,ho,r⟩:=x; ⟨o,e _ ho,r⟩
end
theorem aa5 {prog:Program}{w:World}{A:Around} (hh:A.handled=none) (I a:Addr) (hne:a≠I) (items:Array Value) (hz:items.size≤sizeLine) :
  Walks prog w A I [I,a] [I] items.size (fun i v=>items[items.size - 1 - i]?=some v) (fun i h=>i≤items.size∧RvO h I a ((items.size:Int) - 1 - (i:Int))∧IsTup h a items) where
 sub:=fun b hb=>by simp at hb; simp [hb]
 frame:=fun _ _ _ x hk=>⟨x.1,x.2.1.keep fun o e=>hk I (by simp) o e,Bq x.2.2 fun o e=>hk a (by simp) o e⟩
 item:=fun i s Q E hi x hQ=>by
  obtain⟨_,hit,ht⟩:=x
  have e:(items.size:Int) - 1 - (i:Int)=((items.size - 1 - i:Nat):Int):=by lia
  rw [e] at hit
  have hx:items[items.size - 1 - i]?=some (items[items.size - 1 - i]'(by lia)):=Array.getElem?_eq_getElem (by lia)
  refine next_item hit ht hx hz hne fun h' tk hit' hs'=>hQ _ h' tk hx ⟨by lia,?_,Bq ht fun o eo=>(hs'.2 a hne).trans eo⟩ fun b o hb eo=>hs'.extBut b o (fun z=>hb (by simp [z])) eo
  have e2:((items.size - 1 - i:Nat):Int) - 1=(items.size:Int) - 1 - ((i+1:Nat):Int):=by lia
  rw [← e2]
  exact hit'
 done:=fun s Q E x hQ=>by
  obtain⟨_,hit,ht⟩:=x
  have e:(items.size:Int) - 1 - (items.size:Int)=-1:=by lia
  rw [e] at hit
  exact next_end hh hit fun h' he'=>hQ h' s.toks fun b o hb eo=>he' b o (fun z=>hb (by simp [z])) eo
 self:=fun _ _ _ _ x hQ=>yL x.2.1 hQ
section
variable {prog:Program}{w:World}{A:Around}{E:Value→Shared→Prop}{s:Shared}
theorem RD (k:Int) (u:Tok):asInt? (.int k u)=pure (some k):=rfl
theorem aco {it a:Addr}{items:Array Value}{Q:Value→Shared→Prop} (hit:RvO s.heap it a ((items.size:Int) - 1)) (ht:IsTup s.heap a items) (hz:items.size≤sizeLine)
  (hQ:∀ t tk,s.toks≤tk→Q (.int (items.size:Int) t) { s with toks:=tk }):wpAny (model prog w) A (call (.builtin "reversed.__length_hint__") [.ref it]) Q E s:=by
 obtain⟨o,ho,hc,hd⟩:=id hit
 have hl:sizeLine=16777216:=sizeLine_eq
 refine wpAny_call_entry Ow hit.typeIs afS ?_ (af3 _)
 unfold Builtin.«reversed.__length_hint__»
 refine wpAny_bind (wpAny_of_eq (a:=Value.ref it) rfl ?_)
 refine wpAny_bind (wpAny_field ho hd (x:=.ref a) rfl ?_)
 rw [if_neg (show ¬ ((Value.ref a == Value.none)=true) from Bool.false_ne_true)]
 refine wpAny_bind (len_tuple ht (by lia) ?_)
 refine wpAny_bind (m:=asInt? (.int (items.size:Int) (s.toks+1))) (wpAny_pure ?_)
 dsimp only
 refine wpAny_bind (wpAny_field ho hd (x:=rawInt ((items.size:Int) - 1)) rfl ?_)
 show wpAny _ _ (if (items.size:Int)<((items.size:Int) - 1)+1 then _ else retInt (((items.size:Int) - 1)+1)) _ _ _
 rw [if_neg (by lia),show ((items.size:Int) - 1)+1=(items.size:Int) by lia]
 unfold retInt
 refine wpAny_bind (wpAny_mkInt (wpAny_pure ⟨_,rfl,hQ _ _ ?_⟩))
 show s.toks≤s.toks+1+1+1
 lia
theorem Zy {it a S:Addr}{items:Array Value}{c₀:Nat}{R:Result→Shared→Prop} (hh:A.handled=none) (hit:RvO s.heap it a ((items.size:Int) - 1)) (ht:IsTup s.heap a items) (hz:items.size≤sizeLine)
  (hai:a≠it) (hSi:S≠it) (hSa:S≠a) (hS:s.heap.get? S=some { cls:=.type "list",data:=.seq #[] c₀ })
  (hR:∀ h' tk acc' c',(∀ b o,b≠S→b≠it→s.heap.get? b=some o→h'.get? b=some o)→h'.get? S=some { cls:=.type "list",dict:=none,data:=.seq acc' c',slots:=#[] } →
   ItemsOf (fun i v=>items[items.size - 1 - i]?=some v) acc' items.size→R (.ok (.ret .none)) { s with heap:=h',toks:=tk }) :
  wpAny (model prog w) A.in1 (Builtin.List.listExtendWith (.ref S) (.ref it) .none)
   (fun fin s'=>match fin with | .done f=>R (.ok f) s' | .again c'=>c'.quiet=true∧codeAny (model prog w) A c' R s') (fun e s'=>R (.error e) s') s:=by
 have hl:sizeLine=16777216:=sizeLine_eq
 have h1:Builtin.List.listSameRef (.ref S) (.ref it)=false:=by simp [Builtin.List.listSameRef,hSi]
 unfold Builtin.List.listExtendWith
 refine wpAny_bind (wpAny_typeOf hit.typeIs ?_)
 rw [if_neg (by rw [h1]; decide)]
 refine wpAny_bind (yL hit ?_)
 refine wpAny_bind (wpAny_holding ?_)
 unfold Builtin.List.listLengthHint
 refine wpAny_bind (wpAny_specialOf hit.typeIs ag5 ?_)
 show wpAny _ A.in1 (specialOf (Value.ref it) (Str.ofString "__length_hint__") >>= _) _ _ _
 refine wpAny_bind (wpAny_specialOf hit.typeIs Ow.lookup ?_)
 (generalize hid:("reversed.__length_hint__":String)=id0; (fail_if_success (clear hid id0)); wp_delta; rw [show splitId id0=some ("reversed","__length_hint__") from by subst hid; decide +kernel]; subst hid)
 refine wpAny_bind (wpAny_isInstance (b:=true) hit.typeIs (by rw [isSubtype_type]; kernel_rfl) ?_)
 rw [if_neg (by decide)]
 dsimp only
 rw [if_neg (by decide)]
 refine wpAny_bind (wpAny_rule ?_)
 refine wpAny_bind (wpAny_of_eq (Ow.bind _) ?_)
 dsimp only
 refine wpAny_bind (wpAny_attempt (aco hit ht hz fun t tk htk=>?_))
 dsimp only
 rw [RD,pure_bind]
 dsimp only
 have hf:Builtin.List.listFitsIndex (items.size:Int)=true:=by
  unfold Builtin.List.listFitsIndex
  simp only [Bool.and_eq_true,decide_eq_true_eq]
  lia
 have htl:Builtin.List.listTooLong (Int.toNat (items.size:Int))=false:=by
  rw [Int.toNat_natCast]
  exact Ku hz
 rw [if_neg (by rw [hf]; decide),if_neg (by lia),if_neg (by rw [htl]; decide)]
 refine wpAny_pure ?_
 have hSf:S ∉ [it,a]:=by simp [hSi,hSa]
 have W:=aa5 (prog:=prog) (w:=w) (A:=A.in1) hh it a hai items hz
 have loop:∀ (s2:Shared) (c₂:Nat),(∀ b o,b≠S→s.heap.get? b=some o→s2.heap.get? b=some o)→s2.heap.get? S=some { cls:=.type "list",data:=.seq #[] c₂ }→s2.gens=s.gens→s2.drawn=s.drawn→s2.os=s.os →
   codeAny (model prog w) A (.builtin "list.extend.loop" ⟨[.ref S,.ref it,.none],[]⟩) R s2:=fun s2 c₂ hk hS2 g1 g2 g3=>by
  have st:0≤items.size∧RvO s2.heap it a ((items.size:Int) - 1 - ((0:Nat):Int))∧IsTup s2.heap a items:=by
   refine⟨Nat.zero_le _,?_,Bq ht fun o e=>hk a o (Ne.symm hSa) e⟩
   have:(items.size:Int) - 1 - ((0:Nat):Int)=(items.size:Int) - 1:=by lia
   rw [this]
   exact hit.keep fun o e=>hk it o (Ne.symm hSi) e
  refine codeAny_extend_loopS W.toS hz S hSf .none items.size 0 s2 #[] c₂ rfl (Nat.zero_le _) st hS2 (ItemsOf.nil _) fun s' acc' c' hm hS' hacc=>?_
  have hs':=Moved.eq_with hm
  rw [g1,g2,g3] at hs'
  rw [hs']
  exact hR s'.heap s'.toks acc' c' (fun b o hbS hbi e=>hm.heap b o (by simp [hbS,hbi]) (hk b o hbS e)) hS' hacc
 split
 ·refine wpAny_bind (wpAny_rule ?_)
  unfold Builtin.List.listTouch
  have e1:=Heap.get?_update_self (Obj.mapSeq (·.push Value.none)) hS rfl
  have e2:=Heap.get?_update_self (Obj.mapSeq (·.pop)) e1 rfl
  refine wpAny_bind (wpAny_bind (m:=Builtin.List.listUpdate (.ref S) (·.push Value.none)) (wpAny_updateSeq hS rfl ?_ (hz:=Nat.zero_le _) (_hz':=Nat.succ_le_succ (Nat.zero_le _))))
  refine wpAny_updateSeq e1 rfl ?_ (hz:=(by show 1≤sizeLine; decide)) (_hz':=Nat.zero_le _)
  refine wpAny_pure ⟨plainId_quiet F.plain_extend_loop _,loop _ _ (fun b o hb e=>?_) (by simpa [Obj.mapSeq] using e2) rfl rfl rfl⟩
  exact (Heap.get?_update_other _ _ (Ne.symm hb)).trans ((Heap.get?_update_other _ _ (Ne.symm hb)).trans e)
 ·exact wpAny_pure ⟨plainId_quiet F.plain_extend_loop _,loop _ c₀ (fun b o _ e=>e) hS rfl rfl rfl⟩
theorem R_ {it a:Addr}{items:Array Value}{Q:Value→Shared→Prop} (hh:A.handled=none) (hit:RvO s.heap it a ((items.size:Int) - 1)) (ht:IsTup s.heap a items) (hz:items.size≤sizeLine) (hai:a≠it)
  (hQ:∀ h' tk acc' c',(∀ b o,b≠it→s.heap.get? b=some o→h'.get? b=some o)→h'.get? s.heap.objs.size=some { cls:=.type "list",dict:=none,data:=.seq acc' c',slots:=#[] } →
   acc'.toList=items.toList.reverse→Q (.ref s.heap.objs.size) { s with heap:=h',toks:=tk }):wpAny (model prog w) A (call (.type "list") [.ref it]) Q E s:=by
 have lit:it<s.heap.objs.size:=let ⟨_,ho,_⟩:=hit; Heap.lt_size ho
 have la:a<s.heap.objs.size:=let ⟨_,ho,_⟩:=ht; Heap.lt_size ho
 refine callType_codes (Q₁:=fun obj s₁=>obj=.ref s.heap.objs.size∧s₁={ s with heap:=s.heap.push { cls:=.type "list",data:=.seq #[] } }) F.called_list (F.typeCall_list_1 _) F.entry_list_init (code_list_new _ ⟨rfl,rfl⟩) fun obj s1 h1=>?_
 obtain⟨e1,e2⟩:=h1
 subst e1 e2
 have hS:(s.heap.push { cls:=.type "list",data:=.seq #[] }).get? s.heap.objs.size=some { cls:=.type "list",data:=.seq #[] }:=Heap.get?_push_size _ rfl
 refine⟨⟨_,hS,rfl⟩,F.args_list_init_2 _ _,?_⟩
 show wpAny _ _ (Builtin.List.listItems (.ref s.heap.objs.size) >>= fun old=>Builtin.List.listUpdate (.ref s.heap.objs.size) (fun _=>#[]) >>= fun _=>letGo old.toList.reverse >>= fun _=>Builtin.List.listExtendWith (.ref s.heap.objs.size) (.ref it) .none) _ _ _
 refine wpAny_bind ?_
 unfold Builtin.List.listItems
 refine wpAny_bind (wpAny_seqItems hS rfl (wpAny_pure ?_))
 refine wpAny_bind (m:=Builtin.List.listUpdate (.ref s.heap.objs.size) (fun _=>#[])) (wpAny_updateSeq hS rfl ?_)
 have hS2:=Heap.get?_update_self (Obj.mapSeq (fun _=>(#[]:Array Value))) hS rfl
 have oth:∀ b o,b≠s.heap.objs.size→s.heap.get? b=some o→((s.heap.push { cls:=.type "list",data:=.seq #[] }).update s.heap.objs.size (Obj.mapSeq (fun _=>(#[]:Array Value)))).get? b=some o :=
  fun b o hb e=>(Heap.get?_update_other _ _ (Ne.symm hb)).trans (Heap.get?_push_of_some _ e)
 refine wpAny_bind (wpAny_letGo ?_)
 refine Zy (A:=A.in1) hh (hit.keep fun o e=>oth it o (Nat.ne_of_lt lit) e) (Bq ht fun o e=>oth a o (Nat.ne_of_lt la) e) hz hai (Nat.ne_of_gt lit) (Nat.ne_of_gt la) hS2 fun h' tk acc' c' hk hS' hacc=>?_
 refine⟨rfl,hQ h' tk acc' c' (fun b o hb e=>hk b o (Nat.ne_of_lt (Heap.lt_size e)) hb (oth b o (Nat.ne_of_lt (Heap.lt_size e)) e)) hS' ?_⟩
 obtain⟨hsz,hat⟩:=hacc
 refine List.ext_getElem? fun i=>?_
 by_cases hi:i<items.size
 ·have h1:=hat i (acc'[i]'(by lia)) (Array.getElem?_eq_getElem (by lia))
  rw [List.getElem?_reverse (by rw [Array.length_toList]; exact hi),Array.length_toList,Array.getElem?_toList,Array.getElem?_toList,h1,Array.getElem?_eq_getElem (by lia)]
 ·rw [List.getElem?_eq_none (by rw [Array.length_toList]; lia),List.getElem?_eq_none (by rw [List.length_reverse,Array.length_toList]; lia)]
end
section
variable {prog:Program}{w:World}{A:Around}{E:Value→Shared→Prop}{s:Shared}
theorem RP (a:Addr) (items:Array Value) (n:Nat) (dd:Option Addr) (sl:Array (Option Value)) (hz:items.size≤sizeLine) :
  Meets (Builtin.«reversed.__new__» ⟨[.type "reversed",.ref a],[]⟩) (fun _ R s=>s.heap.get? a=some { cls:=.type "tuple",dict:=dd,data:=.seq items n,slots:=sl } ∧
   ∀ tk,R (.ok (.ret (.ref s.heap.objs.size))) { s with heap:=s.heap.push { cls:=.type "reversed",data:=.fields #[.ref a,rawInt ((items.size:Int) - 1)] },toks:=tk }) :=
 .of_wp fun prog w A R s h=>by
  obtain⟨ht,h⟩:=h
  have hl:sizeLine=16777216:=sizeLine_eq
  have hT:s.TypeIs (.ref a) "tuple":=⟨_,ht,rfl⟩
  have hI:IsTup s.heap a items:=⟨_,ht,rfl,n,rfl⟩
  unfold Builtin.«reversed.__new__»
  refine wpAny_bind (wpAny_of_eq (newClass_reversed _) ?_)
  dsimp only
  refine wpAny_bind (wpAny_of_eq (a:=()) (by first | rfl | kernel_rfl) ?_); refine wpAny_bind (wpAny_of_eq (a:=()) (by first | rfl | kernel_rfl) ?_)
  refine wpAny_bind (wpAny_specialOf hT abd ?_)
  dsimp only
  refine wpAny_bind ?_
  refine wpAny_bind (wpAny_isInstance (b:=false) hT (by rw [isSubtype_type]; kernel_rfl) ?_)
  rw [if_neg (by decide)]
  refine wpAny_bind (wpAny_specialOf hT PyProof.Rows.slot_tuple_getitem.lookup ?_)
  dsimp only
  rw [if_pos (by decide)]
  refine wpAny_pure ?_
  rw [if_neg (by decide)]
  refine wpAny_bind (len_tuple hI (by lia) ?_)
  rw [RD,pure_bind]
  dsimp only
  show wpAny _ _ (newObj (.type "reversed") (.fields #[.ref a,rawInt ((items.size:Int) - 1)]) >>= _) _ _ _
  refine wpAny_bind (wpAny_newObj_type ?_)
  exact wpAny_pure ⟨_,rfl,h _⟩
theorem V5 {a:Addr}{items:Array Value}{Q:Value→Shared→Prop} (ht:IsTup s.heap a items) (hz:items.size≤sizeLine)
  (h:∀ tk,Q (.ref s.heap.objs.size) { s with heap:=s.heap.push { cls:=.type "reversed",data:=.fields #[.ref a,rawInt ((items.size:Int) - 1)] },toks:=tk }):wpAny (model prog w) A (call (.type "reversed") [.ref a]) Q E s:=by
 obtain⟨⟨c,d,dt,sl⟩,ho,hc,n,hd⟩:=id ht
 simp only at hc hd
 subst hc hd
 refine callType_new aaz (by decide) (F.typeCall_reversed_1 _) (F.newCall_reversed_1 _) (fun obj=>F.args_object_init_2 obj _) F.entry_reversed_new (RP a items n d sl hz) ⟨ho,fun tk=>?_⟩
 exact⟨⟨_,Heap.get?_push_size _ rfl,rfl⟩,h tk⟩
end
theorem zP:bootBuiltins "reversed"=some (.type "reversed"):=by decide +kernel
theorem aeg:bootBuiltins "list"=some (.type "list"):=by decide +kernel
def tLR (K:PySem.W.Frag) (te:TE):TE:=fun σ H Q=>te σ H fun x H1=>∃ a ys,x=.ref a∧SqT K H1 a ys∧∀ l,H1 l=none→Q (.ref l) (upd H1 l (.lst ys.reverse))
theorem ZG {X:Cx}{e:Expr}{te:TE}{p1 p2 pos pos2:Pos} (hgl:Gl X "list") (hgr:Gl X "reversed") (ml:X.mg "list"=none) (mr:X.mg "reversed"=none) (hc:X.calm=true) (he:PE X e te)
  (hs1:starEach [.Call (.Name "reversed" p2) [e] [] pos2] X.env=[(false,eval (.Call (.Name "reversed" p2) [e] [] pos2) X.env)]:=by rfl) (hs2:starEach [e] X.env=[(false,eval e X.env)]:=by rfl) :
  PE X (.Call (.Name "list" p1) [.Call (.Name "reversed" p2) [e] [] pos2] [] pos) (tLR X.K te):=by
 intro pins s σ H Q I h
 refine wpAny_Call_Name_kw (ld_blt I hgl ml aeg ?_)
 refine PyProof.Rows.callWith_type1 ?_ (by rw [hs1]; rfl) (by rfl)
 rw [hs1]
 refine Calls.spliced_cons ?_
 refine wpAny_Call_Name_kw (ld_blt I hgr mr zP ?_)
 refine PyProof.Rows.callWith_type1 ?_ (by rw [hs2]; rfl) (by rfl)
 rw [hs2]
 refine Calls.spliced_cons (thn (he pins s σ H _ I h) fun v s1 ⟨x,H1,I1,r1,q1⟩=>Calls.spliced_nil ?_)
 obtain⟨a,ys,e1,hq,q⟩:=q1
 subst e1
 cases r1
 obtain⟨its,rv,ht,hz⟩:=I1.tuple hq
 have hlen:=rv.length
 have hz':its.toArray.size≤sizeLine:=by rw [List.size_toArray]; lia
 refine V5 ht hz' fun tk=>Calls.spliced_nil ?_
 generalize K5:({ s1 with heap:=s1.heap.push { cls:=.type "reversed",data:=.fields #[.ref a,rawInt ((its.toArray.size:Int) - 1)] },toks:=tk }:Shared)=s2
 have I2:Inv X pins σ H1 s2:=by rw [← K5]; exact I1.kept fun b o e=>Heap.get?_push_of_some _ e
 have la:a<s1.heap.objs.size:=let ⟨_,ho,_⟩:=ht; Heap.lt_size ho
 have sz2:s2.heap.objs.size=s1.heap.objs.size+1:=by rw [← K5]; exact Heap.size_push ..
 have hit:RvO s2.heap s1.heap.objs.size a ((its.toArray.size:Int) - 1):=by rw [← K5]; exact⟨_,Heap.get?_push_size _ rfl,rfl,rfl⟩
 have ht2:IsTup s2.heap a its.toArray:=by rw [← K5]; exact ht.push _
 have fp:FpOk X pins H1 s1.heap.objs.size:=I1.fpOk (Nat.le_refl _) (I1.hok.fresh (Nat.le_refl _))
 refine R_ (I2.ok.hd hc) hit ht2 hz' (Nat.ne_of_lt la) fun h' tk' acc' c' hk hS' hacc=>?_
 have hfree:H1 s2.heap.objs.size=none:=I2.hok.fresh (Nat.le_refl _)
 have hp0:H1 s1.heap.objs.size=none:=fp.1
 have oks:ObjOk X.prog X.w (upd H1 s2.heap.objs.size (.lst ys.reverse)) h' s2.heap.objs.size (.lst ys.reverse):=by
  refine⟨by rw [List.length_reverse]; exact hz,its.reverse,c',rv.reverse,?_⟩
  rw [hS',show acc'=its.reverse.toArray from Array.toList_inj.mp (by simpa using hacc)]
 have nS:∀ b o,s2.heap.get? b=some o→b≠s2.heap.objs.size:=fun b o e=>Nat.ne_of_lt (Heap.lt_size e)
 have np:∀ b u,H1 b=some u→b≠s1.heap.objs.size:=fun b u e=>ne_of_none e hp0
 have nh:∀ b u,H1 b=some u→upd H1 s2.heap.objs.size (.lst ys.reverse) b=some u:=fun b u e=>by rw [upd_ne (ne_of_none e hfree)]; exact e
 have hok:HOk X.prog X.w (upd H1 s2.heap.objs.size (.lst ys.reverse)) h':=fun b u e=>by
  by_cases hb:b=s2.heap.objs.size
  ·subst hb
   rw [upd_same] at e
   cases e
   exact oks
  ·rw [upd_ne hb] at e
   refine (I2.hok b u e).stay (fun c v hc' q'=>hk c v ?_ q') (fun x q'=>nh _ _ q') fun c v q'=>nh _ _ q'
   rcases hc' with z | z
   ·rw [z]; exact np b u e
   ·exact np c _ z
 have I3:Inv X pins σ (upd H1 s2.heap.objs.size (.lst ys.reverse)) { s2 with heap:=h',toks:=tk' }:=by
  refine I2.step (g':=s2.gens) (d':=s2.drawn) (t':=tk') (ch:=[s1.heap.objs.size]) (fun b hb=>?_) (fun b o _ _ hb e _=>hk b o (fun z=>hb (by simp [z])) e) (fun b o _ _ hb e _=>⟨o.slots,hk b o (fun z=>hb (by simp [z])) e⟩)
   (fun b o _ e n=>by rw [upd_ne (nS b o e)]; exact n) (fun b o hb e=>⟨o,hk b o (fun z=>hb (by simp [z])) e⟩) (fun b xs e=>nh _ _ e) (fun b o u e=>nh _ _ e) (fun b ps e=>⟨#[],by rw [nh _ _ e]; simp⟩) (fun m hm=>?_) hok I2.bare
  ·have e:b=s1.heap.objs.size:=by simpa using hb
   subst e
   exact⟨fp.2.2.2.1,fp.2.1,fp.2.2.2.2.1,fp.2.2.2.2.2⟩
  ·obtain⟨o,es,ep,ho,r⟩:=hm
   exact⟨o,es,ep,hk _ o (Ne.symm fp.2.1) ho,r⟩
 exact⟨.ref s2.heap.objs.size,_,I3,rfl,q _ hfree⟩
end SwR
namespace Sw
open PySem PySem.Spec PyProof.Rows L2
section
variable {X:Cx}
end
end Sw
namespace Sw
namespace T
end T
end Sw
namespace Sw
namespace T
end T
end Sw
namespace Sw
open PySem PySem.Spec PyProof.Rows L2
end Sw
namespace Sw
open PySem PySem.Spec PyProof.Rows L2
section
variable {P:Program}{w:World}{K:PySem.W.Frag}{mg:Str→Option Value}{base:Heap}{N:List Str}{qual:Str}{scope:Scope}{f:Addr}{cd:Value}{A:Around}{outer:List Env}{s₀:Shared}{H₀:Hp}{E:XK}
end
section
variable {X:Cx}{pins:List (Addr×Obj)}{σ:Sg}{H:Hp}{s:Shared}
end
end Sw
namespace Sw
open PySem PySem.Spec PyProof.Rows L2
end Sw
namespace Sw
open PySem PySem.Spec PyProof.Rows L2
section
variable {K:PySem.W.Frag}{C a:Addr}{prog:Program}{w:World}{A:Around}
end
end Sw
namespace Sw
open PySem PySem.Spec PyProof.Rows L2
structure QE (X:Cx) (e:Expr) (t:TE):Prop where
 run:PE X e t
structure QT (X:Cx) (e:Expr) (t:TT):Prop where
 run:PT X e t
structure QW (X:Cx) (e:Expr) (t:TT):Prop where
 run:PW X e t
structure QA (X:Cx) (es:List Expr) (t:TA):Prop where
 run:PA X es t
structure QS (X:Cx) (st:Stmt) (t:TS):Prop where
 run:PS X st t
structure QSs (X:Cx) (st:List Stmt) (t:TS):Prop where
 run:PSs X st t
structure QI (X:Cx) (tg iter:Expr) (wi:TI):Prop where
 run:PI X tg iter wi
structure QG (X:Cx) (tg:Expr) (t:TG):Prop where
 run:PG X tg t
structure QGs (X:Cx) (ts:List Expr) (t:TGs):Prop where
 run:PGs X ts t
structure QO (X:Cx) (o:Option Expr) (t:TO):Prop where
 run:PO X o t
theorem QW.pt {X:Cx}{e:Expr}{t:TT} (h:QW X e t):QT X e t:=⟨h.run.pt⟩
theorem qv {X:Cx} (i:Nat) {x:Str}{pos:Pos} (hN:X.N[i]?=some x:=by rfl) (hv:Vis X.env.scope x:=by first | exact Or.inl rfl | exact Or.inr (Or.inl rfl) | exact Or.inr (Or.inr rfl)) (hd:(x == ("__debug__":Str))=false:=by decide) (hcd:(x == ("__classdict__":Str))=false:=by decide):QE X (.Name x pos) (tVar i):=⟨L2.pv (i:=i) (hN:=hN) (hv:=hv) (hd:=hd) (hcd:=hcd)⟩
theorem aN {X:Cx}{i j pos}:QE X (.Constant (.int i) j pos) (tC (.int i)):=⟨L2.pe_int⟩
theorem H_ {X:Cx}{b j pos}:QE X (.Constant (.bool b) j pos) (tC (.bl b)):=⟨L2.pe_bl⟩
theorem wN {X:Cx}{j pos}:QE X (.Constant .none j pos) (tC .non):=⟨L2.agL⟩
theorem dU {X:Cx}{x j pos}:QE X (.Constant (.str x) j pos) (tC (.str x)):=⟨L2.agI⟩
theorem Ph {X:Cx}{x:Str}{v:V}{u:Value}{pos:Pos} (hg:Gl X x) (hm:X.mg x=none) (hv:bootBuiltins x=some u) (r:RelV v u) (hn:x≠"__name__":=by decide) (hd:(x == ("__debug__":Str))=false:=by decide):QE X (.Name x pos) (tC v):=⟨L2.afo (hg:=hg) (hm:=hm) (hv:=hv) (r:=r) (hn:=hn) (hd:=hd)⟩
theorem aU {X:Cx}{x:Str}{v:V}{u:Value}{pos:Pos} (hg:Gl X x) (hm:X.mg x=some u) (r:RelV v u) (hd:(x == ("__debug__":Str))=false:=by decide):QE X (.Name x pos) (tC v):=⟨L2.afn (hg:=hg) (hm:=hm) (r:=r) (hd:=hd)⟩
theorem aX {X:Cx}{a b:Expr}{ta tb:TE}{pos:Pos}{op:Operator}{r:R2} (ho:OpR X (binaryOp op) r) (ha:QE X a ta) (hb:QE X b tb):QE X (.BinOp a op b pos) (tOp r ta tb):=⟨L2.pe_op (ho:=ho) (ha:=ha.run) (hb:=hb.run)⟩
theorem yI {X:Cx}{a:Expr}{ta:TE}{pos:Pos}{op:UnaryOp}{r:V→Hp→VK→Prop} (ho:UnR X (unaryOp op) r) (ha:QE X a ta):QE X (.UnaryOp op a pos) (tUn r ta):=⟨L2.ai5 (ho:=ho) (ha:=ha.run)⟩
theorem agt {X:Cx}{a:Expr}{ta:TE}{pos:Pos} (ha:QE X a ta):QE X (.UnaryOp .Not a pos) (aew ta):=⟨L2.agK (ha:=ha.run)⟩
theorem afb {X:Cx}{a b:Expr}{ta tb:TE}{pos:Pos}{op:CmpOp}{r:R2} (ho:OpR X (compareOp op) r) (ha:QE X a ta) (hb:QE X b tb) (hm:behindInMarks op b=false):QE X (.Compare a [op] [b] pos) (tOp r ta tb):=⟨L2.pe_cmpR (ho:=ho) (ha:=ha.run) (hb:=hb.run) (hm:=hm)⟩
theorem agw {X:Cx}{a b:Expr}{ta tb:TE}{pos:Pos}{rest:List Expr} (ha:QE X a ta) (hb:QE X (.BoolOp .And (b::rest) pos) tb):QE X (.BoolOp .And (a::b::rest) pos) (aez ta tb):=⟨L2.agO (ha:=ha.run) (hb:=hb.run)⟩
theorem ags {X:Cx}{a:Expr}{pos:Pos}{op}{t:TE} (h:QE X a t):QE X (.BoolOp op [a] pos) t:=⟨L2.agJ (h:=h.run)⟩
theorem qD {X:Cx}{es:List Expr}{t:TA}{pos:Pos} (h:QA X es t):QE X (.List es pos) (tLst t):=⟨L2.pe_lst (h:=h.run)⟩
theorem bh {X:Cx}{es:List Expr}{t:TA}{pos:Pos}{x1} (h:QA X es t):QE X (.Tuple es x1 pos) (af_ t):=⟨L2.agH (h:=h.run)⟩
theorem qO {X:Cx}{a b:Expr}{ta tb:TE}{pos:Pos}{tA:TT}{c:Expr} (hc:QT X c tA) (ha:QE X a ta) (hb:QE X b tb):QE X (.IfExp c a b pos) (tIf tA ta tb):=⟨L2.adB (hc:=hc.run) (ha:=ha.run) (hb:=hb.run)⟩
theorem wM {X:Cx}{e:Expr}{te:TE}{lo hi:Option Expr}{tl th:TO}{pos p2:Pos}{r:V→Option Int→Option Int→Hp→VK→Prop} (hr:SlR X r) (he:QE X e te) (hl:QO X lo tl) (hu:QO X hi th):QE X (.Subscript e (.Slice lo hi none p2) pos) (tSl r te tl th):=⟨L2.adz (hr:=hr) (he:=he.run) (hl:=hl.run) (hu:=hu.run)⟩
theorem gk {X:Cx}{a b:Expr}{ta tb:TE}{pos:Pos}{r:R2} (hr:IxR X r) (ha:QE X a ta) (hb:QE X b tb) (hs:PlainIx b):QE X (.Subscript a b pos) (tOp r ta tb):=⟨L2.pe_ix (hr:=hr) (ha:=ha.run) (hb:=hb.run) (hs:=hs)⟩
theorem HY {X:Cx}{scope:Scope}{cl:List (Str×Addr)}{x:Str}{fr:List Str}{js:List Nat}{elt iter:Expr}{px pos:Pos}{wi:TI}{te:TE} (hc:X.calm=true) (L:yw X scope x fr js cl) (hi:QI X (.Name x px) iter wi) (he:∀ C s H fp pins,QE (blk X scope cl C (x::fr) s H fp pins) elt te) (hs:∀ v,foldedSetIterable iter X.env v=pure v:=by intro _; rfl):QE X (.ListComp elt [⟨.Name x px,iter,[],0⟩] scope pos) (tLC wi js te):=⟨Sw.ai6 (hc:=hc) (L:=L) (hi:=hi.run) (he:=fun C s H fp pins=>(he C s H fp pins).run) (hs:=hs)⟩
theorem aG {X:Cx}{CX:CXT}{k:Nat}{f:Addr}{fd:FuncData}{ps:List Str}{sp:Sp}{dvs:List V}{ds:List Value}{E:XK}{x:Str}{p pos:Pos}{e:Expr}{es:List Expr}{t:TA} (F:FnOk X.prog X.w X.K X.mg X.base CX k f fd ps sp) (hr:Room k X.A) (hg:Gl X x) (hm:X.mg x=some (.ref f)) (hk:PySem.W.keepIn X.K (.ref f)=true) (hb:Binds X.K fd ps ds) (hd:Vals dvs ds) (hx:Passes CX X E) (ha:QA X (e::es) t) (hdb:(x == ("__debug__":Str))=false:=by decide) (he:starEach (e::es) X.env=(false,eval e X.env)::starEach es X.env:=by rfl) (hpl:(backTo pos (starEach es X.env)).any (·.1)=false:=by rfl):QE X (.Call (.Name x p) (e::es) [] pos) (tCall sp dvs E t):=⟨L2.pe_call (F:=F) (hr:=hr) (hg:=hg) (hm:=hm) (hk:=hk) (hb:=hb) (hd:=hd) (hx:=hx) (ha:=ha.run) (hdb:=hdb) (he:=he) (hpl:=hpl)⟩
theorem j9 {X:Cx}{CX:CXT}{k:Nat}{f:Addr}{fd:FuncData}{ps:List Str}{sp:Sp}{dvs:List V}{ds:List Value}{E:XK}{x:Str}{p pos:Pos} (F:FnOk X.prog X.w X.K X.mg X.base CX k f fd ps sp) (hr:Room k X.A) (hg:Gl X x) (hm:X.mg x=some (.ref f)) (hk:PySem.W.keepIn X.K (.ref f)=true) (hb:Binds X.K fd ps ds) (hd:Vals dvs ds) (hx:Passes CX X E) (hdb:(x == ("__debug__":Str))=false:=by decide):QE X (.Call (.Name x p) [] [] pos) (tCall sp dvs E tNil):=⟨L2.adC (F:=F) (hr:=hr) (hg:=hg) (hm:=hm) (hk:=hk) (hb:=hb) (hd:=hd) (hx:=hx) (hdb:=hdb)⟩
theorem jT {X:Cx}{x:Str}{p pos:Pos}{e:Expr}{es:List Expr}{t:TA}{T:String}{r:List V→Hp→VK→Prop} (hc:CallR X (.type T) r) (hg:Gl X x) (hm:X.mg x=none) (hv:bootBuiltins x=some (.type T)) (ha:QA X (e::es) t) (hn:x≠"__name__":=by decide) (hdb:(x == ("__debug__":Str))=false:=by decide) (he:starEach (e::es) X.env=(false,eval e X.env)::starEach es X.env:=by rfl) (hpl:(backTo pos (starEach es X.env)).any (·.1)=false:=by rfl):QE X (.Call (.Name x p) (e::es) [] pos) (tCB r t):=⟨L2.abM (hc:=hc) (hg:=hg) (hm:=hm) (hv:=hv) (ha:=ha.run) (hn:=hn) (hdb:=hdb) (he:=he) (hpl:=hpl)⟩
theorem cG {X:Cx}{x:Str}{p pos:Pos}{e:Expr}{es:List Expr}{t:TA}{id:String}{r:List V→Hp→VK→Prop} (hc:CallR X (.builtin id) r) (hg:Gl X x) (hm:X.mg x=none) (hv:bootBuiltins x=some (.builtin id)) (ha:QA X (e::es) t) (hn:x≠"__name__":=by decide) (hdb:(x == ("__debug__":Str))=false:=by decide) (he:starEach (e::es) X.env=(false,eval e X.env)::starEach es X.env:=by rfl) (hpl:(backTo pos (starEach es X.env)).any (·.1)=false:=by rfl):QE X (.Call (.Name x p) (e::es) [] pos) (tCB r t):=⟨L2.pe_callB (hc:=hc) (hg:=hg) (hm:=hm) (hv:=hv) (ha:=ha.run) (hn:=hn) (hdb:=hdb) (he:=he) (hpl:=hpl)⟩
theorem fK {X:Cx}{o e:Expr}{es:List Expr}{to:TE}{t:TA}{name:Str}{apos cpos:Pos}{T id:String}{r:V→List V→Hp→VK→Prop} (pa:PlainAttrs T) (slot:Slot T name id) (hty:typeOf (.builtin id)=pure (.type "method_descriptor")) (hm:MtR X id r) (ho:QE X o to) (ha:QA X (e::es) t) (hbase:attributeBase o name X.env (eval o X.env)=eval o X.env:=by rfl) (hfew:((backTo cpos (starEach (e::es) X.env)).all (fun x=>!x.1) && (backToKw cpos (keywordEach [] X.env)).all (fun x=>x.1.isSome)
   && decide ((e::es).length+([]:List Keyword).length+(if ([]:List Keyword).isEmpty then 0 else 1)<30))=true:=by rfl) (hline:(apos.endLine == cpos.line)=true:=by rfl) (hs:starEach (e::es) X.env=(false,eval e X.env)::starEach es X.env:=by rfl) (hplain:(backTo cpos (starEach es X.env)).any (·.1)=false:=by rfl):QE X (.Call (.Attribute o name apos) (e::es) [] cpos) (tBM X.K T r to t):=⟨L2.ai7 (pa:=pa) (slot:=slot) (hty:=hty) (hm:=hm) (ho:=ho.run) (ha:=ha.run) (hbase:=hbase) (hfew:=hfew) (hline:=hline) (hs:=hs) (hplain:=hplain)⟩
theorem qF {X:Cx}{o:Expr}{to:TE}{name:Str}{apos cpos:Pos}{T id:String}{r:V→List V→Hp→VK→Prop} (pa:PlainAttrs T) (slot:Slot T name id) (hty:typeOf (.builtin id)=pure (.type "method_descriptor")) (hm:MtR X id r) (ho:QE X o to) (hbase:attributeBase o name X.env (eval o X.env)=eval o X.env:=by rfl) (hline:(apos.endLine == cpos.line)=true:=by rfl):QE X (.Call (.Attribute o name apos) [] [] cpos) (agc X.K T r to):=⟨L2.agN (pa:=pa) (slot:=slot) (hty:=hty) (hm:=hm) (ho:=ho.run) (hbase:=hbase) (hline:=hline)⟩
theorem ZD {X:Cx}{e:Expr}{te:TE}{p1 p2 pos pos2:Pos} (hgl:Gl X "list") (hgr:Gl X "reversed") (ml:X.mg "list"=none) (mr:X.mg "reversed"=none) (hc:X.calm=true) (he:QE X e te) (hs1:starEach [.Call (.Name "reversed" p2) [e] [] pos2] X.env=[(false,eval (.Call (.Name "reversed" p2) [e] [] pos2) X.env)]:=by rfl) (hs2:starEach [e] X.env=[(false,eval e X.env)]:=by rfl):QE X (.Call (.Name "list" p1) [.Call (.Name "reversed" p2) [e] [] pos2] [] pos) (SwR.tLR X.K te):=⟨SwR.ZG (hgl:=hgl) (hgr:=hgr) (ml:=ml) (mr:=mr) (hc:=hc) (he:=he.run) (hs1:=hs1) (hs2:=hs2)⟩
theorem mZ {X:Cx}{e:Expr}{t:TE} (h:QE X e t) (he:∀ whole,isTrue e X.env whole=(do let v ← whole; standAt e.pos; holding [v] (truthy v)):=by intro _; rfl):QT X e (tB t):=⟨L2.agz (h:=h.run) (he:=he)⟩
theorem wK {X:Cx}{a:Expr}{ta:TE} (ha:QE X a ta) (he:∀ whole,isTrue a X.env whole=(do let v ← whole; standAt a.pos; holding [v] (truthy v))):QT X a (fun σ H Q=>ta σ H fun x H'=>∃ k,Wn X.K x H' k∧Q k H'):=⟨L2.adu (ha:=ha.run) (he:=he)⟩
theorem bA {X:Cx}{a b:Expr}{ta tb:TE}{pos:Pos}{op:CmpOp}{r:R2} (ho:OpR X (compareOp op) r) (ha:QE X a ta) (hb:QE X b tb) (hm:behindInMarks op b=false):QT X (.Compare a [op] [b] pos) (tTest (tOp r ta tb)):=⟨L2.pt_cmpR (ho:=ho) (ha:=ha.run) (hb:=hb.run) (hm:=hm)⟩
theorem MJ {X:Cx}{a:Expr}{pos:Pos}{tA:TT} (ha:QT X a tA):QT X (.UnaryOp .Not a pos) (aga tA):=⟨L2.agA (ha:=ha.run)⟩
theorem MF {X:Cx}{a b:Expr}{pos:Pos}{tA tB':TT}{rest:List Expr} (ha:QT X a tA) (hb:QW X (.BoolOp .And (b::rest) pos) tB'):QW X (.BoolOp .And (a::b::rest) pos) (Zn tA tB'):=⟨L2.agy (ha:=ha.run) (hb:=hb.run)⟩
theorem HW {X:Cx}{a:Expr}{pos:Pos}{tA:TT} (ha:QT X a tA):QW X (.BoolOp .And [a] pos) tA:=⟨L2.afc (ha:=ha.run)⟩
theorem ZC {X:Cx}{a b:Expr}{pos:Pos}{tA tB':TT}{rest:List Expr} (ha:QT X a tA) (hb:QW X (.BoolOp .Or (b::rest) pos) tB'):QW X (.BoolOp .Or (a::b::rest) pos) (tOr tA tB'):=⟨L2.ai4 (ha:=ha.run) (hb:=hb.run)⟩
theorem abF {X:Cx}{a:Expr}{pos:Pos}{tA:TT} (ha:QT X a tA):QW X (.BoolOp .Or [a] pos) tA:=⟨L2.agx (ha:=ha.run)⟩
theorem ak {X:Cx}:QA X [] tNil:=⟨L2.pa_nil⟩
theorem aj {X:Cx}{e:Expr}{es:List Expr}{te:TE}{t:TA} (ha:QE X e te) (hr:QA X es t) (hs:starEach (e::es) X.env=(false,eval e X.env)::starEach es X.env:=by rfl):QA X (e::es) (tCons te t):=⟨L2.pa_cons (ha:=ha.run) (hr:=hr.run) (hs:=hs)⟩
theorem aQ {X:Cx}{e:Expr}{te:TE}{pos:Pos} (he:QE X e te):QS X (.Return (some e) pos) (tRet te):=⟨L2.ps_ret (he:=he.run)⟩
theorem Yu {X:Cx}{pos:Pos}:QS X (.Return none pos) aes:=⟨L2.afd⟩
theorem bY {X:Cx}{pos:Pos}{i:Nat}{x:Str}{e:Expr}{te:TE}{pos':Pos} (hN:X.N.Nodup) (hi:X.N[i]?=some x) (hx:Loc X.env.scope x) (he:QE X e te) (hs:swapsWith e (some (.Name x pos')) pos.line X.env=pure false:=by rfl) (hf:X.fn x=true∨X.env.scope.names.lookup x=some .local:=by first | exact .inl rfl | exact .inr rfl | assumption):QS X (.Assign [.Name x pos'] e pos) (tAsg te (gName i)):=⟨L2.ps_set (hN:=hN) (hi:=hi) (hx:=hx) (he:=he.run) (hs:=hs) (hf:=hf)⟩
theorem abG {X:Cx}{pos:Pos}{i:Nat}{x:Str}{e:Expr}{te:TE}{op:Operator}{ti:TIp}{pos':Pos} (hN:X.N.Nodup) (hi:X.N[i]?=some x) (hx:Loc X.env.scope x) (he:QE X e te) (ho:PIp X op ti) (hf:X.fn x=true∨X.env.scope.names.lookup x=some .local:=by first | exact .inl rfl | exact .inr rfl | assumption):QS X (.AugAssign (.Name x pos') op e pos) (agd i te ti):=⟨L2.agB (hN:=hN) (hi:=hi) (hx:=hx) (he:=he.run) (ho:=ho) (hf:=hf)⟩
theorem cg {X:Cx}{t u:TS}{pos:Pos}{c:Expr}{a b:List Stmt}{tc:TT} (hc:QT X c tc) (ha:QSs X a t) (hb:QSs X b u):QS X (.If c a b pos) (tIfS tc t u):=⟨L2.ps_if (hc:=hc.run) (ha:=ha.run) (hb:=hb.run)⟩
theorem wL {X:Cx}{pos:Pos}{c:Expr}{body:List Stmt}{tc:TT}{tb:TS} (hp:PassesOwn (model X.prog X.w) X.A X.env X.xe) (hc:QT X c tc) (hb:QSs X body tb):QS X (.While c body [] pos) (uO tc tb):=⟨L2.adv (hp:=hp) (hc:=hc.run) (hb:=hb.run)⟩
theorem Ug {X:Cx}{tg:Expr}{iter:Expr}{body:List Stmt}{wi:TI}{g:TG}{tb:TS}{pos:Pos} (hp:PassesOwn (model X.prog X.w) X.A X.env X.xe) (hc:X.calm=true) (hi:QI X tg iter wi) (hg:QG X tg g) (hb:QSs X body tb) (hs:∀ x,foldedSetIterable iter X.env x=pure x:=by intro _; rfl):QS X (.For tg iter body [] pos) (tFor wi g tb):=⟨L2.ps_for (hp:=hp) (hc:=hc) (hi:=hi.run) (hg:=hg.run) (hb:=hb.run) (hs:=hs)⟩
theorem cP {X:Cx}{e:Expr}{te:TE}{pos:Pos} (he:QE X e te) (hs:swapsWith e none pos.line X.env=pure false:=by rfl):QS X (.Expr e pos) (tDrop te):=⟨L2.ps_expr (he:=he.run) (hs:=hs)⟩
theorem Xc {X:Cx}{pos:Pos}:QS X (.Continue pos) aex:=⟨L2.Xd⟩
theorem ae7 {X:Cx}{pos:Pos}:QS X (.Pass pos) tNext:=⟨L2.afe⟩
theorem adt {X:Cx}{st:Stmt}:QS X st abl:=⟨L2.adx⟩
theorem agp {X:Cx}{pos:Pos}{tg e:Expr}{te:TE}{g:TG} (he:QE X e te) (hg:QG X tg g) (hs:swapsWithSole [tg] e pos.line X.env=pure false:=by rfl) (hw:swappedStores [tg] e X.env=pure none:=by rfl) (h1:(assignEach [tg] X.env).map (·.2)=[assign tg X.env]:=by rfl):QS X (.Assign [tg] e pos) (tAsg te g):=⟨L2.agC (he:=he.run) (hg:=hg.run) (hs:=hs) (hw:=hw) (h1:=h1)⟩
theorem bR {X:Cx}:QSs X [] tNext:=⟨L2.pss_nil⟩
theorem aA {X:Cx}{st:Stmt}{rest:List Stmt}{t u:TS} (h1:QS X st t) (h2:QSs X rest u):QSs X (st::rest) (tSeq t u):=⟨L2.pss_cons (h1:=h1.run) (h2:=h2.run)⟩
theorem aB {X:Cx}{st:Stmt}{t:TS} (h1:QS X st t):QSs X [st] t:=⟨L2.pss_one (h1:=h1.run)⟩
theorem Fj {X:Cx}{tg:Expr}{a:Expr}{ta:TA}{p pos:Pos} (hg:Gl X "range") (hm:X.mg "range"=none) (ha:QA X [a] ta) (hs:starEach [a] X.env=[(false,eval a X.env)]:=by rfl):QI X tg (.Call (.Name "range" p) [a] [] pos) (aeD ta):=⟨L2.abK (hg:=hg) (hm:=hm) (ha:=ha.run) (hs:=hs)⟩
theorem Yv {X:Cx}{tg:Expr}{l:Expr}{tl:TE} (hl:QE X l tl):QI X tg l (iList X.K tl):=⟨L2.pi_list (hl:=hl.run)⟩
theorem abI {X:Cx}{tg:Expr}{l:Expr}{tl:TE} (hl:QE X l tl):QI X tg l (ahn X.K tl):=⟨L2.agF (hl:=hl.run)⟩
theorem HX {X:Cx}{pos:Pos}{i:Nat}{x:Str} (hN:X.N.Nodup) (hi:X.N[i]?=some x) (hx:Loc X.env.scope x) (hf:X.fn x=true∨X.env.scope.names.lookup x=some .local:=by first | exact .inl rfl | exact .inr rfl | assumption):QG X (.Name x pos) (gName i):=⟨L2.pg_name (hN:=hN) (hi:=hi) (hx:=hx) (hf:=hf)⟩
theorem agq {X:Cx}{pos:Pos}{es:List Expr}{k:Nat}{t:TGs}{n:Nat} (hc:X.calm=true) (h:QGs X es t) (hn:(assignEach es X.env).length=n:=by rfl) (hst:(assignEach es X.env).findIdx? (·.1)=none:=by rfl):QG X (.Tuple es k pos) (ad5 X.K n t):=⟨L2.abL (hc:=hc) (h:=h.run) (hn:=hn) (hst:=hst)⟩
theorem ae_ {X:Cx}:QGs X [] ad6:=⟨L2.Yx⟩
theorem Uh {X:Cx}{e:Expr}{es:List Expr}{t:TG}{u:TGs} (h1:QG X e t) (h2:QGs X es u) (hs:(assignEach (e::es) X.env).map (·.2)=assign e X.env::(assignEach es X.env).map (·.2):=by rfl):QGs X (e::es) (SN t u):=⟨L2.J9 (h1:=h1.run) (h2:=h2.run) (hs:=hs)⟩
theorem Aq {X:Cx}:QO X none Om:=⟨L2.afi⟩
theorem Ao {X:Cx}{e:Expr}{te:TE} (h:QE X e te):QO X (some e) (aeu te):=⟨L2.afh (h:=h.run)⟩
theorem okQ {P:Program}{w:World}{K:PySem.W.Frag}{mg:Str→Option Value}{base:Heap}{x qual:Str}{st:Stmt}{f:Addr}{fd:FuncData}{N ps:List Str}{k:Nat}{sp:Sp} (F:Fun K x qual st f fd) (S:FnScope N ps (defScope st)) (len:∀ vs H Q E,sp vs H Q E→vs.length=ps.length)
  (hb:∀ (cdv:Value) (A:Around) (outer:List Env) (s:Shared) (H:Hp) (vs:List V) (Q:VK) (E:XK),Room k (A.deeper (envOfC qual (defScope st) s.heap.objs.size f cdv))→sp vs H Q E →
   ∃ t,QSs (cxOf CX0 P w K mg base N qual (defScope st) f cdv A outer s H E).nox (defBody st) t∧t { nx:=fun _ H'=>Q .non H',rt:=Q } (start N vs) H):FnOk P w K mg base CX0 (k+1) f fd ps sp :=
 F.ok S len fun cdv A outer s H vs Q E hr h=>let ⟨t,q,r⟩:=hb cdv A outer s H vs Q E hr h; ⟨t,q.run,r⟩
end Sw
namespace Sw
open PySem PySem.Spec PyProof.Rows L2
theorem qL:bootBuiltins "len"=some (.builtin "len"):=by decide +kernel
theorem acp:bootBuiltins "sum"=some (.builtin "sum"):=by decide +kernel
theorem ain:bootBuiltins "min"=some (.builtin "min"):=by decide +kernel
theorem dY:bootBuiltins "isinstance"=some (.builtin "isinstance"):=by decide +kernel
theorem aio:bootBuiltins "int"=some (.type "int"):=by decide +kernel
theorem afY:bootBuiltins "bool"=some (.type "bool"):=by decide +kernel
theorem mQ:bootBuiltins "tuple"=some (.type "tuple"):=by decide +kernel
theorem afX:bootBuiltins "list"=some (.type "list"):=by decide +kernel
theorem small {n:Nat} (h:n≤1000000):n≤sizeLine:=Nat.le_trans h (by decide)
theorem abw {n:Nat} (h:n≤1000000):n<sizeLine:=Nat.lt_of_le_of_lt h (by decide)
theorem afJ {α:Type}{ys:List α} (h:ys≠[]):∃ y,ys[ys.length - 1]?=some y:=by
 have:ys.length - 1<ys.length:=by
  have:=List.length_pos_iff.mpr h
  lia
 exact⟨ys[ys.length - 1],List.getElem?_eq_getElem this⟩
theorem V2 (xs:List V) (k:Nat):pC xs (some (k:Int)) none=xs.drop k:=by
 unfold pC
 rw [HT.Yq,HT.Ub]
 by_cases h:k≤xs.length
 ·rw [Nat.min_eq_left h,List.take_of_length_le (by rw [List.length_drop]; lia)]
 ·rw [Nat.min_eq_right (by lia),List.drop_eq_nil_of_le (by lia),List.drop_eq_nil_of_le (by lia),List.take_nil]
theorem V1 (xs:List V) (k:Nat):pC xs none (some (k:Int))=xs.take k:=by
 unfold pC
 rw [HT.Yq,HT.Ub,List.drop_zero,Nat.sub_zero]
 by_cases h:k≤xs.length
 ·rw [Nat.min_eq_left h]
 ·rw [Nat.min_eq_right (by lia),List.take_of_length_le (Nat.le_refl _),List.take_of_length_le (by lia)]
section
variable {K:PySem.W.Frag}
theorem aW.rev {α β:Type}{R:α→β→Prop}{as:List α}{bs:List β} (h:aW R as bs):aW R as.reverse bs.reverse:=by
 induction h with
 | nil=>exact .nil
 | cons r _ ih=>rw [List.reverse_cons,List.reverse_cons]; exact ih.append (aW.one r)
def Io (K:PySem.W.Frag) (H₀ H:Hp) (ts:List T) (x:V):Prop:=∃ a xs,x=.ref a∧H₀ a=none∧H a=some (.lst xs)∧TRs K H ts xs
structure Dv (K:PySem.W.Frag) (H₀ H:Hp) (p:Addr) (st:List (List T)) (ys:List V):Prop where
 new:H₀ p=none
 same:Same H₀ H
 at_:H p=some (.lst ys)
 rows:aW (Io K H₀ H) st.reverse ys
 nd:((.ref p:V)::ys).Nodup
theorem Io.upd {H₀ H:Hp}{p:Addr}{o:HO}{ts:List T}{x:V} (h:Io K H₀ H ts x) (hne:x≠.ref p) (k:Kt H (upd H p o)):Io K H₀ (upd H p o) ts x:=by
 obtain⟨a,xs,rfl,h1,h2,h3⟩:=h
 exact⟨a,xs,rfl,h1,by rw [upd_ne (fun z=>hne (by rw [z]))]; exact h2,h3.mono k⟩
theorem wH {H₀ H:Hp}{p:Addr}{o:HO} (k:Kt H (upd H p o)):∀ {ss:List (List T)}{ys:List V},aW (Io K H₀ H) ss ys→(.ref p:V) ∉ ys→aW (Io K H₀ (upd H p o)) ss ys:=by
 intro ss ys h
 induction h with
 | nil=>intro _; exact .nil
 | cons r _ ih=>intro hn; exact .cons (r.upd (fun z=>hn (by rw [z]; exact List.mem_cons_self)) k) (ih fun z=>hn (List.mem_cons_of_mem _ z))
theorem abA {H₀ H:Hp}{p q:Addr}{st:List (List T)}{ys:List V} (R:Dv K H₀ H p st ys) (hq:H q=none):Dv K H₀ (upd (upd H q (.lst [])) p (.lst (ys++[.ref q]))) p ([]::st) (ys++[.ref q]):=by
 have npq:p≠q:=ne_of_none R.at_ hq
 have hq0:H₀ q=none:=R.same.free hq
 have nin:(.ref q:V) ∉ ys:=fun hm=>by
  obtain⟨i,hi⟩:=List.mem_iff_getElem?.mp hm
  obtain⟨ts,_,a,xs,e,_,h2,_⟩:=R.rows.get hi
  cases e
  rw [hq] at h2
  cases h2
 have nd:=List.nodup_cons.mp R.nd
 have k1:Kt H (upd H q (.lst [])):=Kt.new hq
 have h1:upd H q (.lst []) p=some (.lst ys):=by rw [upd_ne npq]; exact R.at_
 have k2:Kt (upd H q (.lst [])) (upd (upd H q (.lst [])) p (.lst (ys++[.ref q]))):=Kt.lst h1
 refine⟨R.new,cY (cY R.same hq0) R.new,upd_same,?_,?_⟩
 ·rw [List.reverse_cons]
  refine aW.append (wH k2 (wH k1 R.rows nin) nd.1) (aW.one ⟨q,[],rfl,hq0,?_,bM.mpr rfl⟩)
  rw [upd_ne (Ne.symm npq)]
  exact upd_same
 ·rw [← List.cons_append]
  refine List.nodup_append.mpr ⟨R.nd,by simp,fun x hx y hy e=>?_⟩
  have ey:y=.ref q:=by simpa using hy
  rw [ey] at e
  subst e
  rcases List.mem_cons.mp hx with z | z
  ·exact npq (V.ref.inj z).symm
  ·exact nin z
theorem aW.snoc {α β:Type}{R:α→β→Prop}{as:List α}{a:α}{bs:List β} (h:aW R (as++[a]) bs):∃ bs' b,bs=bs'++[b]∧aW R as bs'∧R a b:=by
 induction as generalizing bs with
 | nil =>
  cases h with
  | cons r h=>cases h; exact⟨[],_,rfl,.nil,r⟩
 | cons c as ih =>
  cases h with
  | cons r h =>
   obtain⟨bs',b,rfl,h1,h2⟩:=ih h
   exact⟨_::bs',b,rfl,.cons r h1,h2⟩
theorem Bf {ys:List V}{v:V}:atI (ys++[v]) (-1)=some v:=by
 unfold atI ixN
 have hl:(ys++[v]).length=ys.length+1:=by simp
 rw [if_neg (by decide),if_pos (by rw [hl]; lia),hl,show ((-1:Int)+((ys.length+1:Nat):Int)).toNat=ys.length by lia,Option.bind_some]
 simp
theorem aiJ {t u:TT}{σ:Sg}{H H1 H2:Hp}{Q:Bool→Hp→Prop}{b1 b2:Bool} (h1:∀ R:Bool→Hp→Prop,R b1 H1→t σ H R) (h2:∀ R:Bool→Hp→Prop,R b2 H2→u σ H1 R) (q1:b1=true→Q b2 H2) (q2:b1=false→Q false H1):Zn t u σ H Q:=by
 refine h1 _ ?_
 cases b1 with
 | true=>exact iteT (h2 _ (q1 rfl))
 | false=>exact iteF (q2 rfl)
theorem abk {t u:TT}{σ:Sg}{H:Hp}{Q:Bool→Hp→Prop}{b1 b2:Bool} (h1:∀ R:Bool→Hp→Prop,R b1 H→t σ H R) (h2:∀ R:Bool→Hp→Prop,R b2 H→u σ H R) (q:Q (b1 && b2) H):Zn t u σ H Q :=
 aiJ h1 h2 (fun e=>by subst e; exact q) (fun e=>by subst e; exact q)
end
end Sw
namespace Sw
open PySem PySem.Spec PyProof.Rows L2
section
variable {X:Cx}
def abE (K:PySem.W.Frag):R2:=fun x y H Q=>∃ a b xs ys,x=.ref a∧y=.ref b∧SqT K H a xs∧SqT K H b ys∧xs.length+ys.length≤sizeLine∧∀ p H',Same H H'→SqT K H' p (xs++ys)→Q (.ref p) H'
theorem bB:OpR X (binaryOp .Add) (abE X.K):=by
 intro pins s σ H x y v u Q I rx ry h
 obtain⟨a,b,xs,ys,rfl,rfl,ha,hb,hz,q⟩:=h
 by_cases hx:xs=[]
 ·subst hx
  cases rx
  cases ry
  obtain⟨its,r1,p1,_⟩:=I.tuple ha
  obtain⟨its2,r2,p2,_⟩:=I.tuple hb
  have e1:its=[]:=r1.Aw.mpr rfl
  subst e1
  obtain⟨⟨cls,dd,data,sl⟩,ho,hc,n,hd⟩:=id p1
  obtain⟨⟨cls2,dd2,data2,sl2⟩,ho2,hc2,n2,hd2⟩:=id p2
  simp only at hc hd hc2 hd2
  subst hc hd hc2 hd2
  exact concat_meets ⟨_,ho,rfl⟩ ⟨_,ho2,rfl⟩ noFill_tuple_add seq_tuple_add PySem.F.slot_tuple_add PySem.F.entry_tuple_add (PySem.F.args_tuple_add_2 _ _)
   (tuple_addW0 a b ([]:List Value).toArray its2.toArray n n2 dd dd2 sl sl2 rfl) ⟨ho,ho2,⟨.ref b,H,I,rfl,q b H (Same.refl H) hb⟩⟩
 ·refine afr pins s σ H _ _ v u Q I rx ry ⟨a,b,xs,ys,rfl,rfl,ha,hb,hx,hz,fun e=>?_,fun _ p hp=>q p _ (same_new hp _) (SqT.of upd_same)⟩
  subst e
  exact q a H (Same.refl H) (by rw [List.append_nil]; exact ha)
theorem Kv:fillsNumberSlot (.type "tuple") "mul"=pure false:=by
 first | kernel_rfl | (unfold fillsNumberSlot; kernel_rfl)
theorem Ue:seqRepeat? (.type "tuple")=pure (some (.builtin "tuple.__mul__")):=by
 unfold seqRepeat?
 first | kernel_rfl | (simp only [typeLookup_type,builtinLookup_eq_fast]; kernel_rfl) | rfl
theorem Zx (a:Int) (t:Tok) (l:Addr) (items:Array Value) (n:Nat) (dd:Option Addr) (sl:Array (Option Value)) :
  Meets (Builtin.«int.__rmul__» ⟨[.int a t,.ref l],[]⟩) (fun _ R s=>s.heap.get? l=some { cls:=.type "tuple",dict:=dd,data:=.seq items n,slots:=sl }∧R (.ok (.ret Value.notImplemented)) s) :=
 .of_wp fun prog w A R s h=>by
  obtain⟨hp,g,d,tk,os⟩:=s
  obtain⟨hl,h⟩:=h
  wp_walk
  exact⟨_,rfl,h⟩
theorem abh (l:Addr) (items:Array Value) (n:Nat) (dd:Option Addr) (sl:Array (Option Value)) (k:Int) (t:Tok) (h0:(items.isEmpty || k == 1)=true) (h1:¬ (decide (k < -(2 ^ 63)) || decide (k ≥ 2 ^ 63))=true) :
  Meets (Builtin.«tuple.__mul__» ⟨[.ref l,.int k t],[]⟩) (fun _ R s=>s.heap.get? l=some { cls:=.type "tuple",dict:=dd,data:=.seq items n,slots:=sl }∧R (.ok (.ret (.ref l))) s) :=
 .of_wp fun prog w A R s h=>by
  obtain⟨hp,g,d,tk,os⟩:=s
  obtain⟨hl,h⟩:=h
  have f1:=AutoSeq1.idx_int
  have f2:=AutoSeq1.sub_tuple_tuple
  wp_walk using AutoSeq1.wpAny_loadPart' hl
  rw [if_neg h1]
  wp_walk using AutoSeq1.wpAny_loadPart' hl
  exact⟨_,rfl,h⟩
theorem abg (l:Addr) (items:Array Value) (n:Nat) (dd:Option Addr) (sl:Array (Option Value)) (k:Int) (t:Tok) (h0:¬ (items.isEmpty || k == 1)=true) (h1:¬ (decide (k < -(2 ^ 63)) || decide (k ≥ 2 ^ 63))=true) (h2:(decide (k≤0) || items.isEmpty)=true) :
  Meets (Builtin.«tuple.__mul__» ⟨[.ref l,.int k t],[]⟩) (fun _ R s=>s.heap.get? l=some { cls:=.type "tuple",dict:=dd,data:=.seq items n,slots:=sl }∧R (.ok (.ret (.ref s.heap.objs.size))) { s with heap:=s.heap.push { cls:=.type "tuple",data:=.seq #[] } }) :=
 .of_wp fun prog w A R s h=>by
  obtain⟨hp,g,d,tk,os⟩:=s
  obtain⟨hl,h⟩:=h
  have f1:=AutoSeq1.idx_int
  have f2:=AutoSeq1.sub_tuple_tuple
  wp_walk using AutoSeq1.wpAny_loadPart' hl
  rw [if_neg h1]
  wp_walk using AutoSeq1.wpAny_loadPart' hl
  exact⟨_,rfl,h⟩
theorem abj (l:Addr) (items:Array Value) (n:Nat) (dd:Option Addr) (sl:Array (Option Value)) (k:Int) (t:Tok) (h0:¬ (items.isEmpty || k == 1)=true) (h1:¬ (decide (k < -(2 ^ 63)) || decide (k ≥ 2 ^ 63))=true) (h2:¬ (decide (k≤0) || items.isEmpty)=true)
  (h3:¬ (items.size:Int) * k > (2 ^ 63 - 1) / 8) (h4:¬ Builtin.Tuple.tupleTooMany ((items.size:Int) * k)=true) (h5:((List.replicate k.toNat items).foldl (·++·) #[]).size≤sizeLine) :
  Meets (Builtin.«tuple.__mul__» ⟨[.ref l,.int k t],[]⟩) (fun _ R s=>s.heap.get? l=some { cls:=.type "tuple",dict:=dd,data:=.seq items n,slots:=sl }∧R (.ok (.ret (.ref s.heap.objs.size))) { s with heap:=s.heap.push { cls:=.type "tuple",data:=.seq ((List.replicate k.toNat items).foldl (·++·) #[]) } }) :=
 .of_wp fun prog w A R s h=>by
  obtain⟨hp,g,d,tk,os⟩:=s
  obtain⟨hl,h⟩:=h
  have f1:=AutoSeq1.idx_int
  have f2:=AutoSeq1.sub_tuple_tuple
  wp_walk using AutoSeq1.wpAny_loadPart' hl
  rw [if_neg h1]
  wp_walk using AutoSeq1.wpAny_loadPart' hl
  rw [if_neg h3]
  wp_walk using AutoSeq1.wpAny_loadPart' hl
  exact⟨_,rfl,h⟩
def rQ (xs:List V) (k:Int):List V:=(List.replicate k.toNat xs).flatten
def Fi (K:PySem.W.Frag):R2:=fun x y H Q=>∃ a k xs,x=.ref a∧y=.int k∧SqT K H a xs∧-(2 ^ 62)≤k∧k<2 ^ 62∧xs.length * k.toNat≤sizeLine∧∀ p H',Same H H'→SqT K H' p (rQ xs k)→Q (.ref p) H'
theorem oY:OpR X (binaryOp .Mult) (Fi X.K):=by
 intro pins s σ H x y v u Q I rx ry h
 obtain⟨a,k,xs,rfl,rfl,ha,h1,h2,hz,q⟩:=h
 cases rx
 obtain⟨t,rfl⟩:=ry
 obtain⟨its,r,p1,hzx⟩:=I.tuple ha
 have hlen:=r.length
 obtain⟨⟨cls,dd,data,sl⟩,ho,hc,n,hd⟩:=id p1
 simp only at hc hd
 subst hc hd
 have b1:¬ (decide (k < -(2 ^ 63)) || decide (k ≥ 2 ^ 63))=true:=by
  rw [decide_eq_false (by lia),decide_eq_false (by lia)]
  decide
 refine wpAny_binaryOp_repeat_ref (T:="tuple") (U:="int") (by decide) ⟨_,ho,rfl⟩ (fun s'=>typeIs_int s' k t) Kv F.fills_int_mul F.slot_int_rmul Ue F.slot_int_index.lookup
  (call_meets F.slot_int_rmul (typeIs_int s k t) F.entry_int_rmul (F.args_int_rmul_2 _ _) (Zx k t a its.toArray n dd sl) ⟨ho,rfl,⟨_,ho,rfl⟩,?_⟩)
 by_cases c0:(its.toArray.isEmpty || k == 1)=true
 ·refine call_meets F.slot_tuple_mul ⟨_,ho,rfl⟩ F.entry_tuple_mul (F.args_tuple_mul_2 _ _) (abh a its.toArray n dd sl k t c0 b1) ⟨ho,⟨.ref a,H,I,rfl,q a H (Same.refl H) ?_⟩⟩
  rcases Bool.or_eq_true_iff.mp c0 with z | z
  ·have:its=[]:=by simpa using z
   have hx:xs=[]:=r.Aw.mp this
   subst hx
   have:rQ ([]:List V) k=[]:=by unfold rQ; simp
   rw [this]
   exact ha
  ·have:k=1:=by simpa using z
   subst this
   have:rQ xs 1=xs:=by unfold rQ; simp
   rw [this]
   exact ha
 ·by_cases c2:(decide (k≤0) || its.toArray.isEmpty)=true
  ·refine call_meets F.slot_tuple_mul ⟨_,ho,rfl⟩ F.entry_tuple_mul (F.args_tuple_mul_2 _ _) (abg a its.toArray n dd sl k t c0 b1 c2) ⟨ho,?_⟩
   have hk:k≤0:=by
    rcases Bool.or_eq_true_iff.mp c2 with z | z
    ·exact of_decide_eq_true z
    ·rw [z] at c0
     exact absurd rfl c0
   have e0:rQ xs k=[]:=by
    unfold rQ
    rw [show k.toNat=0 by lia]
    rfl
   refine⟨.ref s.heap.objs.size,_,I.laid (t':=s.toks) (o:=.tup []) (fun b ob z=>Heap.get?_push_of_some _ z) (Nat.le_refl _) ?_,rfl,q _ _ (same_new (I.hok.fresh (Nat.le_refl _)) _) (by rw [e0]; exact SqT.of upd_same)⟩
   exact⟨Nat.zero_le _,[],.nil,IsTup.new _ _⟩
  ·have hk:0<k:=by
    by_cases hk:k≤0
    ·rw [decide_eq_true hk] at c2
     exact absurd rfl c2
    ·lia
   have hsz:its.toArray.size * k.toNat≤sizeLine:=by rw [List.size_toArray,← hlen]; exact hz
   have hsl:(sizeLine:Nat)=16777216:=sizeLine_eq
   have hpr:(its.toArray.size:Int) * k=((its.toArray.size * k.toNat:Nat):Int):=by
    rw [Int.natCast_mul,show ((k.toNat:Nat):Int)=k by lia]
   have hnew:(List.replicate k.toNat its.toArray).foldl (·++·) #[]=(List.replicate k.toNat its).flatten.toArray:=by
    have:=foldl_rep its k.toNat []
    rw [List.nil_append] at this
    exact this
   have hrl:(List.replicate k.toNat its).flatten.length≤sizeLine:=by
    rw [len_rep,Nat.mul_comm]
    simpa using hsz
   refine call_meets F.slot_tuple_mul ⟨_,ho,rfl⟩ F.entry_tuple_mul (F.args_tuple_mul_2 _ _) (abj a its.toArray n dd sl k t c0 b1 c2 ?_ ?_ ?_) ⟨ho,?_⟩
   ·rw [hpr]
    have:((2:Int) ^ 63 - 1) / 8=1152921504606846975:=by decide
    rw [this]
    lia
   ·unfold Builtin.Tuple.tupleTooMany
    rw [hpr,decide_eq_false (by lia)]
    decide
   ·rw [hnew,List.size_toArray]
    exact hrl
   ·rw [hnew]
    have rr:=r.rep k.toNat
    refine⟨.ref s.heap.objs.size,_,I.laid (t':=s.toks) (o:=.tup (rQ xs k)) (fun b ob z=>Heap.get?_push_of_some _ z) (Nat.le_refl _) ?_,rfl,q _ _ (same_new (I.hok.fresh (Nat.le_refl _)) _) (SqT.of upd_same)⟩
    exact⟨by unfold rQ; rw [rr.length]; exact hrl,_,rr,IsTup.new _ _⟩
end
theorem Rv {H:Hp}{lo:Int}{n:Nat}{σ:Sg}{js:List Nat}{te:TE}{Q:VK} (J:Addr→Nat→List V→Hp→Prop) (hz:n≤sizeLine) (h0:∀ D,H D=none→J D 0 [] (upd H D (.lst [])))
  (hD:∀ D i ys H',J D i ys H'→H' D=some (.lst ys)∧ys.length=i)
  (hte:∀ D i ys H' (R:VK),i<n→J D i ys H'→(∀ y H3,H3 D=some (.lst ys)→J D (i+1) (ys++[y]) (upd H3 D (.lst (ys++[y])))→R y H3)→te (some (.int (lo+i))::frv σ js) H' R)
  (q:∀ D ys H',J D n ys H'→Q (.ref D) H'):yQ (Itr lo n) js te σ Q H:=by
 intro D hDn
 refine⟨fun i m ys H'=>m=n - i∧i≤n∧J D i ys H',⟨n,by lia,Nat.zero_le _,h0 D hDn⟩,?_⟩
 rintro i m ys H' ⟨rfl,hi,hj⟩
 obtain⟨h1,h2⟩:=hD D i ys H' hj
 refine⟨h1,?_⟩
 by_cases hlt:i<n
 ·refine .inr ⟨hlt,fun x H2 y=>?_⟩
  obtain⟨e,y⟩:=y
  subst e
  subst y
  exact hte D i ys _ _ hlt hj fun y H3 g1 g2=>⟨g1,by lia,n - (i+1),by lia,rfl,hlt,g2⟩
 ·have e:i=n:=by lia
  subst e
  exact .inl ⟨Nat.le_refl _,q D ys H' hj⟩
theorem YH {K:PySem.W.Frag}{H:Hp}{a:Addr}{xs:List V}{σ:Sg}{js:List Nat}{te:TE}{Q:VK} (J:Addr→Nat→List V→Hp→Prop) (hz:xs.length≤sizeLine) (h0:∀ D,H D=none→J D 0 [] (upd H D (.lst [])))
  (hD:∀ D i ys H',J D i ys H'→H' D=some (.lst ys)∧ys.length=i∧SqT K H' a xs)
  (hte:∀ D i x ys H' (R:VK),xs[i]?=some x→J D i ys H'→(∀ y H3,H3 D=some (.lst ys)→J D (i+1) (ys++[y]) (upd H3 D (.lst (ys++[y])))→R y H3)→te (some x::frv σ js) H' R)
  (q:∀ D ys H',J D xs.length ys H'→Q (.ref D) H'):yQ (Itt K a) js te σ Q H:=by
 intro D hDn
 refine⟨fun i m ys H'=>m=xs.length - i∧i≤xs.length∧J D i ys H',⟨xs.length,by lia,Nat.zero_le _,h0 D hDn⟩,?_⟩
 rintro i m ys H' ⟨rfl,hi,hj⟩
 obtain⟨h1,h2,h3⟩:=hD D i ys H' hj
 refine⟨h1,?_⟩
 by_cases hlt:i<xs.length
 ·refine .inr ⟨⟨xs,xs[i],h3,List.getElem?_eq_getElem hlt⟩,fun x H2 y=>?_⟩
  obtain⟨e,y⟩:=y
  subst e
  exact hte D i x ys _ _ (y xs h3) hj fun y H3 g1 g2=>⟨g1,by lia,xs.length - (i+1),by lia,rfl,hlt,g2⟩
 ·have e:i=xs.length:=by lia
  subst e
  exact .inl ⟨⟨xs,h3,Nat.le_refl _⟩,q D ys H' hj⟩
theorem adR {K:PySem.W.Frag}{H:Hp}{a:Addr}{xs:List V}{σ:Sg}{js:List Nat}{te:TE}{Q:VK} (J:Addr→Nat→List V→Hp→Prop) (hz:xs.length≤sizeLine) (h0:∀ D,H D=none→J D 0 [] (upd H D (.lst [])))
  (hD:∀ D i ys H',J D i ys H'→H' D=some (.lst ys)∧ys.length=i∧SqL K H' a xs)
  (hte:∀ D i x ys H' (R:VK),xs[i]?=some x→J D i ys H'→(∀ y H3,H3 D=some (.lst ys)→J D (i+1) (ys++[y]) (upd H3 D (.lst (ys++[y])))→R y H3)→te (some x::frv σ js) H' R)
  (q:∀ D ys H',J D xs.length ys H'→Q (.ref D) H'):yQ (Itl K a) js te σ Q H:=by
 intro D hDn
 refine⟨fun i m ys H'=>m=xs.length - i∧i≤xs.length∧J D i ys H',⟨xs.length,by lia,Nat.zero_le _,h0 D hDn⟩,?_⟩
 rintro i m ys H' ⟨rfl,hi,hj⟩
 obtain⟨h1,h2,h3⟩:=hD D i ys H' hj
 refine⟨h1,?_⟩
 by_cases hlt:i<xs.length
 ·refine .inr ⟨⟨xs,xs[i],h3,List.getElem?_eq_getElem hlt⟩,fun x H2 y=>?_⟩
  obtain⟨e,y⟩:=y
  subst e
  exact hte D i x ys _ _ (y xs h3) hj fun y H3 g1 g2=>⟨g1,by lia,xs.length - (i+1),by lia,rfl,hlt,g2⟩
 ·have e:i=xs.length:=by lia
  subst e
  exact .inl ⟨⟨xs,h3,Nat.le_refl _⟩,q D ys H' hj⟩
def yE (H:Hp) (p:Addr):Prop:=∃ ns:List Int,H p=some (.lst (ns.map V.int))
structure Dr (p:Addr) (H H':Hp):Prop where
 keep:∀ b o,b≠p→H b=some o→H' b=some o
 gA:yE H' p
theorem Dr.refl {p:Addr}{H:Hp} (d:yE H p):Dr p H H:=⟨fun _ _ _ e=>e,d⟩
theorem Dr.trans {p:Addr}{H H1 H2:Hp} (a:Dr p H H1) (b:Dr p H1 H2):Dr p H H2:=⟨fun c o n e=>b.keep c o n (a.keep c o n e),b.gA⟩
theorem Dr.same {p:Addr}{H H1 H2:Hp} (a:Dr p H H1) (S:Same H1 H2):Dr p H H2:=⟨fun c o n e=>S c o (a.keep c o n e),let ⟨ns,e⟩:=a.gA; ⟨ns,S _ _ e⟩⟩
theorem Dr.kt {p:Addr}{H H':Hp} (d:yE H p) (a:Dr p H H'):Kt H H':=by
 obtain⟨ns,e⟩:=d
 exact⟨fun b xs q=>a.keep b _ (ne_of q e (fun z=>by cases z)) q,fun b o u q=>a.keep b _ (ne_of q e (fun z=>by cases z)) q⟩
theorem Dr.upd {p b:Addr}{H H':Hp}{o:HO} (a:Dr p H H') (h:H b=none) (hp:b≠p):Dr p H (upd H' b o) :=
 ⟨fun c u n e=>by rw [upd_ne (ne_of_none e h)]; exact a.keep c u n e,let ⟨ns,e⟩:=a.gA; ⟨ns,by rw [upd_ne (Ne.symm hp)]; exact e⟩⟩
end Sw
namespace Sw
open PySem PySem.Spec PyProof.Rows L2
section
variable {X:Cx}{scope:Scope}{cl:List (Str×Addr)}{x:Str}{fr:List Str}{js:List Nat}{elt iter:Expr}{px pos:Pos}{wi:TI}{te:TE}{pins:List (Addr×Obj)}{s:Shared}{σ:Sg}{H:Hp}
theorem afI {Q:VK} (use:Option (Value→Sem Unit)) (QQ:Value→Shared→Prop) (hc:X.calm=true) (L:yw X scope x fr js cl) (hi:PI X (.Name x px) iter wi)
  (he:∀ C s H fp pins,PE (blk X scope cl C (x::fr) s H fp pins) elt te)
  (hs:∀ v,foldedSetIterable iter X.env v=pure v) (I:Inv X pins σ H s) (h:tLC wi js te σ H Q)
  (fin:∀ (D C:Addr) (s6:Shared) (H5:Hp) (m6:Str→Option Value),s6.heap.Ns C m6→H5 C=none→(∀ h',Heap.SameBut C s6.heap h'→Inv X pins σ H5 { s6 with heap:=h' })→X.env.locals≠C→X.s₀.heap.objs.size≤C →
   (∀ y c,X.env.cells.lookup y=some c→c≠C)→(∀ p∈X.pn++pins,p.1≠C)→Q (.ref D) H5→compPost (model X.prog X.w) X.A X.xe use QQ (.ref D) C (.ok .next) s6) :
  wpAny (model X.prog X.w) X.A (comprehension (.ListComp elt [⟨.Name x px,iter,[],0⟩] scope pos) scope X.env (firstIterPos [⟨.Name x px,iter,[],0⟩] pos) (newList []) false (eval iter X.env) use) QQ X.xe s:=by
 refine wpAny_comprehension_free rfl hs L.clos L.kind L.loc (thn (hi pins s σ H _ I h) fun v s1 h1=>thn h1 fun itv s2 h2=>?_)
 obtain⟨it,fp,tn,J,H2,e,I2,T,st2,f2,rd⟩:=h2
 subst e
 obtain⟨W,⟨m0,w0⟩,turn⟩:=rd _ I2.fresh
 have I3:=I2.lnew (ys:=[]) (its:=[]) (t':=s2.toks) .nil (Nat.zero_le _)
 refine wpAny_newObj_type ?_
 have Ga:∀ b∈fp,b<s2.heap.objs.size:=fun b hb=>by
  obtain⟨o,ho,_⟩:=T.obj 0 _ st2 b hb
  exact Heap.lt_size ho
 generalize hs3:({ s2 with heap:=s2.heap.push { cls:=.type "list",dict:=none,data:=.seq ([]:List Value).toArray } }:Shared)=s3
 have I3':Inv X pins σ (upd H2 s2.heap.objs.size (.lst [])) s3:=by rw [← hs3]; exact I3
 have sz3:s3.heap.objs.size=s2.heap.objs.size+1:=by rw [← hs3]; exact Heap.size_push ..
 have k23:∀ b o,s2.heap.get? b=some o→s3.heap.get? b=some o:=fun b o e=>by rw [← hs3]; exact Heap.get?_push_of_some _ e
 have fsz:∀ b∈fp,b<s3.heap.objs.size:=fun b hb=>by rw [sz3]; exact Nat.lt_succ_of_lt (Ga b hb)
 have f3:∀ b∈fp,FpOk X pins (upd H2 s2.heap.objs.size (.lst [])) b:=fun b hb=>⟨by rw [upd_ne (Nat.ne_of_lt (Ga b hb))]; exact (f2 b hb).1,(f2 b hb).2⟩
 refine wpAny_newFunctionEnv L.cell (by intro y hy; simp at hy) (fun h4 hn4 Vo=>?_) L.kind
 have k34:∀ b o,s3.heap.get? b=some o→h4.get? b=some o:=fun b o e=>(Vo.2 b (Nat.ne_of_lt (Heap.lt_size e))).trans (Heap.get?_push_of_some _ e)
 generalize hX':blk X scope cl s3.heap.objs.size (x::fr) s3 (upd H2 s2.heap.objs.size (.lst [])) fp pins=X'
 have I4:Inv X' [] (none::frv σ js) (upd H2 s2.heap.objs.size (.lst [])) { s3 with heap:=h4,toks:=s3.toks+([]:List (Str×Value)).length }:=by
  rw [← hX']; exact Y4 I3' L hc f3 fsz hn4 k34
 have st4:tn 0 h4:=T.keep _ _ _ st2 fun b _ o e=>k34 b o (k23 b o e)
 have he':PE X' elt te:=by rw [← hX']; exact he _ _ _ _ _
 have xp:X'.prog=X.prog:=by rw [← hX']; rfl
 have xw:X'.w=X.w:=by rw [← hX']; rfl
 have xK:X'.K=X.K:=by rw [← hX']; rfl
 have xA:X'.A=X.A:=by rw [← hX']; rfl
 have xc:X'.calm=true:=by rw [← hX']; rfl
 have xe:X'.xe=fun _ _=>False:=by rw [← hX']; rfl
 have xn:X'.N=x::fr:=by rw [← hX']; rfl
 have xv:X'.env=compEnvC scope cl s3.heap.objs.size X.env:=by rw [← hX']; rfl
 have xpn:X'.pn=X.pn++pins:=by rw [← hX']; rfl
 have xex:X'.ex=fp:=by rw [← hX']; rfl
 have xfs:X'.fs=frs X.stack:=by rw [← hX']; rfl
 have back:∀ {H':Hp}{s':Shared}{h':Heap}{σ':Sg},Inv X' [] σ' H' s'→Heap.SameBut s3.heap.objs.size s'.heap h'→Inv X pins σ H' { s' with heap:=h' }:=fun {H' s' h' σ'} J' hsb=>by
  rw [← hX'] at J'; exact Ls I3' J' f3 hsb
 have frame:∀ b∈fp,b ∉ frs X.stack:=fun b hb z=>by
  rcases List.mem_cons.mp (I3'.stkSub b z) with e | e
  ·exact (f3 b hb).2.1 e
  ·exact (f3 b hb).2.2.1 e
 have stat:∀ {H':Hp},(∀ b∈fp,H' b=none)→∀ b∈fp,FpOk X' [] H' b:=fun {H'} hn b hb=>by
  refine⟨hn b hb,?_,?_,.inl (by rw [xex]; exact hb),?_,?_⟩
  ·rw [xv]; exact Nat.ne_of_lt (fsz b hb)
  ·rw [xfs]; exact frame b hb
  ·rw [xv]; exact fun y c e=>(f3 b hb).2.2.2.2.1 y c (L.sub y c e)
  ·rw [xpn,List.append_nil]; exact (f3 b hb).2.2.2.2.2
 have loop:codeAny (model X.prog X.w) X.A (.compLoop (.ListComp elt [⟨.Name x px,iter,[],0⟩] scope pos) 0 (.ref it) (.ref s2.heap.objs.size) (compEnvC scope cl s3.heap.objs.size X.env))
   (compPost (model X.prog X.w) X.A X.xe use QQ (.ref s2.heap.objs.size) s3.heap.objs.size) { s3 with heap:=h4,toks:=s3.toks+([]:List (Str×Value)).length }:=by
  refine Qm (fun n s'=>∃ i ys o H',Inv X' [] (o::frv σ js) H' s'∧tn i s'.heap∧(∀ b∈fp,H' b=none)∧W i n ys H') ?_ m0 ⟨0,[],none,_,I4,st4,fun b hb=>(f3 b hb).1,w0⟩
  rintro n s5 ⟨i,ys,o,H5,I5,st5,fr5,w5⟩
  obtain⟨hD,hstep⟩:=turn i n ys H5 w5
  rcases hstep with⟨stop,qn⟩ | ⟨go,step⟩
  ·have q:=T.done X' xp xw xK xc i [] s5 _ H5 (fun _ _=>False) I5 (stat fr5) st5 stop
   rw [xA] at q
   refine thn q fun r s6 ⟨hr,I6⟩=>?_
   subst hr
   obtain⟨m6,hn6,_⟩:=I6.loc
   rw [xv] at hn6
   have nC:H5 s3.heap.objs.size=none:=by
    have q:=I6.free
    rw [xv] at q
    exact q
   exact fin s2.heap.objs.size s3.heap.objs.size s6 H5 m6 hn6 nC (fun h' hsb=>back I6 hsb) (Nat.ne_of_lt I3'.lt) I3'.sz (fun y c e=>Nat.ne_of_lt (by
    obtain⟨v,hv⟩:=I3'.cell y c e
    obtain⟨o,ho,_⟩:=hv
    exact Heap.lt_size ho)) (fun p hp=>Nat.ne_of_lt (Heap.lt_size (I3'.pin p hp).1)) qn
  ·have q:=T.item X' xp xw xK xc i [] s5 _ H5 (fun _ _=>False) I5 (stat fr5) st5 go
   rw [xA] at q
   refine thn q fun r s6 ⟨u,hr,h6⟩=>?_
   subst hr
   refine thn h6 fun _ s7 ⟨xx,H7,I7,r7,y7,st7,fr7⟩=>?_
   have I7':=I7.pinned (stat fr7) (T.obj _ _ st7)
   have hg:PG X' (.Name x px) (gName 0):=by
    refine pg_name (i:=0) (x:=x) (by rw [xn]; exact L.nd) (by rw [xn]; rfl) ?_ ?_
    ·rw [xv]; exact .inl (lookup_relabel_local L.var)
    ·rw [xv]; exact .inr (lookup_relabel_local L.var)
   have q7:=hg _ s7 _ H7 xx u (fun σ8 H8=>σ8=some xx::frv σ js∧H8=H7) I7' r7 ⟨rfl,rfl⟩
   rw [xp,xw,xA,xe,xv] at q7
   refine thn q7 fun _ s8 ⟨σ8,H8,I8,e8,e8'⟩=>?_
   subst e8 e8'
   have q8:=he' _ s8 _ _ _ I8 (step xx _ y7)
   rw [xp,xw,xA,xe,xv] at q8
   refine thn q8 fun yv s9 ⟨y,H9,I9,r9,d9,z9,m9,hm9,w9⟩=>?_
   have q9:=cN (X:=X') _ s9 _ H9 (.ref s2.heap.objs.size) [y] (.ref s2.heap.objs.size) [yv] (fun z H'=>H'=upd H9 s2.heap.objs.size (.lst (ys++[y]))) I9 rfl (.cons r9 .nil) ⟨_,ys,y,rfl,rfl,d9,z9,rfl⟩
   rw [xp,xw,xA,xe] at q9
   refine thn q9 fun _ s10 ⟨_,H10,I10,_,e10⟩=>?_
   subst e10
   refine⟨m9,hm9,i+1,ys++[y],some xx,_,I10.unpinned,T.keep _ _ _ st7 fun b hb ob e=>(I10.pin (b,ob) (List.mem_append_right _ (List.mem_append_right _ (mem_pinsAt hb e)))).1,fun b hb=>?_,w9⟩
   obtain⟨ob,e,_⟩:=T.obj _ _ st7 b hb
   exact (I10.pin (b,ob) (List.mem_append_right _ (List.mem_append_right _ (mem_pinsAt hb e)))).2.1
 exact codeAny_compStart_list loop (T.self _ 0 _ _ _ st4 loop)
theorem adw {i:Nat}{y:Str}{py spos:Pos} (hN:X.N.Nodup) (hy:X.N[i]?=some y) (hx:Loc X.env.scope y) (hc:X.calm=true) (L:yw X scope x fr js cl) (hi:PI X (.Name x px) iter wi)
  (he:∀ C s H fp pins,PE (blk X scope cl C (x::fr) s H fp pins) elt te)
  (hs:∀ v,foldedSetIterable iter X.env v=pure v:=by intro _; rfl)
  (hsw:swapsWith (.ListComp elt [⟨.Name x px,iter,[],0⟩] scope pos) (some (.Name y py)) spos.line X.env=pure true:=by rfl)
  (hf:X.fn y=true∨X.env.scope.names.lookup y=some .local:=by first | exact .inl rfl | exact .inr rfl | assumption) :
  PS X (.Assign [.Name y py] (.ListComp elt [⟨.Name x px,iter,[],0⟩] scope pos) spos) (tAsg (tLC wi js te) (gName i)):=by
 intro pins s σ H D I h
 rw [exec_Assign_Name_used _ _ _ _ hsw]
 refine wpAny_bind (wpAny_standAt (wpAny_bind ?_))
 show wpAny _ X.A (do let _ ← comprehension (.ListComp elt [⟨.Name x px,iter,[],0⟩] scope pos) scope X.env (firstIterPos [⟨.Name x px,iter,[],0⟩] pos) (newList []) false (eval iter X.env) (some (assign (.Name y py) X.env))) _ _ s
 refine wpAny_bind (wpAny_mono (afI (some (assign (.Name y py) X.env)) (fun _ s'=>SP X pins D .next s') hc L hi he hs I h ?_) (fun _ s' hq=>wpAny_pure (wpAny_pure hq)) fun _ _ e=>e)
 intro Dd C s6 H5 m6 hn nC back hLC hsz hcell hpin q
 have J:Inv X pins σ H5 s6:=back s6.heap (Heap.SameBut.refl _ _)
 show wpAny _ X.A (assign (.Name y py) X.env (.ref Dd)) _ _ _
 refine wpAny_assign_Name (store_ok2 (v:=.ref Dd) J hN hy hx rfl (fun s7 I7 hsb=>?_) hf)
 obtain⟨a,hsb,ha⟩:=hsb
 have haC:C≠a:=by
  rcases ha with e | e
  ·rw [e]; exact Ne.symm hLC
  ·exact Ne.symm (hcell _ _ e)
 refine⟨m6,hn.sameBut hsb haC,fun h' hs'=>?_⟩
 have k:∀ b o,b≠C→s7.heap.get? b=some o→h'.get? b=some o:=fun b o n e=>hs'.extBut b o n e
 have J':=I7.turned (t':=s7.toks) k nC (Ne.symm hLC) (.inr hsz) hcell hpin
 exact⟨_,_,J',q⟩
end
theorem adq {X:Cx}{scope:Scope}{cl:List (Str×Addr)}{x:Str}{fr:List Str}{js:List Nat}{elt iter:Expr}{px pos:Pos}{wi:TI}{te:TE}{i:Nat}{y:Str}{py spos:Pos} (hN:X.N.Nodup) (hy:X.N[i]?=some y) (hx:Loc X.env.scope y) (hc:X.calm=true) (L:yw X scope x fr js cl) (hi:QI X (.Name x px) iter wi)
  (he:∀ C s H fp pins,QE (blk X scope cl C (x::fr) s H fp pins) elt te)
  (hs:∀ v,foldedSetIterable iter X.env v=pure v:=by intro _; rfl)
  (hsw:swapsWith (.ListComp elt [⟨.Name x px,iter,[],0⟩] scope pos) (some (.Name y py)) spos.line X.env=pure true:=by rfl)
  (hf:X.fn y=true∨X.env.scope.names.lookup y=some .local:=by first | exact .inl rfl | exact .inr rfl | assumption) :
  QS X (.Assign [.Name y py] (.ListComp elt [⟨.Name x px,iter,[],0⟩] scope pos) spos) (tAsg (tLC wi js te) (gName i)) :=
 ⟨adw hN hy hx hc L hi.run (fun C s H fp pins=>(he C s H fp pins).run) hs hsw hf⟩
end Sw
namespace Sw
open PySem PySem.Spec PyProof.Rows L2
section
variable {K:PySem.W.Frag}{H:Hp}{Q:VK}
theorem cD {ts us:List T}{x y:V} (hx:TR K H (.node ts) x) (hy:TR K H (.node us) y) (hz:ts.length+us.length≤sizeLine) (q:∀ z H',Same H H'→TR K H' (.node (ts++us)) z→Q z H'):abE K x y H Q:=by
 obtain⟨a,xs,rfl,ha,ra⟩:=cQ.mp hx
 obtain⟨b,ys,rfl,hb,rb⟩:=cQ.mp hy
 refine⟨a,b,xs,ys,rfl,rfl,ha,hb,by rw [ra.length,rb.length]; exact hz,fun p H' S h=>q _ _ S (vO h ((ra.append rb).mono (.of S)))⟩
theorem TRs.at {ts:List T}{xs:List V} (h:TRs K H ts xs) {i:Nat}{t:T} (e:ts[i]?=some t):∃ x,xs[i]?=some x∧TR K H t x:=by
 have hl:=h.length
 have hi:i<ts.length:=(List.getElem?_eq_some_iff.mp e).1
 have e2:xs[i]?=some (xs[i]'(by lia)):=List.getElem?_eq_getElem _
 obtain⟨t',e3,h3⟩:=h.get e2
 rw [e] at e3
 cases e3
 exact⟨_,e2,h3⟩
theorem nIx {ts:List T}{x y:V}{t:T} (hx:TR K H (.node ts) x) (i:Nat) (e:ts[i]?=some t) (q:∀ z,TR K H t z→Q z H) (hy:y=.int ((i:Nat):Int):=by rfl):ado K x y H Q:=by
 obtain⟨a,xs,rfl,ha,ra⟩:=cQ.mp hx
 obtain⟨v,e2,h2⟩:=ra.at e
 exact⟨a,xs,_,v,rfl,hy,ha,atI_nat e2,q v h2⟩
theorem aja {ts:List T}{x:V} (hx:TR K H (.node ts) x) (k:Nat) {j:Option Int} (q:∀ z H',Same H H'→TR K H' (.node (ts.drop k)) z→Q z H') (hj:j=some ((k:Nat):Int):=by rfl):Zz K x j none H Q:=by
 obtain⟨a,xs,rfl,ha,ra⟩:=cQ.mp hx
 subst hj
 refine⟨a,xs,rfl,ha,fun p H' S h=>q _ _ S (vO h ?_)⟩
 rw [V2]
 exact (ra.drop k).mono (.of S)
theorem fQ {t:T}{x:V} (h:TR K H t x):TRs K H [t] [x]:=cL.mpr ⟨x,[],rfl,h,bM.mpr rfl⟩
theorem Oe {t u:T}{x y:V} (h:TR K H t x) (g:TR K H u y):TRs K H [t,u] [x,y]:=cL.mpr ⟨x,[y],rfl,h,fQ g⟩
theorem ac3 {t u r:T}{x y z:V} (h:TR K H t x) (g:TR K H u y) (k:TR K H r z):TRs K H [t,u,r] [x,y,z]:=cL.mpr ⟨x,[y,z],rfl,h,Oe g k⟩
end
section
variable {X:Cx}{K:PySem.W.Frag}
end
theorem afH {K:PySem.W.Frag}{p:Addr}{H1:Hp}{n:Nat}{lo:Int}{σ:Sg}{js:List Nat}{te:TE}{Q:VK} (Sh:T→Prop) (hk:yE H1 p) (hn:n≤sizeLine)
  (hte:∀ (i:Nat) H' (R:VK),i<n→Dr p H1 H'→(∀ y t H3,Dr p H' H3→TR K H3 t y→Sh t→R y H3)→te (some (.int (lo+i))::frv σ js) H' R)
  (q:∀ D ys ts H',Dr p H1 H'→H' D=some (.lst ys)→ts.length=n→TRs K H' ts ys→(∀ t∈ts,Sh t)→Q (.ref D) H'):yQ (Itr lo n) js te σ Q H1:=by
 refine Rv (fun D i ys H'=>D≠p∧H1 D=none∧Dr p H1 H'∧H' D=some (.lst ys)∧ys.length=i∧∃ ts,TRs K H' ts ys∧∀ t∈ts,Sh t) hn (fun D hD=>?_) (fun D i ys H' j=>⟨j.2.2.2.1,j.2.2.2.2.1⟩) (fun D i ys H' R hi j hR=>?_) (fun D ys H' j=>?_)
 ·have hne:D≠p:=fun z=>by
   obtain⟨ns,e1⟩:=hk
   rw [z,e1] at hD; cases hD
  exact⟨hne,hD,(Dr.refl hk).upd hD hne,upd_same,rfl,[],bM.mpr rfl,fun _ h=>by simp at h⟩
 ·obtain⟨hne,hD,Dh,h1,hl,ts,htr,hsh⟩:=j
  refine hte i H' R hi Dh fun y t H3 D3 ht hs=>?_
  have h3:=D3.keep D _ hne h1
  refine hR y H3 h3 ⟨hne,hD,(Dh.trans D3).upd hD hne,upd_same,by rw [List.length_append,hl]; rfl,ts++[t],?_,fun u hu=>?_⟩
  ·exact TRs.append ((htr.mono (D3.kt Dh.gA)).mono (Kt.lst h3)) (cL.mpr ⟨y,[],rfl,ht.mono (Kt.lst h3),bM.mpr rfl⟩)
  ·rcases List.mem_append.mp hu with z | z
   ·exact hsh u z
   ·rw [List.mem_singleton.mp z]; exact hs
 ·obtain⟨hne,hD,Dh,h1,hl,ts,htr,hsh⟩:=j
  exact q D ys ts H' Dh h1 (by rw [← htr.length]; exact hl) htr hsh
theorem aip:bootBuiltins "all"=some (.builtin "all"):=by decide +kernel
section
variable {X:Cx}
theorem V7:∀ {bs:List Bool}{its:List Value},Vals (bs.map V.bl) its→its=bs.map Value.bool
 | [],_,h=>by cases h; rfl
 | b::bs,_,h=>by
  cases h with
  | cons r q =>
   rw [V7 q]
   exact congrArg (·::_) r
theorem range_all (bs:List Bool):(List.range bs.length).all (fun i=>bs.getD i true)=bs.all id:=by
 rw [Bool.eq_iff_iff,List.all_eq_true,List.all_eq_true]
 refine⟨fun h b hb=>?_,fun h i hi=>?_⟩
 ·obtain⟨i,hi,e⟩:=List.getElem_of_mem hb
  have:=h i (List.mem_range.mpr hi)
  rw [List.getD_eq_getElem?_getD,List.getElem?_eq_getElem hi,Option.getD_some,e] at this
  exact this
 ·have hi':=List.mem_range.mp hi
  rw [List.getD_eq_getElem?_getD,List.getElem?_eq_getElem hi',Option.getD_some]
  exact h _ (List.getElem_mem hi')
theorem aef (hc:X.calm=true):CallR X (.builtin "all") (fun xs H Q=>∃ (p:Addr) (bs:List Bool),xs=[.ref p]∧SqL X.K H p (bs.map V.bl)∧Q (.bl (bs.all id)) H):=by
 intro pins s σ H xs us Q I r h
 obtain⟨p,bs,rfl,hq,q⟩:=h
 obtain⟨u,rfl,rx⟩:=vals1 r
 cases rx
 obtain⟨its,r',pl,hz⟩:=I.list hq
 have hit:=V7 r'
 subst hit
 have hl:=pl.isList
 have hlt:p<s.heap.objs.size:=by obtain⟨_,e,_⟩:=hl; exact Heap.lt_size e
 refine call_all_walk (wpAny_pyIter_list hl ?_)
 refine⟨_,_,_,_,_,_,fun i=>bs.getD i true,rfl,Walks.list (A:=X.A.in1) (I.ok.hd hc) _ p (Nat.ne_of_lt hlt) (bs.map Value.bool).toArray,⟨⟨_,Heap.get?_push_size _ rfl,rfl,rfl⟩,hl.push _⟩,?_,fun h' tk hk=>?_⟩
 ·intro i v s Q E hv hQ
  rw [List.getElem?_toArray,List.getElem?_map] at hv
  cases hh:bs[i]? with
  | none=>rw [hh] at hv; cases hv
  | some b =>
   rw [hh] at hv
   cases hv
   have hQ':Q (bs.getD i true) s:=hQ
   rw [List.getD_eq_getElem?_getD,hh] at hQ'
   exact wpAny_truthy_bool hQ'
 ·have es:(List.range (bs.map Value.bool).toArray.size).all (fun i=>bs.getD i true)=bs.all id:=by
   rw [List.size_toArray,List.length_map]
   exact range_all bs
  rw [es]
  exact⟨.bl (bs.all id),H,I.kept (old_kept hk),rfl,q⟩
end
def B (a b:Nat) (t:T):Prop:=t.deep≤a∧t.parts≤b
theorem B.le {a b a' b':Nat}{t:T} (h:B a b t) (h1:a≤a') (h2:b≤b'):B a' b' t:=⟨Nat.le_trans h.1 h1,Nat.le_trans h.2 h2⟩
theorem yV:B 0 1 (.node []):=⟨by rw [T.aP,T.bV]; lia,by rw [T.aM,T.aR]; lia⟩
theorem cM {a b a' b':Nat}{t:T}{ts:List T} (h:B a b t) (g:B a' b' (.node ts)):B (max (a+1) a') (b+b') (.node (t::ts)):=by
 obtain⟨h1,h2⟩:=h
 obtain⟨g1,g2⟩:=g
 rw [T.aP] at g1
 rw [T.aM] at g2
 refine⟨?_,?_⟩
 ·rw [T.aP,T.aO]; lia
 ·rw [T.aM,T.aF]; lia
theorem uJ {a b a' b':Nat}{us:List T} (g:B a' b' (.node us)):∀ {ts:List T},B a b (.node ts)→B (max a a') (b+b') (.node (ts++us))
 | [],_=>g.le (by lia) (by lia)
 | t::ts,h=>by
  obtain⟨h1,h2⟩:=h
  rw [T.aP,T.aO] at h1
  rw [T.aM,T.aF] at h2
  have q:=uJ g (ts:=ts) (a:=a) (b:=b - t.parts) ⟨by rw [T.aP]; lia,by rw [T.aM]; lia⟩
  have q1:=q.1
  have q2:=q.2
  rw [T.aP] at q1
  rw [T.aM] at q2
  refine⟨?_,?_⟩
  ·rw [List.cons_append,T.aP,T.aO]; lia
  ·rw [List.cons_append,T.aM,T.aF]; lia
theorem j5 {a b:Nat}{t:T} (h:B a b t):B (a+1) (b+1) (.node [t]):=(cM h yV).le (by lia) (by lia)
theorem SX {a b n:Nat}:∀ {ts:List T},(∀ t∈ts,B a b t)→ts.length≤n→B (a+1) (1+n * b) (.node ts)
 | [],_,_=>yV.le (by lia) (by lia)
 | t::ts,h,hl=>by
  rw [List.length_cons] at hl
  obtain⟨m,rfl⟩:∃ m,n=m+1:=⟨n - 1,by lia⟩
  refine (cM (h t List.mem_cons_self) (SX (n:=m) (fun u hu=>h u (List.mem_cons_of_mem _ hu)) (by lia))).le (by lia) ?_
  rw [Nat.succ_mul]; lia
theorem B.len {a b:Nat}{ts:List T} (h:B a b (.node ts)):ts.length<b:=by
 have h2:=h.2
 rw [T.aM] at h2
 have:∀ us:List T,us.length≤T.aD us:=fun us=>by
  induction us with
  | nil=>exact Nat.zero_le _
  | cons u us ih =>
   rw [List.length_cons,T.aF]
   have:1≤u.parts:=by cases u; rw [T.aM]; lia
   lia
 have:=this ts
 lia
theorem cA {K:PySem.W.Frag}{H:Hp}{p:Addr}{xs:List V}{ts:List T} (hp:H p=none) (h:TRs K H ts xs):Same H (upd H p (.tup xs))∧TR K (upd H p (.tup xs)) (.node ts) (.ref p) :=
 ⟨same_new hp _,vO (SqT.of upd_same) (h.mono (.new hp))⟩
def pbT:Nat→Nat
 | 0=>1
 | d+1=>1+3 * pbT d
theorem abN {ts:List T}{n b:Nat} (hl:ts.length≤n) (h:∀ t∈ts,t.parts≤b):T.aD ts≤n * b :=
 Nat.le_trans (T.Fp h) (Nat.mul_le_mul_right b hl)
theorem Az {K:PySem.W.Frag}{H:Hp}{p:Addr} (h:H p=some (.tup [])):TR K H (.node []) (.ref p):=vO (xs:=[]) (SqT.of h) (bM.mpr rfl)
theorem ae3 (x:V) (n:Nat):rQ [x] (n:Int)=List.replicate n x:=by
 unfold rQ
 rw [Int.toNat_natCast]
 induction n with
 | zero=>rfl
 | succ n ih=>rw [List.replicate_succ,List.flatten_cons,ih,List.replicate_succ]; rfl
theorem Oc {K:PySem.W.Frag}{H:Hp}{t:T}{x:V} (h:TR K H t x):∀ n:Nat,TRs K H (List.replicate n t) (List.replicate n x)
 | 0=>bM.mpr rfl
 | n+1=>by
  rw [List.replicate_succ,List.replicate_succ]
  exact cL.mpr ⟨x,_,rfl,h,Oc h n⟩
theorem YK:∀ {ys:List V},(∀ (i:Nat) y,ys[i]?=some y→∃ n:Int,y=.int n∧0≤n∧n<2147483647)→∃ ns:List Int,ys=ns.map V.int∧∀ n∈ns,0≤n∧n<2147483647
 | [],_=>⟨[],rfl,fun _ h=>by simp at h⟩
 | y::ys,h=>by
  obtain⟨n,rfl,h1,h2⟩:=h 0 y rfl
  obtain⟨ns,e,g⟩:=YK (ys:=ys) fun i z e=>h (i+1) z (by simpa using e)
  refine⟨n::ns,by rw [e]; rfl,fun m hm=>?_⟩
  rcases List.mem_cons.mp hm with rfl | hm
  ·exact⟨h1,h2⟩
  ·exact g m hm
def abu (K:PySem.W.Frag):Sp:=fun vs H Q _=>∃ (a:Addr) (ns:List Int),vs=[.ref a]∧SqL K H a (ns.map V.int)∧ns.length≤63∧∀ p H',Same H H'→H p=none→yE H' p→Q (.ref p) H'
def Ms:Sp:=fun vs H Q _=>∃ (p:Addr) (m:Int),vs=[.ref p,.int m]∧0<m∧yE H p∧∀ i H',0≤i→i<m→Dr p H H'→Q (.int i) H'
def ShT:Nat→T→Prop:=fun d t=>t.deep≤d∧t.parts≤pbT d
def Tr (K:PySem.W.Frag) (n:Nat):Sp:=fun vs H Q _=>∃ (p:Addr) (d:Nat),vs=[.ref p,.int (d:Int)]∧d≤n∧yE H p∧∀ y t H',Dr p H H'→TR K H' t y→ShT d t→Q y H'
def nP (n:Nat):T:=.node (List.replicate n (.node []))
def Bu (K:PySem.W.Frag):Sp:=fun vs H Q _=>∃ n:Nat,vs=[.int (n:Int)]∧n≤100000∧∀ y H',Same H H'→TR K H' (nP n) y→Q y H'
theorem pK (n:Nat):B 1 (1+n) (nP n):=(SX (n:=n) (fun t ht=>by rw [List.eq_of_mem_replicate ht]; exact yV) (by rw [List.length_replicate]; exact Nat.le_refl _)).le (by lia) (by lia)
theorem ShT.b {d:Nat}{t:T} (h:ShT d t):B d (pbT d) t:=h
def pbW:Nat→Nat
 | 0=>60
 | d+1=>60+2 * (1+4 * pbW d)
theorem agP:∀ d,60≤pbW d
 | 0=>Nat.le_refl _
 | d+1=>by rw [pbW]; lia
def ShW (d:Nat) (t:T):Prop:=B (3+2 * d) (pbW d) t
def ShX (d:Nat) (t:T):Prop:=B (4+2 * d) (1+4 * pbW d) t∧t.kids.length≤4
def abn (K:PySem.W.Frag) (n:Nat):Sp:=fun vs H Q _=>∃ (p:Addr) (d:Nat),vs=[.ref p,.int (d:Int)]∧d<n∧yE H p∧∀ y t H',Dr p H H'→TR K H' t y→ShW d t→Q y H'
def abo (K:PySem.W.Frag) (n:Nat):Sp:=fun vs H Q _=>∃ (p:Addr) (d:Nat),vs=[.ref p,.int (d:Int)]∧d<n∧yE H p∧∀ y t H',Dr p H H'→TR K H' t y→ShX d t→Q y H'
theorem ahe {ns:List Nat}{k:Nat} (hk:k<ns.length):∃ c∈ns,atI (ns.map fun n:Nat=>V.int (n:Int)) (k:Int)=some (.int (c:Int)) :=
 ⟨ns[k],List.getElem_mem hk,atI_nat (by rw [List.getElem?_map,List.getElem?_eq_getElem hk]; rfl)⟩
theorem VH (p:Addr) (e:Nat):[V.ref p,V.int (((e+1:Nat):Int) - 1)]=[V.ref p,V.int (e:Int)]:=by
 rw [show ((e+1:Nat):Int) - 1=(e:Int) by lia]
def spLaw (K:PySem.W.Frag):Sp:=fun vs H Q _=>∃ (a:Addr) (ns:List Int),vs=[.ref a]∧SqL K H a (ns.map V.int)∧ns.length≤63∧∀ H',Q (.bl true) H'
def aH (t:T):Nat:=match t.kids with
 | []=>0
 | f::_=>min 9 f.kids.length
def aZ (t:T):T:=.node (t.kids.drop 1)
theorem ad9 {α:Type} (x:α) (n:Nat):(List.replicate n [x]).flatten=List.replicate n x:=by
 induction n with
 | zero=>rfl
 | succ n ih=>rw [List.replicate_succ,List.flatten_cons,ih,List.replicate_succ]; rfl
def cI (n:Nat) (us:List T):T:=.node (nP n::us)
def Mt (K:PySem.W.Frag):Sp:=fun vs H Q _=>∃ x t,vs=[x]∧TR K H t x∧t.deep≤400∧t.parts≤1000000∧∀ y H',Same H H'→TR K H' (cI 0 t.kids) y→Q y H'
def abq (K:PySem.W.Frag):Sp:=fun vs H Q _=>∃ x t,vs=[x]∧TR K H t x∧t.deep≤400∧t.parts≤1000000∧∀ y H',Same H H'→TR K H' (cI 8 t.kids) y→Q y H'
def Yk (K:PySem.W.Frag):Sp:=fun vs H Q _=>∃ n:Nat,vs=[.int (n:Int)]∧1≤n∧n≤6∧∀ y H',Same H H'→TR K H' (cI n []) y→Q y H'
def Eu (K:PySem.W.Frag):Sp:=fun vs H Q _=>∃ x t y u,vs=[x,y]∧TR K H t x∧TR K H u y∧(t.deep≤400∧t.parts≤1000000)∧(u.deep≤400∧u.parts≤1000000)∧∀ z H',Same H H'→TR K H' (cI 7 (t::u.kids)) z→Q z H'
end Sw
namespace Sw
open PySem PySem.Spec PyProof.Rows L2
theorem ag8 {K:PySem.W.Frag}{H:Hp}{Q:VK}{σ:L2.St}{ts:List T}{x:V} (hx:TR K H (.node ts) x) (k:Nat) {j:Option Int} (q:∀ z H',Same H H'→TR K H' (.node (ts.drop k)) z→Q z H') (hj:j=some ((k:Nat):Int):=by rfl):Om σ H (fun u H3=>Zz K x j u H3 Q):=aja hx k q hj
theorem amb {K:PySem.W.Frag}{H:Hp}{Q:VK}{σ:L2.St}{ts:List T}{x y:V}{t:T} (hx:TR K H (.node ts) x) (i:Nat) (e:ts[i]?=some t) (q:∀ z,TR K H t z→Q z H) (hy:y=.int ((i:Nat):Int):=by rfl):tC y σ H (fun y H2=>ado K x y H2 Q):=nIx hx i e q hy
theorem Y_ {a b:Nat}{t:T} (h:B a b t):B a b (aZ t):=by
 cases t with
 | node ts =>
  cases ts with
  | nil=>exact h
  | cons u us =>
   obtain⟨h1,h2⟩:=h
   rw [T.aP,T.aO] at h1
   rw [T.aM,T.aF] at h2
   exact⟨by show (T.node us).deep≤a; rw [T.aP]; lia,by show (T.node us).parts≤b; rw [T.aM]; lia⟩
def leaf:T:=.node []
def ats (s:List T) (k:Nat):T:=(s[k]?).getD leaf
def many (k:Nat):Nat:=([0,1,1,2,2,1,3,1,1,0]:List Nat).getD k 0
def pad (s:List T) (n:Nat):List T:=s++List.replicate (n - s.length) leaf
theorem cT {s:List T}{n:Nat} (h:n≤s.length):pad s n=s:=by
 unfold pad
 rw [show n - s.length=0 by lia,List.replicate_zero,List.append_nil]
theorem Yy (s:List T) (n:Nat):n≤(pad s n).length:=by
 unfold pad
 rw [List.length_append,List.length_replicate]
 lia
def behind (w:T) (s:List T):List T :=
 if aH w=0 then aZ w::s
 else if 6<aH w then pad s (many (aH w))
 else if aH w=1 then (pad s 1).drop 1
 else if aH w=2 then ats (pad s 1) 0::ats (pad s 1) 0::(pad s 1).drop 1
 else if aH w=3 then ats (pad s 2) 1::ats (pad s 2) 0::(pad s 2).drop 2
 else if aH w=4 then .node (ats (pad s 2) 0::(ats (pad s 2) 1).kids)::(pad s 2).drop 2
 else if aH w=5 then ats (ats (pad s 1) 0).kids 0::.node ((ats (pad s 1) 0).kids.drop 1)::(pad s 1).drop 1
 else ats (pad s 3) 2::ats (pad s 3) 0::ats (pad s 3) 1::(pad s 3).drop 3
def onward (tx s:List T):List T×List T×Nat :=
 match (ats tx 0).kids with
 | []=>(tx.drop 1,s,12)
 | w::ws =>
  if aH w=7 then
   if (ats s 0).kids≠[] then (ats (w.kids.drop 1) 0::.node ws::tx.drop 1,behind w s,7) else (.node (w.kids.drop 2)::.node ws::tx.drop 1,behind w s,8)
  else if aH w=8 then
   if (ats s 0).kids≠[] then (aZ w::tx,behind w s,9) else (.node ws::tx.drop 1,behind w s,10)
  else if aH w=9 then (.node ws::tx.drop 1,behind w s,11)
  else (.node ws::tx.drop 1,behind w s,aH w)
theorem Ai (w:T):aH w≤9:=by
 unfold aH
 split
 ·lia
 ·exact Nat.min_le_left _ _
def Yj (K:PySem.W.Frag):Sp:=fun vs H Q _=>∃ x t,vs=[x]∧TR K H t x∧t.deep≤400∧∀ H',Same H H'→Q (.int (aH t:Nat)) H'
theorem af0 {s:List T}{k:Nat} (h:k<s.length):s[k]?=some (ats s k):=by
 unfold ats
 rw [List.getElem?_eq_getElem h]
 rfl
theorem h_ (t:T):T.node t.kids=t:=by cases t; rfl
section
variable {w:T}{s:List T}
theorem QL (h:aH w=0):behind w s=aZ w::s:=by unfold behind; rw [if_pos h]
theorem pF (h:6<aH w):behind w s=pad s (many (aH w)):=by unfold behind; rw [if_neg (by lia),if_pos h]
theorem aaI (h:aH w=1):behind w s=(pad s 1).drop 1:=by unfold behind; rw [h]; rfl
theorem aaH (h:aH w=2):behind w s=ats (pad s 1) 0::ats (pad s 1) 0::(pad s 1).drop 1:=by unfold behind; rw [h]; rfl
theorem aaG (h:aH w=3):behind w s=ats (pad s 2) 1::ats (pad s 2) 0::(pad s 2).drop 2:=by unfold behind; rw [h]; rfl
theorem aaF (h:aH w=4):behind w s=.node (ats (pad s 2) 0::(ats (pad s 2) 1).kids)::(pad s 2).drop 2:=by unfold behind; rw [h]; rfl
theorem aaE (h:aH w=5):behind w s=ats (ats (pad s 1) 0).kids 0::.node ((ats (pad s 1) 0).kids.drop 1)::(pad s 1).drop 1:=by unfold behind; rw [h]; rfl
theorem aaD (h:aH w=6):behind w s=ats (pad s 3) 2::ats (pad s 3) 0::ats (pad s 3) 1::(pad s 3).drop 3:=by unfold behind; rw [h]; rfl
end
theorem acB {s:List T}{k:Nat} (h:k<s.length):ats s k∈s:=List.mem_of_getElem? (af0 h)
section
variable {X:Cx}
end
theorem B.pos {a b:Nat}{t:T} (h:B a b t):1≤b:=Nat.le_trans (T.g_ t) h.2
theorem nu {a b:Nat} (k:Nat) {ts:List T} (h:B a b (.node ts)):B a b (.node (ts.drop k)):=by
 obtain⟨h1,h2⟩:=h
 have e:=List.take_append_drop k ts
 rw [← e,T.aP,T.iu] at h1
 rw [← e,T.aM,T.cJ] at h2
 exact⟨by rw [T.aP]; lia,by rw [T.aM]; lia⟩
theorem aeO {a b:Nat}{ts:List T}{t:T} (h:B a b (.node ts)) (ht:t∈ts):B a b t:=by
 have h1:=h.1
 have h2:=h.2
 rw [T.aP] at h1
 rw [T.aM] at h2
 have:=T.wW ht
 have:=T.lW ht
 exact⟨by lia,by lia⟩
theorem kZ {a b:Nat}{ts:List T} (h:B a b (.node ts)) (k:Nat):B a b (ats ts k):=by
 by_cases hk:k<ts.length
 ·exact aeO h (acB hk)
 ·unfold ats
  rw [List.getElem?_eq_none (by lia)]
  exact yV.le (by lia) h.pos
theorem Bk {a b:Nat}{t:T} (h:B a b t):B a b (.node t.kids):=by rw [h_]; exact h
theorem NZ {a b:Nat}{s:List T} (n:Nat) (hn:n≤3) (ha:1≤a) (h:B a b (.node s)):B a (b+4) (.node (pad s n)) :=
 (uJ (SX (a:=0) (b:=1) (n:=3) (fun t ht=>by rw [List.eq_of_mem_replicate ht]; exact yV) (by rw [List.length_replicate]; lia)) h).le (by lia) (by lia)
theorem aer {a b:Nat}{w:T}{s:List T} (ha:1≤a) (hw:B a b w) (hs:B a b (.node s)):B (a+2) (4 * b+16) (.node (behind w s)):=by
 have hb:=hw.pos
 unfold behind
 split
 ·exact (cM (Y_ hw) hs).le (by lia) (by lia)
 split
 ·refine (NZ _ ?_ ha hs).le (by lia) (by lia)
  have:∀ k,k≤9→many k≤3:=by decide
  exact this _ (Ai w)
 have p1:=NZ 1 (by lia) ha hs
 have p2:=NZ 2 (by lia) ha hs
 have p3:=NZ 3 (by lia) ha hs
 split
 ·exact (nu 1 p1).le (by lia) (by lia)
 split
 ·exact (cM (kZ p1 0) (cM (kZ p1 0) (nu 1 p1))).le (by lia) (by lia)
 split
 ·exact (cM (kZ p2 1) (cM (kZ p2 0) (nu 2 p2))).le (by lia) (by lia)
 split
 ·exact (cM (cM (kZ p2 0) (Bk (kZ p2 1))) (nu 2 p2)).le (by lia) (by lia)
 split
 ·exact (cM (kZ (Bk (kZ p1 0)) 0) (cM (nu 1 (Bk (kZ p1 0))) (nu 1 p1))).le (by lia) (by lia)
 ·exact (cM (kZ p3 2) (cM (kZ p3 0) (cM (kZ p3 1) (nu 3 p3)))).le (by lia) (by lia)
theorem aep {a b:Nat}{tx s:List T} (ha:1≤a) (ht:B a b (.node tx)) (hs:B a b (.node s)):B (a+2) (4 * b+16) (.node (onward tx s).1)∧B (a+2) (4 * b+16) (.node (onward tx s).2.1):=by
 have hb:=ht.pos
 have t0:=Bk (kZ ht 0)
 unfold onward
 split
 ·exact⟨(nu 1 ht).le (by lia) (by lia),hs.le (by lia) (by lia)⟩
 ·rename_i w ws e
  rw [e] at t0
  have hw:B a b w:=aeO t0 List.mem_cons_self
  have hws:B a b (.node ws):=nu 1 t0
  have hbe:=aer ha hw hs
  have hd:=nu 1 ht
  have hl:=nu 1 (Bk hw)
  split
  ·split
   ·exact⟨(cM (kZ hl 0) (cM hws hd)).le (by lia) (by lia),hbe⟩
   ·exact⟨(cM (nu 2 (Bk hw)) (cM hws hd)).le (by lia) (by lia),hbe⟩
  split
  ·split
   ·exact⟨(cM (Y_ hw) ht).le (by lia) (by lia),hbe⟩
   ·exact⟨(cM hws hd).le (by lia) (by lia),hbe⟩
  split
  ·exact⟨(cM hws hd).le (by lia) (by lia),hbe⟩
  ·exact⟨(cM hws hd).le (by lia) (by lia),hbe⟩
theorem aj1 {te:TE}{i:Nat}{u:TS}{D:Ends}{σ:L2.St}{H:Hp} (P:V→Hp→Prop) (h:∀ R:VK,(∀ v H',P v H'→R v H')→te σ H R) (k:∀ v H',P v H'→u D (σ.set i (some v)) H'):tSeq (tAsg te (gName i)) u D σ H:=h _ k
theorem oA {te:TE}{i:Nat}{u:TS}{D:Ends}{σ:L2.St}{H:Hp} (σ':V→L2.St) (hσ:∀ v,σ.set i (some v)=σ' v) (P:V→Hp→Prop) (h:∀ R:VK,(∀ v H',P v H'→R v H')→te σ H R) (k:∀ v H',P v H'→u D (σ' v) H'):tSeq (tAsg te (gName i)) u D σ H :=
 aj1 P h fun v H' p=>by rw [hσ]; exact k v H' p
end Sw
namespace Sw
open PySem PySem.Spec PyProof.Rows L2
def jA (o:Obj) (xs:List V):Prop:=∃ (its:Array Value) (n:Nat),o.cls=.type "tuple"∧o.data=.seq its n∧its.size≤sizeLine∧Vals xs its.toList
theorem jA.sq {K:PySem.W.Frag}{o:Obj}{xs:List V}{a:Addr}{H:Hp} (h:jA o xs) (l:K.lookup a=some o):SqT K H a xs:=by
 obtain⟨its,n,h1,h2,h3,h4⟩:=h
 exact .inr ⟨o,its,n,l,h1,h2,h3,h4⟩
def HJ (K:PySem.W.Frag):Sp:=fun vs H Q _=>∃ x t,vs=[x]∧TR K H t x∧t.deep≤400∧∀ y H',Same H H'→TR K H' (ats t.kids 0) y→Q y H'
def Et (K:PySem.W.Frag):Sp:=fun vs H Q _=>∃ x t,vs=[x]∧TR K H t x∧∀ y H',Same H H'→TR K H' (aZ t) y→Q y H'
theorem adb (t:T):aH t=min 9 (ats t.kids 0).kids.length:=by
 cases t with
 | node ts=>cases ts <;> rfl
theorem vX {K:PySem.W.Frag}{H:Hp}{t:T}{x:V} (h:TR K H t x):TR K H (.node t.kids) x:=by rw [h_]; exact h
theorem Aj {n:Nat} (h:n≤16000000):n≤sizeLine:=Nat.le_trans h (by decide)
theorem aiH:(2:Int) ^ 62=4611686018427387904:=by decide
theorem ag7 {K:PySem.W.Frag}{H:Hp}{Q:VK}{x y:V}{k:Int} (n:Nat) (hx:TR K H (.node [.node []]) x) (hy:y=.int k) (hk:k.toNat=n) (h0:-16000000≤k) (hn:n≤16000000) (q:∀ z H',Same H H'→TR K H' (nP n) z→Q z H'):Fi K x y H Q:=by
 obtain⟨a,xs,rfl,ha,ra⟩:=cQ.mp hx
 obtain⟨v,r,rfl,hv,hr⟩:=cL.mp ra
 rw [bM] at hr
 subst hr
 subst hk
 have h2:=aiH
 refine⟨a,k,[v],rfl,hy,ha,by lia,by lia,by show 1 * k.toNat≤sizeLine; exact Aj (by lia),fun p H' S h=>q _ _ S ?_⟩
 have e:rQ [v] k=List.replicate k.toNat v:=by
  unfold rQ
  exact ad9 v _
 rw [e] at h
 exact vO h (Oc (hv.mono (.of S)) _)
theorem aeB {K:PySem.W.Frag}{H:Hp}{Q:VK}{σ:L2.St}{x y:V}{k:Int} (n:Nat) (hx:TR K H (.node [.node []]) x) (hy:y=.int k) (hk:k.toNat=n) (h0:-16000000≤k) (hn:n≤16000000) (q:∀ z H',Same H H'→TR K H' (nP n) z→Q z H'):tC y σ H (fun y H2=>Fi K x y H2 Q):=ag7 n hx hy hk h0 hn q
def looks (k:Nat):Nat:=([0,1,1,2,2,1,3,1,1,1,1,0,0]:List Nat).getD k 0
def Bm (k:Nat) (l:T) (s:List T):List T :=
 if k=0 then l::s
 else if k=1 then s.drop 1
 else if k=2 then ats s 0::s
 else if k=3 then ats s 1::ats s 0::s.drop 2
 else if k=4 then .node (ats s 0::(ats s 1).kids)::s.drop 2
 else if k=5 then ats (ats s 0).kids 0::aZ (ats s 0)::s.drop 1
 else if k=6 then ats s 2::ats s 0::ats s 1::s.drop 3
 else s
theorem acj {s:List T} (h:1≤s.length):ats s 0::s.drop 1=s:=by
 cases s with
 | nil=>simp at h
 | cons t r=>rfl
theorem WW {w:T}{s:List T} (h:aH w≤6):behind w s=Bm (aH w) (aZ w) (pad s (looks (aH w))):=by
 have hl:aH w=0∨aH w=1∨aH w=2∨aH w=3∨aH w=4∨aH w=5∨aH w=6:=by lia
 rcases hl with e | e | e | e | e | e | e
 ·rw [QL e,e]; show _=aZ w::pad s 0; rw [cT (Nat.zero_le _)]
 ·rw [aaI e,e]; rfl
 ·rw [aaH e,e]
  show _=ats (pad s 1) 0::pad s 1
  rw [acj (Yy s 1)]
 ·rw [aaG e,e]; rfl
 ·rw [aaF e,e]; rfl
 ·rw [aaE e,e]; rfl
 ·rw [aaD e,e]; rfl
def stepT (tx s:List T):Nat:=(onward tx s).2.2
theorem Tg {tx s:List T} (h:(ats tx 0).kids=[]):stepT tx s=12:=by
 unfold stepT onward
 rw [h]
section
variable {tx s:List T}{w:T}{ws:List T}
theorem abP (h:(ats tx 0).kids=[]):onward tx s=(tx.drop 1,s,12):=by
 unfold onward
 rw [h]
theorem Uo (h:(ats tx 0).kids=w::ws) (e:aH w=7) (d:(ats s 0).kids≠[]):onward tx s=(ats (w.kids.drop 1) 0::.node ws::tx.drop 1,pad s 1,7):=by
 unfold onward
 rw [h]
 show (if aH w=7 then _ else _)=_
 rw [if_pos e,if_pos d,pF (by lia),e]
 rfl
theorem ZK (h:(ats tx 0).kids=w::ws) (e:aH w=7) (d:(ats s 0).kids=[]):onward tx s=(.node (w.kids.drop 2)::.node ws::tx.drop 1,pad s 1,8):=by
 unfold onward
 rw [h]
 show (if aH w=7 then _ else _)=_
 rw [if_pos e,if_neg (by simp [d]),pF (by lia),e]
 rfl
theorem PN (h:(ats tx 0).kids=w::ws) (e:aH w=8) (d:(ats s 0).kids≠[]):onward tx s=(aZ w::tx,pad s 1,9):=by
 unfold onward
 rw [h]
 show (if aH w=7 then _ else _)=_
 rw [if_neg (by lia),if_pos e,if_pos d,pF (by lia),e]
 rfl
theorem PK (h:(ats tx 0).kids=w::ws) (e:aH w=8) (d:(ats s 0).kids=[]):onward tx s=(.node ws::tx.drop 1,pad s 1,10):=by
 unfold onward
 rw [h]
 show (if aH w=7 then _ else _)=_
 rw [if_neg (by lia),if_pos e,if_neg (by simp [d]),pF (by lia),e]
 rfl
theorem PL (h:(ats tx 0).kids=w::ws) (e:aH w=9):onward tx s=(.node ws::tx.drop 1,pad s 0,11):=by
 unfold onward
 rw [h]
 show (if aH w=7 then _ else _)=_
 rw [if_neg (by lia),if_neg (by lia),if_pos e,pF (by lia),e]
 rfl
theorem PJ (h:(ats tx 0).kids=w::ws) (e:aH w≤6):onward tx s=(.node ws::tx.drop 1,Bm (aH w) (aZ w) (pad s (looks (aH w))),aH w):=by
 unfold onward
 rw [h]
 show (if aH w=7 then _ else _)=_
 rw [if_neg (by lia),if_neg (by lia),if_neg (by lia),WW e]
end
theorem Oa {k:Nat}{l:T}{s:List T} (h:7≤k):Bm k l s=s:=by
 unfold Bm
 rw [if_neg (by lia),if_neg (by lia),if_neg (by lia),if_neg (by lia),if_neg (by lia),if_neg (by lia),if_neg (by lia)]
theorem adP (k:Nat):looks k≤3:=by
 by_cases h:k<13
 ·have:∀ k,k<13→looks k≤3:=by decide
  exact this k h
 ·unfold looks
  rw [List.getD_eq_getElem?_getD,List.getElem?_eq_none (by show 13≤k; lia)]
  decide
section
variable {tx s:List T}
theorem agS:((ats tx 0).kids=[]∧onward tx s=(tx.drop 1,s,12))∨∃ w ws,(ats tx 0).kids=w::ws ∧
  (onward tx s=(ats (w.kids.drop 1) 0::.node ws::tx.drop 1,pad s 1,7)∨onward tx s=(.node (w.kids.drop 2)::.node ws::tx.drop 1,pad s 1,8)∨onward tx s=(aZ w::tx,pad s 1,9) ∨ ∃ k,(k≤6∨k=10∨k=11)∧onward tx s=(.node ws::tx.drop 1,Bm k (aZ w) (pad s (looks k)),k)):=by
 cases hk:(ats tx 0).kids with
 | nil=>exact .inl ⟨rfl,abP hk⟩
 | cons w ws =>
  refine .inr ⟨w,ws,rfl,?_⟩
  have h9:=Ai w
  by_cases e7:aH w=7
  ·by_cases d:(ats s 0).kids=[]
   ·exact .inr (.inl (ZK hk e7 d))
   ·exact .inl (Uo hk e7 d)
  by_cases e8:aH w=8
  ·by_cases d:(ats s 0).kids=[]
   ·exact .inr (.inr (.inr ⟨10,by lia,PK hk e8 d⟩))
   ·exact .inr (.inr (.inl (PN hk e8 d)))
  by_cases e9:aH w=9
  ·exact .inr (.inr (.inr ⟨11,by lia,PL hk e9⟩))
  ·exact .inr (.inr (.inr ⟨aH w,by lia,PJ hk (by lia)⟩))
theorem Ah:stepT tx s≤12:=by
 unfold stepT
 rcases agS (tx:=tx) (s:=s) with⟨_,e⟩ | ⟨w,ws,_,e | e | e | ⟨k,h,e⟩⟩
 ·rw [e]; exact Nat.le_refl 12
 ·rw [e]; show 7≤12; lia
 ·rw [e]; show 8≤12; lia
 ·rw [e]; show 9≤12; lia
 ·rw [e]; show k≤12; lia
variable {w:T}{ws:List T}
end
def BX (tx:List T):Prop:=tx.length≤8000000∧∀ t∈tx,B 389 8000000 t
theorem BX.of {a b:Nat}{tx:List T} (h:B a b (.node tx)) (ha:a≤390) (hb:b≤8000000):BX tx:=by
 refine⟨by have:=h.len; lia,fun t ht=>?_⟩
 have h1:=h.1
 have h2:=h.2
 rw [T.aP] at h1
 rw [T.aM] at h2
 have:=T.wW ht
 have:=T.lW ht
 exact⟨by lia,by lia⟩
end Sw
namespace Sw
open PySem PySem.Spec PyProof.Rows L2
end Sw
namespace Sw
open PySem PySem.Spec PyProof.Rows L2
theorem agr {X:Cx}{pos:Pos}{o i:Expr}{to ti:TE}{t:LR} (ho:QE X o to) (hi:QE X i ti) (hs:Wt X t)
  (ha:∀ v,assign (.Subscript o i pos) X.env v=(do
   let ov ← holding [v] (eval o X.env)
   let iv ← holding [v,ov] (eval i X.env)
   standAt pos
   holding [v,ov,iv] (setItem ov iv v)
   release [v,ov,iv] []):=by intro _; rfl):QG X (.Subscript o i pos) (ahx to ti t):=⟨L2.agG (ho:=ho.run) (hi:=hi.run) (hs:=hs) (ha:=ha)⟩
section
variable {X:Cx}
theorem RB (hc:X.calm=true):CallR X (.builtin "sum") (fun xs H Q=>∃ (p:Addr) (ns:List Int),xs=[.ref p]∧SqT X.K H p (ns.map V.int)∧Q (.int ns.sum) H):=by
 intro pins s σ H xs us Q I r h
 obtain⟨p,ns,rfl,hq,q⟩:=h
 obtain⟨u,rfl,rx⟩:=vals1 r
 cases rx
 obtain⟨its,r',pl,hz⟩:=I.tuple hq
 have hi:IntsAre its ns:=intsAre_of r'
 obtain⟨ys,e⟩:=hi.allInts.items
 have hns:ns=ys.toList.map (·.1):=by
  rw [← hi.numsOf,← nums_intItems,← e]
 have ht:s.heap.IsTuple p its.toArray:=pl
 rw [e] at ht
 obtain⟨o,ho,hc',n,hd⟩:=id ht
 have hne:p≠s.heap.objs.size:=Nat.ne_of_lt (Heap.lt_size ho)
 have hsz:(intItems ys).size=ys.size:=by simp [intItems]
 have W:=Walks.tuple (prog:=X.prog) (w:=X.w) (A:=X.A.in1) (I.ok.hd hc) s.heap.objs.size p hne (intItems ys)
 rw [hsz] at W
 refine call_sum_walkG (wpAny_pyIter_tuple ht ?_)
 refine⟨s.heap.objs.size,_,_,_,_,_,numAt ys,rfl,W,⟨⟨_,Heap.get?_push_size _ rfl,rfl,rfl⟩,ht.push _⟩,fun b hb=>?_,fun i v hP=>intItems_at hP,fun h' tk t' hk=>?_⟩
 ·rcases List.mem_cons.mp hb with rfl | hb
  ·exact Heap.lt_size (Heap.get?_push_size _ rfl)
  ·obtain rfl:=List.mem_singleton.mp hb
   exact Heap.lt_size (Heap.get?_push_of_some _ ho)
 ·have es:preSum (numAt ys) ys.size=ns.sum:=by rw [preSum_eq,List.take_of_length_le (by simp),hns]
  exact⟨.int ns.sum,H,I.kept (fun b o e=>hk b o (fun z=>absurd (Heap.lt_size e) (by rw [List.mem_singleton.mp z]; exact Nat.lt_irrefl _)) (Heap.get?_push_of_some _ e)),⟨t',by rw [es]⟩,q⟩
end
theorem A_ {n j:Nat} (h:j<n):ixN n (j:Int)=some j:=by
 unfold ixN
 rw [if_pos (by lia),if_pos (by lia),Int.toNat_natCast]
abbrev nv (n:Nat):V:=.int (n:Int)
def JM (K:PySem.W.Frag):Sp:=fun vs H Q _=>∃ x t,vs=[x]∧TR K H t x∧t.parts≤8000000∧∀ H',Same H H'→Q (.int t.parts) H'
def Y7 (K:PySem.W.Frag) (H:Hp) (x:V) (n:Nat) (p:Addr):Nat→Sg→Hp→Prop:=fun m σ H'=>∃ (ys:List V) (ts:List T) (c:Nat) (o:Option V),
 σ=[some x,some (.ref p),some (.int c),o]∧Same H H'∧H' p=some (.lst ys)∧TRs K H' ts ys∧c+T.aD ts=n∧m=T.aD ts
def ev0 (k:Nat):List Nat:=(List.replicate 15 0).set k 1
def lF (tx s:List T):List Nat :=
 if stepT tx s=2 then (ev0 2).set 13 (ats s 0).parts
 else if stepT tx s=9 then (ev0 9).set 14 (aZ (ats (ats tx 0).kids 0)).parts
 else ev0 (stepT tx s)
def n8 (ns:List Nat):Int:=((ns.take 13).map fun n:Nat=>(n:Int)).sum - (ns.getD 2 0:Nat)+(ns.getD 13 0:Nat)
def bC (tx s:List T):Nat:=if stepT tx s=2 then (ats s 0).parts else 1
theorem Gd (tx s:List T):(lF tx s).length=15:=by
 unfold lF ev0
 split
 ·simp
 split <;> simp
theorem afQ (tx s:List T):n8 (lF tx s)=(bC tx s:Nat):=by
 have h:=Ah (tx:=tx) (s:=s)
 unfold lF bC
 split
 ·rename_i e
  show (0+(0+(1+(0+(0+(0+(0+(0+(0+(0+(0+(0+(0+0))))))))))))) - (1:Int)+((ats s 0).parts:Int)=_
  lia
 split
 ·show (0+(0+(0+(0+(0+(0+(0+(0+(0+(1+(0+(0+(0+0))))))))))))) - (0:Int)+(0:Int)=_
  lia
 ·generalize stepT tx s=k at *
  have:∀ k,k≤12→k≠2→n8 (ev0 k)=((1:Nat):Int):=by decide
  exact this k h (by assumption)
theorem uh (tx s:List T):1≤bC tx s:=by
 unfold bC
 split
 ·exact T.g_ _
 ·exact Nat.le_refl 1
def abv (K:PySem.W.Frag):Sp:=fun vs H Q _=>∃ (a:Addr) (ns:List Nat),vs=[.ref a]∧SqT K H a (ns.map nv)∧ns.length=15∧∀ H',Same H H'→Q (.int (n8 ns)) H'
theorem Nf {ns:List Nat}{k:Nat} (h:k<ns.length):atI (ns.map nv) (k:Int)=some (.int ((ns.getD k 0:Nat):Int)) :=
 atI_nat (by rw [List.getElem?_map,List.getElem?_eq_getElem h,List.getD_eq_getElem?_getD,List.getElem?_eq_getElem h]; rfl)
theorem YD (ns:List Nat) (k:Nat):(ns.map nv).take k=((ns.take k).map fun n:Nat=>(n:Int)).map V.int:=by
 rw [← List.map_take,List.map_map]
 rfl
theorem U3 (ns:List Nat) (k v:Nat):(ns.map nv).set k (nv v)=(ns.set k v).map nv:=by rw [List.map_set]
end Sw
namespace Sw
open PySem PySem.Spec PyProof.Rows L2
theorem aaq (s:List T) (k:Nat):T.aD (s.drop k)≤T.aD s:=by
 have e:=congrArg T.aD (List.take_append_drop k s)
 rw [T.cJ] at e
 lia
theorem adD (t:T):t.parts=1+T.aD t.kids:=by cases t; rw [T.aM]; rfl
theorem aaf (t:T):(aZ t).parts≤t.parts:=by
 unfold aZ
 rw [T.aM,adD t]
 have:=aaq t.kids 1
 lia
end Sw
namespace PySem
section
variable {prog:Program}{w:World}{A:Around}{E:Value→Shared→Prop}{s:Shared}
theorem abW {m t:Addr}{i:Nat}{its:Array Value}{x:Value}{Q:Value→Shared→Prop} (hm:s.heap.IsTupleIter m t i) (ht:s.heap.IsTuple t its) (hx:its[i]?=some x)
  (q:∀ g,g.IsTupleIter m t (i+1)→Heap.SameBut m s.heap g→Q x { s with heap:=g }):wpAny (model prog w) A (Builtin.SmallTypes.nextOf (.ref m)) Q E s:=by
 obtain⟨om,e1,e2,e3⟩:=id hm
 obtain⟨ot,f1,_,nt,f3⟩:=ht
 unfold Builtin.SmallTypes.nextOf; refine wpAny_bind (wpAny_callSpecial?_slot (name:=Str.ofString "__next__") hm.typeIs F.slot_tuple_iterator_next (wpAny_call_entry F.slot_tuple_iterator_next hm.typeIs F.entry_tuple_iterator_next ?_ (F.args_tuple_iterator_next_1 _)))
 show wpAny _ _ (field (.ref m) 0 >>= _) _ _ s
 refine wpAny_bind (wpAny_field e1 e3 (x:=.ref t) rfl ?_); show wpAny _ _ (if (Value.ref t == Value.none)=true then _ else _) _ _ s
 rw [if_neg (fun z:(Value.ref t == Value.none)=true=>Bool.false_ne_true z)]; show wpAny _ _ (field (.ref m) 1 >>= _) _ _ s
 refine wpAny_bind (wpAny_field e1 e3 (x:=.int i 0) rfl ?_); show wpAny _ _ (seqItems? (.ref t) >>= _) _ _ s
 refine wpAny_bind (wpAny_seqItems f1 f3 ?_); simp only [Int.toNat_natCast,hx]
 refine wpAny_bind (wpAny_setField e1 e3 (by simp) (wpAny_pure ⟨x,rfl,wpAny_pure (q _ ?_ (Heap.SameBut.update ..))⟩))
 refine⟨_,Heap.get?_update_self _ e1 (Obj.isFreed_of_fields (Obj.data_mapFields e3 _)),(Obj.cls_mapFields ..).trans e2,?_⟩
 rw [Obj.data_mapFields e3]; simp [rawInt]
theorem ZX {m t:Addr}{i:Nat}{its:Array Value}{Q:Value→Shared→Prop} (hh:A.handled=none) (hm:s.heap.IsTupleIter m t i) (ht:s.heap.IsTuple t its) (hx:its[i]?=none)
  (q:∀ g e,Heap.ExtBut m s.heap g→(∃ o,g.get? e=some o∧o.cls=.type "StopIteration")→E (.ref e) { s with heap:=g }):wpAny (model prog w) A (Builtin.SmallTypes.nextOf (.ref m)) Q E s:=by
 obtain⟨om,e1,e2,e3⟩:=id hm
 obtain⟨ot,f1,_,nt,f3⟩:=ht
 unfold Builtin.SmallTypes.nextOf; refine wpAny_bind (wpAny_callSpecial?_slot (name:=Str.ofString "__next__") hm.typeIs F.slot_tuple_iterator_next (wpAny_call_entry F.slot_tuple_iterator_next hm.typeIs F.entry_tuple_iterator_next ?_ (F.args_tuple_iterator_next_1 _)))
 show wpAny _ _ (field (.ref m) 0 >>= _) _ _ s
 refine wpAny_bind (wpAny_field e1 e3 (x:=.ref t) rfl ?_); show wpAny _ _ (if (Value.ref t == Value.none)=true then _ else _) _ _ s
 rw [if_neg (fun z:(Value.ref t == Value.none)=true=>Bool.false_ne_true z)]; show wpAny _ _ (field (.ref m) 1 >>= _) _ _ s
 refine wpAny_bind (wpAny_field e1 e3 (x:=.int i 0) rfl ?_); show wpAny _ _ (seqItems? (.ref t) >>= _) _ _ s
 refine wpAny_bind (wpAny_seqItems f1 f3 ?_); simp only [Int.toNat_natCast,hx]
 refine wpAny_bind (wpAny_rule (wpAny_bind (wpAny_setField e1 e3 (by simp) ?_))); show wpAny _ _ (newExc (.type "StopIteration") [] >>= _) _ _ _
 refine wpAny_bind ?_; simp only [newExc,newTuple]; refine wpAny_bind (wpAny_newObj_type ?_ (by size_fits))
 refine wpAny_bind (m:=firstArgMember _ _) (wpAny_of_eq (a:=Value.none) (by first | rfl | (simp only [firstArgMember]; rfl)) ?_); refine wpAny_newObj_type ?_ (by size_fits)
 simp only [raiseNew]; refine wpAny_bind (wpAny_handled ?_); first | rw [show A.in1.handled=none from hh] | rw [hh]
 refine wpAny_bind (wpAny_pure (wpAny_throw ?_))
 exact q _ _ (((Heap.SameBut.update ..).extBut.push _).push _) ⟨_,Heap.get?_push_size _ rfl,rfl⟩
theorem aeP {z I O i1 i2 l1 l2:Addr}{k1 k2:Nat}{xs ys:Array Value}{x y a b:Value}{Q:Value→Shared→Prop} (D:ZipApart z I O i1 i2 l1 l2)
  (hz:IsZip s.heap z I O .none) (hI:IsPair s.heap I (.ref i1) (.ref i2)) (hO:IsPair s.heap O a b) (m1:s.heap.IsTupleIter i1 l1 k1) (m2:s.heap.IsTupleIter i2 l2 k2)
  (t1:s.heap.IsTuple l1 xs) (t2:s.heap.IsTuple l2 ys) (hx:xs[k1]?=some x) (hy:ys[k2]?=some y)
  (q:∀ g,IsZip g z I O (rawInt s.heap.objs.size)→IsPair g O x y→g.IsTupleIter i1 l1 (k1+1)→g.IsTupleIter i2 l2 (k2+1)→IsPair g s.heap.objs.size x y→g.objs.size=s.heap.objs.size+1 →
   (∀ c o,c≠z→c≠O→c≠i1→c≠i2→s.heap.get? c=some o→g.get? c=some o)→Q (.ref s.heap.objs.size) { s with heap:=g }) :
  wpAny (model prog w) A (Builtin.«zip.__next__» ⟨[.ref z],[]⟩) (fun fin u=>∃ v,fin=.done (.ret v)∧Q v u) E s:=by
 show wpAny _ _ (field (.ref z) 2 >>= _) _ _ _; refine wpAny_bind (wpAny_field hz rfl (x:=.bool false) rfl ?_)
 show wpAny _ _ (field (.ref z) 3 >>= _) _ _ _; refine wpAny_bind (wpAny_field hz rfl (x:=.ref I) rfl ?_)
 refine wpAny_bind (wpAny_seqItems hI rfl ?_); show wpAny _ _ (Builtin.SmallTypes.ownedTupleIsFree (.ref z) >>= _) _ _ _
 refine wpAny_bind ?_; unfold Builtin.SmallTypes.ownedTupleIsFree; refine wpAny_bind (wpAny_field hz rfl (x:=.none) rfl (wpAny_pure ?_))
 simp only [if_true]; refine wpAny_bind (wpAny_rule ?_); refine wpAny_bind (wpAny_field hz rfl (x:=.ref O) rfl ?_)
 refine wpAny_bind (wpAny_setField_rec hz (by simp) fun g1 z1 b1=>?_)
 replace z1:IsZip g1 z I O .ellipsis:=z1
 refine wpAny_bind ?_; simp only [List.zipIdx_cons,List.zipIdx_nil,List.forIn_cons,List.forIn_nil]
 refine wpAny_bind (wpAny_bind (wpAny_onRaise ?_)); show wpAny _ _ (Builtin.SmallTypes.nextOf (.ref i1) >>= _) _ _ _
 refine wpAny_bind (abW (m1.extBut b1.extBut D.i1z) (t1.extBut b1.extBut D.l1z) hx fun g2 m12 b2=>wpAny_pure ?_)
 have O2:IsPair g2 O a b:=b2.extBut _ _ D.TOi1 (b1.extBut _ _ D.TOz hO)
 refine wpAny_bind (wpAny_seqItems O2 rfl ?_); refine wpAny_bind (wpAny_updateSeq_pair O2 fun g3 O3 b3=>?_)
 replace O3:IsPair g3 O x b:=O3
 refine wpAny_bind (wpAny_letGo (wpAny_pure ?_)); refine wpAny_bind (wpAny_bind (wpAny_onRaise ?_)); show wpAny _ _ (Builtin.SmallTypes.nextOf (.ref i2) >>= _) _ _ _
 refine wpAny_bind (abW (((m2.extBut b1.extBut D.i2z).extBut b2.extBut D.i12.symm).extBut b3.extBut D.TOi2.symm) (((t2.extBut b1.extBut D.l2z).extBut b2.extBut D.l2i1).extBut b3.extBut D.l2TO) hy fun g4 m24 b4=>wpAny_pure ?_)
 have O4:IsPair g4 O x b:=b4.extBut _ _ D.TOi2 O3
 refine wpAny_bind (wpAny_seqItems O4 rfl ?_); refine wpAny_bind (wpAny_updateSeq_pair O4 fun g5 O5 b5=>?_)
 replace O5:IsPair g5 O x y:=O5
 refine wpAny_bind (wpAny_letGo (wpAny_pure (wpAny_pure ?_))); refine wpAny_bind (wpAny_seqItems O5 rfl ?_); refine wpAny_bind (wpAny_newTuple ?_)
 have sz:g5.objs.size=s.heap.objs.size:=by rw [b5.1,b4.1,b3.1,b2.1,b1.1]
 have z5:IsZip g5 z I O .ellipsis:=b5.extBut _ _ D.TOz.symm (b4.extBut _ _ D.i2z.symm (b3.extBut _ _ D.TOz.symm (b2.extBut _ _ D.i1z.symm z1)))
 have k5:∀ c o,c≠z→c≠O→c≠i1→c≠i2→s.heap.get? c=some o→g5.get? c=some o:=fun c o c1 c2 c3 c4 e=>b5.extBut _ _ c2 (b4.extBut _ _ c4 (b3.extBut _ _ c2 (b2.extBut _ _ c3 (b1.extBut _ _ c1 e))))
 have m15:g5.IsTupleIter i1 l1 (k1+1):=((m12.extBut b3.extBut D.TOi1.symm).extBut b4.extBut D.i12).extBut b5.extBut D.TOi1.symm
 have m25:g5.IsTupleIter i2 l2 (k2+1):=m24.extBut b5.extBut D.TOi2.symm
 have zlt:z<g5.objs.size:=Heap.lt_size z5
 show wpAny _ _ (Builtin.SmallTypes.ownedTupleHandOut (.ref z) (.ref g5.objs.size) >>= _) _ _ _
 refine wpAny_bind ?_; unfold Builtin.SmallTypes.ownedTupleHandOut
 have z6:IsZip (g5.push { cls:=.type "tuple",data:=.seq #[x,y] }) z I O .ellipsis:=Heap.get?_push_of_some _ z5
 refine wpAny_bind (wpAny_setField_rec z6 (by simp) fun g7 z7 b7=>?_)
 replace z7:IsZip g7 z I O (rawInt g5.objs.size):=z7
 refine wpAny_setField_rec z7 (by simp) fun g8 z8 b8=>?_
 replace z8:IsZip g8 z I O (rawInt g5.objs.size):=z8
 have up:∀ c o,c≠z→g5.get? c=some o→g8.get? c=some o:=fun c o c1 e=>b8.extBut _ _ c1 (b7.extBut _ _ c1 (Heap.get?_push_of_some _ e))
 have T8:IsPair g8 g5.objs.size x y:=b8.extBut _ _ (Nat.ne_of_gt zlt) (b7.extBut _ _ (Nat.ne_of_gt zlt) (Heap.get?_push_size _ rfl))
 have s8:g8.objs.size=g5.objs.size+1:=by rw [b8.1,b7.1,Heap.size_push]
 rw [sz] at z8 T8 s8; refine wpAny_pure ⟨_,rfl,?_⟩; show Q (.ref g5.objs.size) _
 rw [sz]; exact q g8 z8 (up _ _ D.TOz O5) (by obtain⟨o,e,r⟩:=m15; exact⟨o,up _ o D.i1z e,r⟩) (by obtain⟨o,e,r⟩:=m25; exact⟨o,up _ o D.i2z e,r⟩) T8 s8 fun c o c1 c2 c3 c4 e=>up c o c1 (k5 c o c1 c2 c3 c4 e)
theorem af8 {z I O i1 i2 l1 l2:Addr}{k1:Nat}{xs:Array Value}{Q:Fin→Shared→Prop} (hh:A.handled=none) (D:ZipApart z I O i1 i2 l1 l2)
  (hz:IsZip s.heap z I O .none) (hI:IsPair s.heap I (.ref i1) (.ref i2)) (m1:s.heap.IsTupleIter i1 l1 k1) (t1:s.heap.IsTuple l1 xs) (hx:xs[k1]?=none)
  (q:∀ g e,(∀ c o,c≠z→c≠O→c≠i1→c≠i2→s.heap.get? c=some o→g.get? c=some o)→(∃ o,g.get? e=some o∧o.cls=.type "StopIteration")→E (.ref e) { s with heap:=g }) :
  wpAny (model prog w) A (Builtin.«zip.__next__» ⟨[.ref z],[]⟩) Q E s:=by
 show wpAny _ _ (field (.ref z) 2 >>= _) _ _ _; refine wpAny_bind (wpAny_field hz rfl (x:=.bool false) rfl ?_)
 show wpAny _ _ (field (.ref z) 3 >>= _) _ _ _; refine wpAny_bind (wpAny_field hz rfl (x:=.ref I) rfl ?_)
 refine wpAny_bind (wpAny_seqItems hI rfl ?_); show wpAny _ _ (Builtin.SmallTypes.ownedTupleIsFree (.ref z) >>= _) _ _ _
 refine wpAny_bind ?_; unfold Builtin.SmallTypes.ownedTupleIsFree; refine wpAny_bind (wpAny_field hz rfl (x:=.none) rfl (wpAny_pure ?_))
 simp only [if_true]; refine wpAny_bind (wpAny_rule ?_); refine wpAny_bind (wpAny_field hz rfl (x:=.ref O) rfl ?_)
 refine wpAny_bind (wpAny_setField_rec hz (by simp) fun g1 z1 b1=>?_)
 replace z1:IsZip g1 z I O .ellipsis:=z1
 refine wpAny_bind ?_; simp only [List.zipIdx_cons,List.zipIdx_nil,List.forIn_cons,List.forIn_nil]
 refine wpAny_bind (wpAny_bind (wpAny_onRaise ?_)); show wpAny _ _ (Builtin.SmallTypes.nextOf (.ref i1) >>= _) _ _ _
 refine wpAny_bind (ZX hh (m1.extBut b1.extBut D.i1z) (t1.extBut b1.extBut D.l1z) hx fun g2 e b2 he=>?_)
 obtain⟨oe,h1,h2⟩:=he
 have z2:IsZip g2 z I O .ellipsis:=b2 _ _ D.i1z.symm z1
 have ez:e≠z:=fun x=>by subst x; rw [z2] at h1; cases h1; simp at h2
 refine wpAny_setField_rec z2 (by simp) fun g3 _ b3=>q g3 e (fun c o c1 _ c3 _ x=>b3.extBut _ _ c1 (b2 _ _ c3 (b1.extBut _ _ c1 x))) ⟨oe,b3.extBut _ _ ez h1,h2⟩
abbrev zt1 (h:Heap) (l1:Addr):Heap:=h.push { cls:=.type "tuple_iterator",data:=.fields #[.ref l1,.int 0 0] }
abbrev zt2 (h:Heap) (l1 l2:Addr):Heap:=(zt1 h l1).push { cls:=.type "tuple_iterator",data:=.fields #[.ref l2,.int 0 0] }
abbrev zt3 (h:Heap) (l1 l2:Addr):Heap:=(zt2 h l1 l2).push { cls:=.type "tuple",data:=.seq #[.ref h.objs.size,.ref (zt1 h l1).objs.size] }
abbrev zt4 (h:Heap) (l1 l2:Addr):Heap:=(zt3 h l1 l2).push { cls:=.type "tuple",data:=.seq #[.none,.none] }
abbrev zt5 (h:Heap) (l1 l2:Addr):Heap:=(zt4 h l1 l2).push { cls:=.type "zip",data:=.fields #[.none,.bool false,.bool false,.ref (zt2 h l1 l2).objs.size,.ref (zt3 h l1 l2).objs.size] }
theorem af7 (l1 l2:Addr) (xs ys:Array Value) :
  Meets (Builtin.«zip.__new__» ⟨[.type "zip",.ref l1,.ref l2],[]⟩) (fun _ R u=>u.heap.IsTuple l1 xs∧u.heap.IsTuple l2 ys∧R (.ok (.ret (.ref (zt4 u.heap l1 l2).objs.size))) { u with heap:=zt5 u.heap l1 l2 }) :=
 .of_wp fun prog w A R u h=>by
  obtain⟨hp,g,d,tk,os⟩:=u; obtain⟨h1,h2,h⟩:=h
  have hsub:=sub_zip
  have T1:Heap.IsTuple (Shared.heap ⟨hp,g,d,tk,os⟩) l1 xs:=h1
  have T2:Heap.IsTuple (Shared.heap ⟨hp.push { cls:=.type "tuple_iterator",data:=.fields #[.ref l1,.int 0 0] },g,d,tk,os⟩) l2 ys:=Heap.IsTuple.push h2 _
  wp_walk using wpAny_pyIter_tuple T1,wpAny_pyIter_tuple T2
  exact⟨_,rfl,h⟩
theorem afW {l1 l2:Addr}{xs ys:Array Value}{Q:Value→Shared→Prop} (h1:s.heap.IsTuple l1 xs) (h2:s.heap.IsTuple l2 ys)
  (q:∀ g,IsZip g (s.heap.objs.size+4) (s.heap.objs.size+2) (s.heap.objs.size+3) .none→IsPair g (s.heap.objs.size+2) (.ref s.heap.objs.size) (.ref (s.heap.objs.size+1)) →
   IsPair g (s.heap.objs.size+3) .none .none→g.IsTupleIter s.heap.objs.size l1 0→g.IsTupleIter (s.heap.objs.size+1) l2 0→g.objs.size=s.heap.objs.size+5 →
   (∀ c o,s.heap.get? c=some o→g.get? c=some o)→Q (.ref (s.heap.objs.size+4)) { s with heap:=g }):wpAny (model prog w) A (call (.type "zip") [.ref l1,.ref l2]) Q E s:=by
 refine callType_new F.called_zip (by decide) (F.typeCall_zip_2 _ _) (F.newCall_zip_2 _ _) (fun obj=>F.args_object_init_3 obj _ _) F.entry_zip_new (af7 l1 l2 xs ys) ⟨h1,h2,?_⟩
 have z1:(zt1 s.heap l1).objs.size=s.heap.objs.size+1:=Heap.size_push ..
 have z2:(zt2 s.heap l1 l2).objs.size=s.heap.objs.size+2:=by rw [Heap.size_push,z1]
 have z3:(zt3 s.heap l1 l2).objs.size=s.heap.objs.size+3:=by rw [Heap.size_push,z2]
 have z4:(zt4 s.heap l1 l2).objs.size=s.heap.objs.size+4:=by rw [Heap.size_push,z3]
 have z5:(zt5 s.heap l1 l2).objs.size=s.heap.objs.size+5:=by rw [Heap.size_push,z4]
 have w5:(zt5 s.heap l1 l2).get? (zt4 s.heap l1 l2).objs.size=some _:=Heap.get?_push_size _ rfl
 have w4:(zt5 s.heap l1 l2).get? (zt3 s.heap l1 l2).objs.size=some _:=Heap.get?_push_of_some _ (Heap.get?_push_size _ rfl)
 have w3:(zt5 s.heap l1 l2).get? (zt2 s.heap l1 l2).objs.size=some _:=Heap.get?_push_of_some _ (Heap.get?_push_of_some _ (Heap.get?_push_size _ rfl))
 have w2:(zt5 s.heap l1 l2).get? (zt1 s.heap l1).objs.size=some _:=Heap.get?_push_of_some _ (Heap.get?_push_of_some _ (Heap.get?_push_of_some _ (Heap.get?_push_size _ rfl)))
 have w1:(zt5 s.heap l1 l2).get? s.heap.objs.size=some _:=Heap.get?_push_of_some _ (Heap.get?_push_of_some _ (Heap.get?_push_of_some _ (Heap.get?_push_of_some _ (Heap.get?_push_size _ rfl))))
 show _∧_
 rw [z2,z3,z4] at w5; rw [z1,z2] at w3; rw [z3] at w4; rw [z1] at w2; rw [z4]
 exact⟨⟨_,w5,rfl⟩,q _ w5 w3 w4 ⟨_,w1,rfl,rfl⟩ ⟨_,w2,rfl,rfl⟩ z5 fun c o x=>Heap.get?_push_of_some _ (Heap.get?_push_of_some _ (Heap.get?_push_of_some _ (Heap.get?_push_of_some _ (Heap.get?_push_of_some _ x))))⟩
end
end PySem
namespace Sw
open PySem PySem.Spec PyProof.Rows L2
def Itz (K:PySem.W.Frag) (a b:Addr):It :=
 ⟨fun i H=>∃ xs ys x y,SqT K H a xs∧SqT K H b ys∧xs[i]?=some x∧ys[i]?=some y, fun i H v H'=>∃ p x y,v=.ref p∧H p=none∧H'=upd H p (.tup [x,y])∧(∀ xs,SqT K H a xs→xs[i]?=some x)∧∀ ys,SqT K H b ys→ys[i]?=some y, fun i H=>∃ xs,SqT K H a xs∧xs.length≤i⟩
theorem ad7 {X:Cx}{pins:List (Addr×Obj)}{σ:Sg}{H:Hp}{s:Shared}{h2:Heap}{tk:Nat}{fp:List Addr}{xs:List V} (I:Inv X pins σ H s) (hf:∀ b∈fp,FpOk X pins H b)
  (k:∀ b o,b ∉ fp→s.heap.get? b=some o→h2.get? b=some o) (new:ObjOk X.prog X.w (upd H s.heap.objs.size (.tup xs)) h2 s.heap.objs.size (.tup xs)) :
  Inv X pins σ (upd H s.heap.objs.size (.tup xs)) { s with heap:=h2,toks:=tk }:=by
 have hn:H s.heap.objs.size=none:=I.hok.fresh (Nat.le_refl _)
 have nt:∀ b u,H b=some u→b≠s.heap.objs.size:=fun b u q=>ne_of_none q hn
 have ne:∀ b u,H b=some u→b ∉ fp:=fun b u q z=>by rw [(hf b z).1] at q; cases q
 have up:∀ b u,H b=some u→upd H s.heap.objs.size (.tup xs) b=some u:=fun b u q=>by rw [upd_ne (nt b u q)]; exact q
 refine I.step (g':=s.gens) (d':=s.drawn) (t':=tk) (ch:=fp) (fun b hb=>⟨(hf b hb).2.2.2.1,(hf b hb).2.1,(hf b hb).2.2.2.2.1,(hf b hb).2.2.2.2.2⟩) (fun b o _ _ hb q _=>k b o hb q)
  (fun b o _ _ hb q _=>⟨o.slots,k b o hb q⟩) (fun b o _ q n=>by rw [upd_ne (Nat.ne_of_lt (Heap.lt_size q))]; exact n)
  (fun b o hb q=>⟨o,k b o hb q⟩) (fun b ys q=>up _ _ q) (fun b o u q=>up _ _ q) (fun b ps q=>⟨#[],by rw [up _ _ q]; simp⟩) (fun m hm=>?_) (fun b u q=>?_) I.bare
 ·obtain⟨o,es,ep,ho,r⟩:=hm
  exact⟨o,es,ep,k _ o (fun z=>(hf _ z).2.1 rfl) ho,r⟩
 ·by_cases hb:b=s.heap.objs.size
  ·subst hb
   rw [upd_same] at q
   cases q
   exact new
  ·rw [upd_ne hb] at q
   refine (I.hok b u q).stay (fun c v hc q'=>k c v ?_ q') (fun c q'=>up _ _ q') fun c ys q'=>up _ _ q'
   rcases hc with z | z
   ·rw [z]; exact ne b u q
   ·exact ne c _ z
theorem Xw {X:Cx}{pins:List (Addr×Obj)}{σ:Sg}{H:Hp}{s:Shared}{h2:Heap}{tk:Nat}{fp:List Addr} (I:Inv X pins σ H s) (hf:∀ b∈fp,FpOk X pins H b)
  (k:∀ b o,b ∉ fp→s.heap.get? b=some o→h2.get? b=some o):Inv X pins σ H { s with heap:=h2,toks:=tk }:=by
 have ne:∀ b u,H b=some u→b ∉ fp:=fun b u q z=>by rw [(hf b z).1] at q; cases q
 refine I.step (g':=s.gens) (d':=s.drawn) (t':=tk) (ch:=fp) (fun b hb=>⟨(hf b hb).2.2.2.1,(hf b hb).2.1,(hf b hb).2.2.2.2.1,(hf b hb).2.2.2.2.2⟩) (fun b o _ _ hb q _=>k b o hb q)
  (fun b o _ _ hb q _=>⟨o.slots,k b o hb q⟩) (fun _ _ _ _ n=>n) (fun b o hb q=>⟨o,k b o hb q⟩) (fun _ _ q=>q) (fun _ _ _ q=>q) (fun b ps q=>⟨#[],by rw [q]; simp⟩) (fun m hm=>?_) (fun b u q=>?_) I.bare
 ·obtain⟨o,es,ep,ho,r⟩:=hm
  exact⟨o,es,ep,k _ o (fun z=>(hf _ z).2.1 rfl) ho,r⟩
 ·refine (I.hok b u q).stay (fun c v hc q'=>k c v ?_ q') (fun _ q'=>q') fun _ _ q'=>q'
  rcases hc with z | z
  ·rw [z]; exact ne b u q
  ·exact ne c _ z
theorem ac2 {P:Program}{w:World}{K:PySem.W.Frag}{elts:List Expr}{x1:Nat}{tp:Pos} (z I O i1 i2 a b:Addr) (D:ZipApart z I O i1 i2 a b) :
  Turn P w K (.Tuple elts x1 tp) (Itz K a b) [z,I,O,i1,i2] z (fun i h=>IsZip h z I O .none∧IsPair h I (.ref i1) (.ref i2)∧(∃ u v,IsPair h O u v)∧h.IsTupleIter i1 a i∧h.IsTupleIter i2 b i) where
 mem:=by simp
 obj:=fun i h st c hc=>by
  obtain⟨h1,h2,⟨u,v,h3⟩,⟨o4,h4,_,d4⟩,⟨o5,h5,_,d5⟩⟩:=st
  simp only [List.mem_cons,List.not_mem_nil,or_false] at hc
  rcases hc with e | e | e | e | e
  ·rw [e]; exact⟨_,h1,fun v z=>by cases z⟩
  ·rw [e]; exact⟨_,h2,fun v z=>by cases z⟩
  ·rw [e]; exact⟨_,h3,fun v z=>by cases z⟩
  ·rw [e]; exact⟨_,h4,fun v z=>by rw [d4] at z; cases z⟩
  ·rw [e]; exact⟨_,h5,fun v z=>by rw [d5] at z; cases z⟩
 keep:=fun i h h' st k=>by
  obtain⟨h1,h2,⟨u,v,h3⟩,⟨o4,h4,r4⟩,⟨o5,h5,r5⟩⟩:=st
  exact⟨k z (by simp) _ h1,k I (by simp) _ h2,⟨u,v,k O (by simp) _ h3⟩,⟨o4,k i1 (by simp) _ h4,r4⟩,⟨o5,k i2 (by simp) _ h5,r5⟩⟩
 item:=by
  intro X hP hw hK hc i pins s σ H E Iv hf st hg
  subst hP hw hK
  obtain⟨h1,h2,⟨u,v,h3⟩,h4,h5⟩:=st
  obtain⟨xs,ys,x,y,qa,qb,ex,ey⟩:=hg
  obtain⟨its,ra,pa,_⟩:=Iv.tuple qa
  obtain⟨jts,rb,pb,_⟩:=Iv.tuple qb
  obtain⟨vx,hvx,rx⟩:=ra.get ex
  obtain⟨vy,hvy,ry⟩:=rb.get ey
  have hT:s.TypeIs (.ref z) "zip":=⟨_,h1,rfl⟩
  unfold pyNext
  refine wpAny_bind (wpAny_attempt (wpAny_callSpecial?_slot (name:=Str.ofString "__next__") hT F.slot_zip_next (wpAny_call_entry F.slot_zip_next hT F.entry_zip_next
   (aeP D h1 h2 h3 h4 h5 (show s.heap.IsTuple a its.toArray from pa) (show s.heap.IsTuple b jts.toArray from pb) (x:=vx) (y:=vy) (by simpa using hvx) (by simpa using hvy) fun g a1 a2 a3 a4 a5 a6 a7=>wpAny_pure ⟨_,rfl,?_⟩) (F.args_zip_next_1 _))))
  refine wpAny_letOwnedTupleGo_zip a1 fun g2 z2 b2=>?_
  have zlt:z<s.heap.objs.size:=Heap.lt_size h1
  have hn:H s.heap.objs.size=none:=Iv.hok.fresh (Nat.le_refl _)
  have T2:g2.get? s.heap.objs.size=some { cls:=.type "tuple",data:=.seq #[vx,vy] }:=(b2.2 _ (Nat.ne_of_gt zlt)).trans a5
  have lt:∀ c∈[z,I,O,i1,i2],c<s.heap.objs.size:=fun c hc=>by
   simp only [List.mem_cons,List.not_mem_nil,or_false] at hc
   rcases hc with e | e | e | e | e
   ·rw [e]; exact zlt
   ·rw [e]; exact Heap.lt_size h2
   ·rw [e]; exact Heap.lt_size h3
   ·rw [e]; obtain⟨_,q,_⟩:=h4; exact Heap.lt_size q
   ·rw [e]; obtain⟨_,q,_⟩:=h5; exact Heap.lt_size q
  refine⟨.ref s.heap.objs.size,upd H s.heap.objs.size (.tup [x,y]),ad7 (s:=s) (xs:=[x,y]) (h2:=g2) (tk:=s.toks) Iv hf (fun c o hc q=>?_) ?_,rfl,⟨_,x,y,rfl,hn,rfl,fun zs hz=>by rw [Iv.uN hz qa]; exact ex,fun zs hz=>by rw [Iv.uN hz qb]; exact ey⟩,⟨z2,?_,⟨_,_,(b2.2 O D.TOz).trans a2⟩,?_,?_⟩,fun c hc=>?_⟩
  ·simp only [List.mem_cons,List.not_mem_nil,or_false,not_or] at hc
   exact (b2.2 c hc.1).trans (a7 c o hc.1 hc.2.2.1 hc.2.2.2.1 hc.2.2.2.2 q)
  ·exact⟨(by show 2≤sizeLine; decide),[vx,vy],.cons rx (.cons ry .nil),⟨_,T2,rfl,_,rfl⟩⟩
  ·exact (b2.2 I D.TIz).trans (a7 I _ D.TIz D.TITO D.TIi1 D.TIi2 h2)
  ·obtain⟨o,q,r⟩:=a3; exact⟨o,(b2.2 i1 D.i1z).trans q,r⟩
  ·obtain⟨o,q,r⟩:=a4; exact⟨o,(b2.2 i2 D.i2z).trans q,r⟩
  ·rw [upd_ne (Nat.ne_of_lt (lt c hc))]; exact (hf c hc).1
 done:=by
  intro X hP hw hK hc i pins s σ H E Iv hf st hg
  subst hP hw hK
  obtain⟨h1,h2,⟨u,v,h3⟩,h4,h5⟩:=st
  obtain⟨xs,qa,hl⟩:=hg
  obtain⟨its,ra,pa,_⟩:=Iv.tuple qa
  have hlen:=ra.length
  have hT:s.TypeIs (.ref z) "zip":=⟨_,h1,rfl⟩
  unfold pyNext
  refine wpAny_bind (wpAny_attempt (wpAny_callSpecial?_slot (name:=Str.ofString "__next__") hT F.slot_zip_next (wpAny_call_entry F.slot_zip_next hT F.entry_zip_next
   (af8 (Iv.ok.hd hc) D h1 h2 h4 (show s.heap.IsTuple a its.toArray from pa) (by simp; lia) fun g e hk he=>?_) (F.args_zip_next_1 _))))
  obtain⟨oe,he1,he2⟩:=he
  refine wpAny_bind (wpAny_isInstance (T:="StopIteration") (b:=true) ⟨oe,he1,he2⟩ isSubtype_stop (wpAny_pure ⟨rfl,?_⟩))
  refine Xw (tk:=s.toks) Iv hf fun c o hc q=>?_
  simp only [List.mem_cons,List.not_mem_nil,or_false,not_or] at hc
  exact hk c o hc.1 hc.2.2.1 hc.2.2.2.1 hc.2.2.2.2 q
 self:=fun _ _ _ _ _ st h=>wpAny_pyIter_zip st.1 h
theorem ail:bootBuiltins "zip"=some (.type "zip"):=by decide +kernel
def ahm (K:PySem.W.Frag) (ta:TA):TI:=fun σ H R=>ta σ H fun vs H1=>∃ a b xs ys,vs=[.ref a,.ref b]∧SqT K H1 a xs∧SqT K H1 b ys∧R (Itz K a b) H1
theorem agE {X:Cx}{elts:List Expr}{x1:Nat}{tp p pos:Pos}{a b:Expr}{ta:TA} (hg:Gl X "zip") (hm:X.mg "zip"=none) (ha:PA X [a,b] ta)
  (hs:starEach [a,b] X.env=[(false,eval a X.env),(false,eval b X.env)]:=by rfl) (hs2:starEach [b] X.env=[(false,eval b X.env)]:=by rfl) :
  PI X (.Tuple elts x1 tp) (.Call (.Name "zip" p) [a,b] [] pos) (ahm X.K ta):=by
 intro pins s σ H R I h
 refine Call_ (ld_blt I hg hm ail (PyProof.Rows.callWith_type1 (thn (ha pos pins s σ H _ I h) fun us s1 ⟨vs,H1,I1,r1,q1⟩=>?_) (by rw [hs,hs2]) (by rw [hs2]; rfl)))
 obtain⟨l1,l2,xs,ys,rfl,qa,qb,q⟩:=q1
 cases r1 with
 | cons r rr =>
  cases rr with
  | cons r' rr =>
   cases rr
   cases r
   cases r'
   obtain⟨its,ra,pa,_⟩:=I1.tuple qa
   obtain⟨jts,rb,pb,_⟩:=I1.tuple qb
   have lt1:l1<s1.heap.objs.size:=by obtain⟨_,e,_⟩:=id pa; exact Heap.lt_size e
   have lt2:l2<s1.heap.objs.size:=by obtain⟨_,e,_⟩:=id pb; exact Heap.lt_size e
   refine afW (show s1.heap.IsTuple l1 its.toArray from pa) (show s1.heap.IsTuple l2 jts.toArray from pb) fun g z1 z2 z3 z4 z5 z6 z7=>wpAny_pyIter_zip z1 ?_
   have I2:Inv X pins σ H1 { s1 with heap:=g }:=I1.kept (t':=s1.toks) z7
   refine⟨_,_,_,Itz X.K l1 l2,H1,rfl,I2,ac2 (s1.heap.objs.size+4) (s1.heap.objs.size+2) (s1.heap.objs.size+3) s1.heap.objs.size (s1.heap.objs.size+1) l1 l2 (zipApart_new lt1 lt2),⟨z1,z2,⟨_,_,z3⟩,z4,z5⟩,fun c hc=>?_,q⟩
   have hb':s1.heap.objs.size≤c:=by
    simp only [List.mem_cons,List.not_mem_nil,or_false] at hc
    rcases hc with e | e | e | e | e <;> rw [e] <;> lia
   exact I1.fpOk hb' (I1.hok.fresh hb')
section
variable {X:Cx}{pins:List (Addr×Obj)}{σ:Sg}{H:Hp}{s:Shared}{scope:Scope}{cl:List (Str×Addr)}{x y:Str}{fr:List Str}{js:List Nat}{fp:List Addr}
theorem aeh {h1:Heap}{m1:Str→Option Value}{tk:Nat} (I:Inv X pins σ H s) (L:yw X scope x fr js cl) (hc:X.calm=true) (hfp:∀ b∈fp,FpOk X pins H b) (hsz:∀ b∈fp,b<s.heap.objs.size)
  (hy:scope.names.lookup y=some .local) (hn:h1.Ns s.heap.objs.size m1) (hk:∀ b o,s.heap.get? b=some o→h1.get? b=some o) :
  Inv (blk X scope cl s.heap.objs.size (x::y::fr) s H fp pins) [] (none::none::frv σ js) H { s with heap:=h1,toks:=tk }:=by
 refine⟨acq I L hc hfp hsz,rfl,I.bare,Un.kept hk,⟨m1,hn,fun i yy v e1 e2 _=>?_⟩,fun y c e=>?_,I.hok.fresh (Nat.le_refl _),fun y c e=>I.freeC y c (L.sub y c e),fun p hp=>?_,I.hok.kept hk,?_⟩
 ·cases i with
  | zero=>exact absurd e2 (by simp)
  | succ i =>
  cases i with
  | zero=>exact absurd e2 (by simp)
  | succ i =>
   have e1':fr[i]?=some yy:=by simpa [blk] using e1
   obtain⟨j,hj,hN,hcell,hrel⟩:=L.frk.get e1'
   have e2':σ[j]?=some (some v):=by
    have q:(frv σ js)[i]?=some (some v):=by simpa using e2
    unfold frv at q
    rw [List.getElem?_map,hj] at q
    have q':(σ[j]?).getD none=some v:=by simpa using q
    cases hs:σ[j]? with
    | none=>rw [hs] at q'; cases q'
    | some o=>rw [hs] at q'; exact congrArg some q'
   obtain⟨m,_,hl⟩:=I.loc
   obtain⟨u,r,lk⟩:=hl j yy v hN e2' (.inr (.inl hcell))
   refine⟨u,r,.inr ⟨.inl hrel,?_⟩⟩
   rcases lk with⟨hloc,_⟩ | ⟨_,c,hc1,hc2⟩
   ·have:X.env.scope.names.lookup yy=some .local:=hloc
    rw [hcell] at this; cases this
   ·obtain⟨c',hc'⟩:=L.has yy (.inl hrel)
    have e3:=L.sub yy c' hc'
    rw [hc1] at e3; cases e3
    exact⟨c,hc',hc2.keeps hk⟩
 ·obtain⟨v,hv⟩:=I.cell y c (L.sub y c e)
  exact⟨v,hv.keeps hk⟩
 ·have hp':p∈X.pn++pins:=by simpa [blk] using hp
  obtain⟨a1,a2,a3,a4,a5⟩:=I.pin p hp'
  refine⟨hk _ _ a1,a2,Nat.ne_of_lt (Heap.lt_size a1),fun z=>?_,a5⟩
  rcases List.mem_cons.mp (I.stkSub _ z) with e | e
  ·exact a3 e
  ·exact a4 e
 ·show (none::none::frv σ js).length=(x::y::fr).length
  simp [frv,L.frk.len]
end
def acF (K:PySem.W.Frag) (J:It) (js:List Nat) (te:TE) (σ:Sg) (Q:VK) (H1:Hp):Prop:=∀ D,H1 D=none →
 ∃ W:Nat→Nat→List V→Hp→Prop,(∃ m,W 0 m [] (upd H1 D (.lst [])))∧∀ i m ys H',W i m ys H'→H' D=some (.lst ys) ∧
  ((J.stop i H'∧Q (.ref D) H')∨(J.go i H'∧∀ v H2,J.yld i H' v H2→∃ a x y,v=.ref a∧SqT K H2 a [x,y]∧te (some x::some y::frv σ js) H2 fun z H3=>H3 D=some (.lst ys)∧ys.length<sizeLine ∧
   ∃ m',m'<m∧W (i+1) m' (ys++[z]) (upd H3 D (.lst (ys++[z])))))
def agb (K:PySem.W.Frag) (wi:TI) (js:List Nat) (te:TE):TE:=fun σ H Q=>wi σ H fun J H1=>acF K J js te σ Q H1
section
variable {X:Cx}{scope:Scope}{cl:List (Str×Addr)}{x y:Str}{fr:List Str}{js:List Nat}{elt iter:Expr}{px py pt pos:Pos}{kt:Nat}{wi:TI}{te:TE}
theorem agM (hc:X.calm=true) (L:yw X scope x fr js cl) (hy:scope.names.lookup y=some .local) (nd2:(x::y::fr).Nodup) (hi:PI X (.Tuple [.Name x px,.Name y py] kt pt) iter wi)
  (he:∀ C s H fp pins,PE (blk X scope cl C (x::y::fr) s H fp pins) elt te)
  (hs:∀ v,foldedSetIterable iter X.env v=pure v:=by intro _; rfl) :
  PE X (.ListComp elt [⟨.Tuple [.Name x px,.Name y py] kt pt,iter,[],0⟩] scope pos) (agb X.K wi js te):=by
 intro pins s σ H Q I h
 rw [eval_ListComp]
 refine wpAny_comprehension_free (use:=none) rfl hs L.clos L.kind L.loc (thn (hi pins s σ H _ I h) fun v s1 h1=>thn h1 fun itv s2 h2=>?_)
 obtain⟨it,fp,tn,J,H2,e,I2,T,st2,f2,rd⟩:=h2
 subst e
 obtain⟨W,⟨m0,w0⟩,turn⟩:=rd _ I2.fresh
 have I3:=I2.lnew (ys:=[]) (its:=[]) (t':=s2.toks) .nil (Nat.zero_le _)
 refine wpAny_newObj_type ?_
 have Ga:∀ b∈fp,b<s2.heap.objs.size:=fun b hb=>by
  obtain⟨o,ho,_⟩:=T.obj 0 _ st2 b hb
  exact Heap.lt_size ho
 generalize hs3:({ s2 with heap:=s2.heap.push { cls:=.type "list",dict:=none,data:=.seq ([]:List Value).toArray } }:Shared)=s3
 have I3':Inv X pins σ (upd H2 s2.heap.objs.size (.lst [])) s3:=by rw [← hs3]; exact I3
 have sz3:s3.heap.objs.size=s2.heap.objs.size+1:=by rw [← hs3]; exact Heap.size_push ..
 have k23:∀ b o,s2.heap.get? b=some o→s3.heap.get? b=some o:=fun b o e=>by rw [← hs3]; exact Heap.get?_push_of_some _ e
 have fsz:∀ b∈fp,b<s3.heap.objs.size:=fun b hb=>by rw [sz3]; exact Nat.lt_succ_of_lt (Ga b hb)
 have f3:∀ b∈fp,FpOk X pins (upd H2 s2.heap.objs.size (.lst [])) b:=fun b hb=>⟨by rw [upd_ne (Nat.ne_of_lt (Ga b hb))]; exact (f2 b hb).1,(f2 b hb).2⟩
 refine wpAny_newFunctionEnv L.cell (by intro y' hy'; simp at hy') (fun h4 hn4 Vo=>?_) L.kind
 have k34:∀ b o,s3.heap.get? b=some o→h4.get? b=some o:=fun b o e=>(Vo.2 b (Nat.ne_of_lt (Heap.lt_size e))).trans (Heap.get?_push_of_some _ e)
 generalize hX':blk X scope cl s3.heap.objs.size (x::y::fr) s3 (upd H2 s2.heap.objs.size (.lst [])) fp pins=X'
 have I4:Inv X' [] (none::none::frv σ js) (upd H2 s2.heap.objs.size (.lst [])) { s3 with heap:=h4,toks:=s3.toks+([]:List (Str×Value)).length }:=by
  rw [← hX']; exact aeh I3' L hc f3 fsz hy hn4 k34
 have st4:tn 0 h4:=T.keep _ _ _ st2 fun b _ o e=>k34 b o (k23 b o e)
 have he':PE X' elt te:=by rw [← hX']; exact he _ _ _ _ _
 have xp:X'.prog=X.prog:=by rw [← hX']; rfl
 have xw:X'.w=X.w:=by rw [← hX']; rfl
 have xK:X'.K=X.K:=by rw [← hX']; rfl
 have xA:X'.A=X.A:=by rw [← hX']; rfl
 have xc:X'.calm=true:=by rw [← hX']; rfl
 have xe:X'.xe=fun _ _=>False:=by rw [← hX']; rfl
 have xn:X'.N=x::y::fr:=by rw [← hX']; rfl
 have xv:X'.env=compEnvC scope cl s3.heap.objs.size X.env:=by rw [← hX']; rfl
 have xpn:X'.pn=X.pn++pins:=by rw [← hX']; rfl
 have xex:X'.ex=fp:=by rw [← hX']; rfl
 have xfs:X'.fs=frs X.stack:=by rw [← hX']; rfl
 have back:∀ {H':Hp}{s':Shared}{h':Heap}{σ':Sg},Inv X' [] σ' H' s'→Heap.SameBut s3.heap.objs.size s'.heap h'→Inv X pins σ H' { s' with heap:=h' }:=fun {H' s' h' σ'} J' hsb=>by
  rw [← hX'] at J'; exact Ls I3' J' f3 hsb
 have frame:∀ b∈fp,b ∉ frs X.stack:=fun b hb z=>by
  rcases List.mem_cons.mp (I3'.stkSub b z) with e | e
  ·exact (f3 b hb).2.1 e
  ·exact (f3 b hb).2.2.1 e
 have stat:∀ {H':Hp},(∀ b∈fp,H' b=none)→∀ b∈fp,FpOk X' [] H' b:=fun {H'} hn b hb=>by
  refine⟨hn b hb,?_,?_,.inl (by rw [xex]; exact hb),?_,?_⟩
  ·rw [xv]; exact Nat.ne_of_lt (fsz b hb)
  ·rw [xfs]; exact frame b hb
  ·rw [xv]; exact fun y' c e=>(f3 b hb).2.2.2.2.1 y' c (L.sub y' c e)
  ·rw [xpn,List.append_nil]; exact (f3 b hb).2.2.2.2.2
 have loop:codeAny (model X.prog X.w) X.A (.compLoop (.ListComp elt [⟨.Tuple [.Name x px,.Name y py] kt pt,iter,[],0⟩] scope pos) 0 (.ref it) (.ref s2.heap.objs.size) (compEnvC scope cl s3.heap.objs.size X.env))
   (compPost (model X.prog X.w) X.A X.xe none (EP X pins σ Q) (.ref s2.heap.objs.size) s3.heap.objs.size) { s3 with heap:=h4,toks:=s3.toks+([]:List (Str×Value)).length }:=by
  refine Qm (fun n s'=>∃ i ys o o' H',Inv X' [] (o::o'::frv σ js) H' s'∧tn i s'.heap∧(∀ b∈fp,H' b=none)∧W i n ys H') ?_ m0 ⟨0,[],none,none,_,I4,st4,fun b hb=>(f3 b hb).1,w0⟩
  rintro n s5 ⟨i,ys,o,o',H5,I5,st5,fr5,w5⟩
  obtain⟨hD,hstep⟩:=turn i n ys H5 w5
  rcases hstep with⟨stop,qn⟩ | ⟨go,step⟩
  ·have q:=T.done X' xp xw xK xc i [] s5 _ H5 (fun _ _=>False) I5 (stat fr5) st5 stop
   rw [xA] at q
   refine thn q fun r s6 ⟨hr,I6⟩=>?_
   subst hr
   obtain⟨m6,hn6,_⟩:=I6.loc
   rw [xv] at hn6
   exact⟨m6,hn6,fun h' hsb=>⟨.ref s2.heap.objs.size,H5,back I6 hsb,rfl,qn⟩⟩
  ·have q:=T.item X' xp xw xK xc i [] s5 _ H5 (fun _ _=>False) I5 (stat fr5) st5 go
   rw [xA] at q
   refine thn q fun r s6 ⟨u,hr,h6⟩=>?_
   subst hr
   refine thn h6 fun _ s7 ⟨xx,H7,I7,r7,y7,st7,fr7⟩=>?_
   have I7':=I7.pinned (stat fr7) (T.obj _ _ st7)
   obtain⟨ta,x0,y0,rfl,qt,step⟩:=step xx _ y7
   have g0:PG X' (.Name x px) (gName 0):=by
    refine pg_name (i:=0) (x:=x) (by rw [xn]; exact nd2) (by rw [xn]; rfl) ?_ ?_
    ·rw [xv]; exact .inl (lookup_relabel_local L.var)
    ·rw [xv]; exact .inr (lookup_relabel_local L.var)
   have g1:PG X' (.Name y py) (gName 1):=by
    refine pg_name (i:=1) (x:=y) (by rw [xn]; exact nd2) (by rw [xn]; rfl) ?_ ?_
    ·rw [xv]; exact .inl (lookup_relabel_local hy)
    ·rw [xv]; exact .inr (lookup_relabel_local hy)
   have hg:PG X' (.Tuple [.Name x px,.Name y py] kt pt) (ad5 X'.K 2 (SN (gName 0) (SN (gName 1) ad6))):=abL xc (J9 g0 (J9 g1 Yx))
   have q7:=hg _ s7 _ H7 _ u (fun σ8 H8=>σ8=some x0::some y0::frv σ js∧H8=H7) I7' r7 ⟨ta,[x0,y0],rfl,by rw [xK]; exact qt,rfl,_,_,rfl,_,_,rfl,rfl,rfl,rfl⟩
   rw [xp,xw,xA,xe,xv] at q7
   refine thn q7 fun _ s8 ⟨σ8,H8,I8,e8,e8'⟩=>?_
   subst e8 e8'
   have q8:=he' _ s8 _ _ _ I8 step
   rw [xp,xw,xA,xe,xv] at q8
   refine thn q8 fun yv s9 ⟨yr,H9,I9,r9,d9,z9,m9,hm9,w9⟩=>?_
   have q9:=cN (X:=X') _ s9 _ H9 (.ref s2.heap.objs.size) [yr] (.ref s2.heap.objs.size) [yv] (fun z H'=>H'=upd H9 s2.heap.objs.size (.lst (ys++[yr]))) I9 rfl (.cons r9 .nil) ⟨_,ys,yr,rfl,rfl,d9,z9,rfl⟩
   rw [xp,xw,xA,xe] at q9
   refine thn q9 fun _ s10 ⟨_,H10,I10,_,e10⟩=>?_
   subst e10
   refine⟨m9,hm9,i+1,ys++[yr],some x0,some y0,_,I10.unpinned,T.keep _ _ _ st7 fun b hb ob e=>(I10.pin (b,ob) (List.mem_append_right _ (List.mem_append_right _ (mem_pinsAt hb e)))).1,fun b hb=>?_,w9⟩
   obtain⟨ob,e,_⟩:=T.obj _ _ st7 b hb
   exact (I10.pin (b,ob) (List.mem_append_right _ (List.mem_append_right _ (mem_pinsAt hb e)))).2.1
 exact codeAny_compStart_list loop (T.self _ 0 _ _ _ st4 loop)
end
theorem abH {X:Cx}{elts:List Expr}{x1:Nat}{tp p pos:Pos}{a b:Expr}{ta:TA} (hg:Gl X "zip") (hm:X.mg "zip"=none) (ha:QA X [a,b] ta)
  (hs:starEach [a,b] X.env=[(false,eval a X.env),(false,eval b X.env)]:=by rfl) (hs2:starEach [b] X.env=[(false,eval b X.env)]:=by rfl) :
  QI X (.Tuple elts x1 tp) (.Call (.Name "zip" p) [a,b] [] pos) (ahm X.K ta):=⟨agE hg hm ha.run hs hs2⟩
theorem agu {X:Cx}{scope:Scope}{cl:List (Str×Addr)}{x y:Str}{fr:List Str}{js:List Nat}{elt iter:Expr}{px py pt pos:Pos}{kt:Nat}{wi:TI}{te:TE} (hc:X.calm=true) (L:yw X scope x fr js cl) (hy:scope.names.lookup y=some .local) (nd2:(x::y::fr).Nodup) (hi:QI X (.Tuple [.Name x px,.Name y py] kt pt) iter wi)
  (he:∀ C s H fp pins,QE (blk X scope cl C (x::y::fr) s H fp pins) elt te)
  (hs:∀ v,foldedSetIterable iter X.env v=pure v:=by intro _; rfl) :
  QE X (.ListComp elt [⟨.Tuple [.Name x px,.Name y py] kt pt,iter,[],0⟩] scope pos) (agb X.K wi js te):=⟨agM hc L hy nd2 hi.run (fun C s H fp pins=>(he C s H fp pins).run) hs⟩
theorem ahg {K:PySem.W.Frag}{a b:Addr}{H1:Hp}{ns ms:List Nat}{σ:Sg}{js:List Nat}{te:TE}{Q:VK} (hn:ns.length≤1000) (he:ns.length=ms.length) (ha:SqT K H1 a (ns.map nv)) (hb:SqT K H1 b (ms.map nv))
  (hte:∀ (i j:Nat) (H':Hp) (R:VK),R (nv (i+j)) H'→te (some (nv i)::some (nv j)::frv σ js) H' R)
  (q:∀ D H',Same H1 H'→H' D=some (.lst ((ns.zipWith (· + ·) ms).map nv))→Q (.ref D) H'):acF K (Itz K a b) js te σ Q H1:=by
 intro D hD
 refine⟨fun i m ys H'=>i≤ns.length∧m=ns.length - i∧Same H1 H'∧H' D=some (.lst ys)∧ys=((ns.zipWith (· + ·) ms).take i).map nv,⟨_,Nat.zero_le _,rfl,same_new hD _,upd_same,rfl⟩,?_⟩
 rintro i m ys H' ⟨hi,rfl,S,hl,rfl⟩
 refine⟨hl,?_⟩
 have ha':=cO (.of S) ha
 have hb':=cO (.of S) hb
 have hz:(ns.zipWith (· + ·) ms).length=ns.length:=by rw [List.length_zipWith,he,Nat.min_self]
 by_cases h:i<ns.length
 ·have hm:i<ms.length:=by lia
  have ex:(ns.map nv)[i]?=some (nv ns[i]):=by rw [List.getElem?_map,List.getElem?_eq_getElem h]; rfl
  have ey:(ms.map nv)[i]?=some (nv ms[i]):=by rw [List.getElem?_map,List.getElem?_eq_getElem hm]; rfl
  refine .inr ⟨⟨_,_,_,_,ha',hb',ex,ey⟩,?_⟩
  rintro v H2 ⟨p,x,y,rfl,hp,rfl,hx,hy⟩
  have e1:=(hx _ ha').symm.trans ex
  have e2:=(hy _ hb').symm.trans ey
  cases e1
  cases e2
  refine⟨p,_,_,rfl,SqT.of upd_same,hte _ _ _ _ ?_⟩
  have hne:D≠p:=fun z=>by rw [z,hp] at hl; cases hl
  refine⟨by rw [upd_ne hne]; exact hl,by rw [List.length_map,List.length_take]; exact Nat.lt_of_le_of_lt (Nat.min_le_left _ _) (Nat.lt_of_lt_of_le (Nat.lt_of_lt_of_le h hn) (by decide)),ns.length - (i+1),by lia,by lia,rfl,cY (S.trans (same_new hp _)) hD,upd_same,?_⟩
  have et:(ns.zipWith (· + ·) ms).take (i+1)=(ns.zipWith (· + ·) ms).take i++[ns[i]+ms[i]]:=by
   rw [List.take_succ,List.getElem?_zipWith,List.getElem?_eq_getElem h,List.getElem?_eq_getElem hm]
   rfl
  rw [et,List.map_append]
  rfl
 ·have e:i=ns.length:=by lia
  subst e
  refine .inl ⟨⟨_,ha',by rw [List.length_map]; exact Nat.le_refl _⟩,q D H' S ?_⟩
  rw [hl,List.take_of_length_le (by lia)]
end Sw
namespace Sw
open PySem PySem.Spec PyProof.Rows L2
theorem CallR.or {X:Cx}{f:Value}{r1 r2:List V→Hp→VK→Prop} (h1:CallR X f r1) (h2:CallR X f r2):CallR X f (fun xs H Q=>r1 xs H Q∨r2 xs H Q):=by
 intro pins s σ H xs us Q I r h
 rcases h with h | h
 ·exact h1 pins s σ H xs us Q I r h
 ·exact h2 pins s σ H xs us Q I r h
theorem ace:∀ ns ms:List Int,((List.range (min ns.length ms.length)).all (fun j=>ns[j]? == ms[j]?) && ns.length == ms.length)=decide (ns=ms):=by
 intro ns ms
 rw [Bool.eq_iff_iff,Bool.and_eq_true,List.all_eq_true,decide_eq_true_iff,beq_iff_eq]
 refine⟨fun ⟨h1,h2⟩=>List.ext_getElem? fun j=>?_,fun h=>by subst h; exact⟨fun j _=>beq_self_eq_true _,rfl⟩⟩
 by_cases hj:j<ns.length
 ·exact eq_of_beq (h1 j (List.mem_range.mpr (by lia)))
 ·rw [List.getElem?_eq_none (by lia),List.getElem?_eq_none (by lia)]
section
variable {X:Cx}{pins:List (Addr×Obj)}{σ:Sg}{H:Hp}{s:Shared}
theorem ab_ {A:Around}{ns ms:List Int}{its jts:List Value} (ra:Vals (ns.map V.int) its) (rb:Vals (ms.map V.int) jts) (j:Nat) (j1:j<its.toArray.size) (j2:j<jts.toArray.size) :
  SeqAt.EqAt A s its.toArray[j] jts.toArray[j] (ns[j]? == ms[j]?):=by
 have l1:=ra.length
 have l2:=rb.length
 rw [List.length_map] at l1 l2
 have h1:j<ns.length:=by simp at j1; lia
 have h2:j<ms.length:=by simp at j2; lia
 obtain⟨u1,hu1,⟨t1,e1⟩⟩:=ra.get (i:=j) (x:=.int ns[j]) (by rw [List.getElem?_map,List.getElem?_eq_getElem h1]; rfl)
 obtain⟨u2,hu2,⟨t2,e2⟩⟩:=rb.get (i:=j) (x:=.int ms[j]) (by rw [List.getElem?_map,List.getElem?_eq_getElem h2]; rfl)
 have g1:its.toArray[j]=.int ns[j] t1:=by
  obtain⟨_,e⟩:=List.getElem?_eq_some_iff.mp hu1
  rw [← e1,← e]
  simp
 have g2:jts.toArray[j]=.int ms[j] t2:=by
  obtain⟨_,e⟩:=List.getElem?_eq_some_iff.mp hu2
  rw [← e2,← e]
  simp
 rw [g1,g2,List.getElem?_eq_getElem h1,List.getElem?_eq_getElem h2]
 exact SeqAt.EqAt.int_int _ _ _ _
end
section
variable {X:Cx}
def ai2 (K:PySem.W.Frag):R2:=fun x y H Q=>∃ a b ns ms,x=.ref a∧y=.ref b∧SqT K H a (List.map V.int ns)∧SqT K H b (List.map V.int ms)∧Q (.bl (decide (ns=ms))) H
theorem afq {n:Nat} (hu:X.A.units+n<cLine):OpR X (compareOp .Eq) (ai2 X.K):=by
 intro pins s σ H x y v u Q I rx ry h
 obtain⟨a,b,ns,ms,rfl,rfl,h1,h2,q⟩:=h
 cases rx
 cases ry
 obtain⟨its,rv,ht,_⟩:=I.tuple h1
 obtain⟨jts,rw',ht2,_⟩:=I.tuple h2
 have key:=SeqAt.RcAt.tuples (A:=X.A) (e:=fun j=>ns[j]? == ms[j]?) ht ht2 (by lia) (fun j j1 j2=>ab_ rv rw' j j1 j2)
 have ev:((List.range (min its.toArray.size jts.toArray.size)).all (fun j=>ns[j]? == ms[j]?) && its.toArray.size == jts.toArray.size)=decide (ns=ms):=by
  rw [← ace,List.size_toArray,List.size_toArray,← rv.length,← rw'.length,List.length_map,List.length_map]
 rw [ev] at key
 exact key _ _ _ _ ⟨.bl _,H,I,rfl,q⟩
theorem GQ:CallR X (.builtin "isinstance") (fun xs H Q=>(∃ x T t b,xs=[x,.ty T]∧TyOf X.K H x t∧PySem.W.kitOne X.K t (.type T)=some b∧Q (.bl b) H)∨(∃ a ys T b,xs=[.ref a,.ty T]∧SqT X.K H a ys∧PySem.W.kitOne X.K (.type "tuple") (.type T)=some b∧Q (.bl b) H)):=CallR.or Xz GK
end
def Ov (K:PySem.W.Frag):Sp:=fun vs H Q _=>∃ a b ns ms,vs=[.ref a,.ref b]∧SqT K H a (List.map nv ns)∧SqT K H b (List.map nv ms)∧ns.length=15∧ms.length=15∧∀ p H',Same H H'→SqT K H' p ((ns.zipWith (· + ·) ms).map nv)→Q (.ref p) H'
theorem abX (ns:List Nat):ns.map nv=(ns.map fun n:Nat=>(n:Int)).map V.int:=by rw [List.map_map]; rfl
end Sw
namespace Sw
open PySem PySem.Spec PyProof.Rows L2
namespace Dt
end Dt
section
variable {K:PySem.W.Frag}{H H':Hp}
end
section
variable {X:Cx}{pins:List (Addr×Obj)}{σ:Sg}{H:Hp}{s:Shared}
end
section
variable {X:Cx}{pins:List (Addr×Obj)}{σ:Sg}{H:Hp}{s:Shared}
end
section
variable {X:Cx}
end
end Sw
namespace Sw
open PySem PySem.Spec PyProof.Rows L2
def fX:List Nat:=List.replicate 15 0
def dF (a b:List Nat):List Nat:=a.zipWith (· + ·) b
theorem rA {a b:List Nat} (h:a.length=15) (g:b.length=15):(dF a b).length=15:=by unfold dF; rw [List.length_zipWith,h,g]; rfl
theorem acE {b:List Nat} (g:b.length=15):dF fX b=b:=by
 unfold dF fX
 refine List.ext_getElem? fun i=>?_
 rw [List.getElem?_zipWith,List.getElem?_replicate]
 by_cases h:i<15
 ·rw [if_pos h,List.getElem?_eq_getElem (by lia)]
  show some (0+_)=some _
  rw [Nat.zero_add]
 ·rw [if_neg h,List.getElem?_eq_none (by lia)]
theorem aaQ {b:List Nat} (g:b.length=15):dF b fX=b:=by
 unfold dF fX
 refine List.ext_getElem? fun i=>?_
 rw [List.getElem?_zipWith,List.getElem?_replicate]
 by_cases h:i<15
 ·rw [if_pos h,List.getElem?_eq_getElem (by lia)]
  show some (_+0)=some _
  rw [Nat.add_zero]
 ·rw [if_neg h,List.getElem?_eq_none (by lia)]
theorem aaR (a b c:List Nat):dF (dF a b) c=dF a (dF b c):=by
 unfold dF
 refine List.ext_getElem? fun i=>?_
 simp only [List.getElem?_zipWith]
 cases a[i]? <;> cases b[i]? <;> cases c[i]? <;> simp [Nat.add_assoc]
def goT (b:Nat) (tx s:List T):List T×List T×List Nat :=
 if h:tx=[]∨b<bC tx s then (tx,s,fX)
 else ((goT (b - bC tx s) (onward tx s).1 (onward tx s).2.1).1,(goT (b - bC tx s) (onward tx s).1 (onward tx s).2.1).2.1,dF (lF tx s) (goT (b - bC tx s) (onward tx s).1 (onward tx s).2.1).2.2)
termination_by b
decreasing_by
 all_goals
  have:=uh tx s
  have:¬ b<bC tx s:=fun z=>h (.inr z)
  lia
def spT (b:Nat) (tx s:List T):Nat :=
 if h:tx=[]∨b<bC tx s then 0
 else bC tx s+spT (b - bC tx s) (onward tx s).1 (onward tx s).2.1
termination_by b
decreasing_by
 have:=uh tx s
 have:¬ b<bC tx s:=fun z=>h (.inr z)
 lia
section
variable {b:Nat}{tx s:List T}
theorem pW (h:tx=[]∨b<bC tx s):goT b tx s=(tx,s,fX):=by rw [goT,dif_pos h]
theorem HD (h:tx=[]∨b<bC tx s):spT b tx s=0:=by rw [spT,dif_pos h]
theorem rJ (h1:tx≠[]) (h2:bC tx s≤b):goT b tx s=((goT (b - bC tx s) (onward tx s).1 (onward tx s).2.1).1,(goT (b - bC tx s) (onward tx s).1 (onward tx s).2.1).2.1,dF (lF tx s) (goT (b - bC tx s) (onward tx s).1 (onward tx s).2.1).2.2):=by
 rw [goT,dif_neg (fun z=>z.elim h1 (by lia))]
theorem HF (h1:tx≠[]) (h2:bC tx s≤b):spT b tx s=bC tx s+spT (b - bC tx s) (onward tx s).1 (onward tx s).2.1:=by
 rw [spT,dif_neg (fun z=>z.elim h1 (by lia))]
end
theorem tR {P:Nat→List T→List T→Prop} (h0:∀ b tx s,(tx=[]∨b<bC tx s)→P b tx s) (h1:∀ b tx s,tx≠[]→bC tx s≤b→P (b - bC tx s) (onward tx s).1 (onward tx s).2.1→P b tx s):∀ b tx s,P b tx s:=by
 intro b
 induction b using Nat.strongRecOn with
 | ind b ih =>
  intro tx s
  by_cases h:tx=[]∨b<bC tx s
  ·exact h0 b tx s h
  ·have hc:=uh tx s
   have h2:bC tx s≤b:=by
    have:¬ b<bC tx s:=fun z=>h (.inr z)
    lia
   exact h1 b tx s (fun z=>h (.inl z)) h2 (ih _ (by lia) _ _)
theorem qH:∀ b tx s,(goT b tx s).2.2.length=15:=by
 refine tR (fun b tx s h=>?_) (fun b tx s h1 h2 ih=>?_)
 ·rw [pW h]; rfl
 ·rw [rJ h1 h2]; exact rA (Gd _ _) ih
theorem aaw:n8 fX=0:=by decide
theorem aax {ns ms:List Nat} (h1:ns.length=15) (h2:ms.length=15):n8 (dF ns ms)=n8 ns+n8 ms:=by
 unfold dF
 match ns,h1,ms,h2 with
 | [a0,a1,a2,a3,a4,a5,a6,a7,a8,a9,a10,a11,a12,a13,a14],_,[c0,c1,c2,c3,c4,c5,c6,c7,c8,c9,c10,c11,c12,c13,c14],_ =>
  simp only [n8,List.zipWith_cons_cons,List.zipWith_nil_left,List.take_succ_cons,List.take_zero,List.map_cons,List.map_nil,List.sum_cons,List.sum_nil,List.getD_cons_succ,List.getD_cons_zero,Int.natCast_add]
  lia
theorem YQ:∀ b tx s,n8 (goT b tx s).2.2=(spT b tx s:Nat):=by
 refine tR (fun b tx s h=>?_) (fun b tx s h1 h2 ih=>?_)
 ·rw [pW h,HD h]; exact aaw
 ·rw [rJ h1 h2,HF h1 h2]
  show n8 (dF _ _)=_
  rw [aax (Gd _ _) (qH _ _ _),afQ,ih]
  lia
theorem aiL:∀ b tx s,spT b tx s≤b:=by
 refine tR (fun b tx s h=>?_) (fun b tx s h1 h2 ih=>?_)
 ·rw [HD h]; lia
 ·rw [HF h1 h2]; lia
inductive Sane:Nat→List T→List T→Prop
 | mk {b:Nat}{tx s:List T} (h1:BX tx) (h2:B 390 8000000 (.node s)) (h3:tx≠[]→bC tx s≤b→Sane (b - bC tx s) (onward tx s).1 (onward tx s).2.1):Sane b tx s
theorem Sane.bx {b:Nat}{tx s:List T} (h:Sane b tx s):BX tx:=by cases h; assumption
theorem Sane.bs {b:Nat}{tx s:List T} (h:Sane b tx s):B 390 8000000 (.node s):=by cases h; assumption
theorem Sane.next {b:Nat}{tx s:List T} (h:Sane b tx s) (h1:tx≠[]) (h2:bC tx s≤b):Sane (b - bC tx s) (onward tx s).1 (onward tx s).2.1:=by
 cases h with
 | mk _ _ h3=>exact h3 h1 h2
theorem Sane.last:∀ b tx s,Sane b tx s→BX (goT b tx s).1∧B 390 8000000 (.node (goT b tx s).2.1):=by
 refine tR (fun b tx s h g=>?_) (fun b tx s h1 h2 ih g=>?_)
 ·rw [pW h]; exact⟨g.bx,g.bs⟩
 ·rw [rJ h1 h2]; exact ih (g.next h1 h2)
def Zi:Str:=PySem.Str.ofString "told"
def adE:Str:=PySem.Str.ofString "out"
def yF (b:Nat) (tx s:List T):Str:=if (goT b tx s).1=[] then Zi else adE
def Ml (b:Nat) (tx s:List T):T:=if (goT b tx s).1=[] then ats (goT b tx s).2.1 0 else leaf
def ZJ (tx s:List T):T:=.node [.node tx,.node s]
def Ot (K:PySem.W.Frag):Sp:=fun vs H Q _=>∃ x t y u,vs=[x,y]∧TR K H t x∧TR K H u y∧∀ z H',Same H H'→TR K H' (ZJ [t] [u]) z→Q z H'
def aeA (K:PySem.W.Frag):Sp:=fun vs H Q _=>∃ (x y:V) (t u:T) (b:Nat),vs=[x,y,.int (b:Int)]∧TR K H t x∧TR K H u y∧Sane b [t] [u] ∧
 ∀ p v H',Same H H'→SqT K H' p [.str (yF b [t] [u]),v,nv (spT b [t] [u])]→TR K H' (Ml b [t] [u]) v→Q (.ref p) H'
def Rn (K:PySem.W.Frag):Sp:=fun vs H Q _=>∃ (x y:V) (t u:T) (b:Nat),vs=[x,y,.int (b:Int)]∧TR K H t x∧TR K H u y∧Sane b [t] [u] ∧
 ∀ c H',Same H H'→SqT K H' c ((goT b [t] [u]).2.2.map nv)→Q (.ref c) H'
end Sw
namespace Sw
open PySem PySem.Spec PyProof.Rows L2
section
variable (p:List T) (d x:T) (Y:List T)
end
end Sw
namespace PySem
open Builtin Builtin.Str
section
variable {prog:Program}{w:World}{A:Around}{E:Value→Shared→Prop}{s:Shared}{x:Str}{t:Tok}{Q:Value→Shared→Prop}
end
end PySem
namespace Sw
open PySem PySem.Spec PyProof.Rows L2
section
variable {X:Cx}
end
open SeqAt in
theorem WX (l:Addr) (items:Array Value) (n:Nat) (dd:Option Addr) (sl:Array (Option Value)) (x:Value) (e:Value→Bool) (j:Nat) (hj:j<items.size) (hit:e items[j]=true) (hno:∀ m (hm:m<items.size),m<j→e items[m]=false) :
  Meets (Builtin.«tuple.index» ⟨[.ref l,x],[]⟩) (fun A R u=>u.heap.get? l=some { cls:=.type "tuple",dict:=dd,data:=.seq items n,slots:=sl }∧(∀ y,y∈items→EqAt A.in1 u y x (e y))∧R (.ok (.ret (.int j u.toks))) { u with toks:=u.toks+1 }) :=
 .of_wp fun prog w A R u h=>by
  obtain⟨hp,g,d,tk,os⟩:=u; obtain⟨hl,he,h⟩:=h
  unfold Builtin.«tuple.index»
  simp only [Std.Legacy.Range.forIn_eq_forIn_range']
  wp_walk using wpAny_loadPart' hl,wpAny_forIn_list _ (fun rest b s'=>b.1=none∧s'=⟨hp,g,d,tk,os⟩∧∃ i,i≤j∧rest=(List.range' 0 items.size).drop i) _
  case turn =>
   rintro i rest b s' ⟨hb,rfl,m,hm,hr⟩
   have hlt:m<items.size:=by
    have:=congrArg List.length hr
    simp at this
    lia
   have hr2:(List.range' 0 items.size).drop m=m::(List.range' 0 items.size).drop (m+1):=by
    rw [List.drop_eq_getElem_cons (by simpa using hlt)]
    simp
   rw [hr2] at hr
   obtain⟨rfl,rfl⟩:=List.cons.inj hr
   have e1:items[i]?=some items[i]:=Array.getElem?_eq_getElem hlt
   rw [e1]
   refine wpAny_bind (he _ (Array.getElem_mem hlt) prog w _ _ ?_)
   by_cases hmj:i=j
   ·subst hmj
    rw [hit]
    wp_walk
    exact⟨_,rfl,h⟩
   ·rw [hno i hlt (by lia)]
    wp_walk
    exact⟨rfl,rfl,i+1,by lia,rfl⟩
  case fin =>
   rintro ⟨b1,b2⟩ s' ⟨hb,rfl,m,hm,hr⟩
   have:=congrArg List.length hr
   simp at this
   lia
  case h =>
   refine⟨rfl,rfl,0,Nat.zero_le _,?_⟩
   simp
end Sw
namespace Sw
abbrev Std:=List T×List T
def nx (st:Std):Std:=((onward st.1 st.2).1,(onward st.1 st.2).2.1)
def uI (st:Std):Nat:=match (ats st.1 0).kids with
 | []=>1
 | w::_=>if aH w=2 then (ats st.2 0).parts else 1
abbrev W (n:Nat):T:=cI n []
abbrev mL (yes no:List T):T:=cI 7 (.node yes::no)
def Fz (st:Std):Prop:=aH (ats (ats st.1 0).kids 0)≠8
inductive Wlk:Std→Nat→Nat→Std→Prop where
 | nil {st:Std}:Wlk st 0 0 st
 | cons {st e:Std}{n c:Nat}:st.1≠[]→Fz st→Wlk (nx st) n c e→Wlk st (n+1) (c+uI st) e
theorem Wlk.to {st e:Std}{n c n' c':Nat} (h:Wlk st n c e) (e1:n=n') (e2:c=c'):Wlk st n' c' e:=by subst e1; subst e2; exact h
theorem Wlk.one {st e u:Std}{n c k:Nat} (h1:st.1≠[]) (h2:Fz st) (h3:nx st=u) (h4:uI st=k) (g:Wlk u n c e):Wlk st (n+1) (c+k) e:=by
 subst h3; subst h4; exact .cons h1 h2 g
section
variable {t cs s:List T}{e:Std}{n c:Nat}
theorem pO {w:T}{k:Nat} (h:aH w=k) (hk:k≠8):Fz (.node (w::t)::cs,s):=by
 show aH w≠8
 rw [h]; exact hk
theorem gw {w:T} (h:aH w≤6):nx (.node (w::t)::cs,s)=(.node t::cs,behind w s):=by
 unfold nx onward
 show (_,_)=_
 simp only [ats,T.kids,List.getElem?_cons_zero,Option.getD_some,List.drop_succ_cons,List.drop_zero]
 rw [if_neg (by lia),if_neg (by lia),if_neg (by lia)]
theorem jZ {w:T} (h:aH w≠2):uI (.node (w::t)::cs,s)=1:=by
 show (if aH w=2 then _ else 1)=1
 rw [if_neg h]
theorem Mj {us:List T} (g:Wlk (.node t::cs,.node us::s) n c e):Wlk (.node (cI 0 us::t)::cs,s) (n+1) (c+1) e :=
 .one (by simp) (pO (k:=0) rfl (by decide)) (by rw [gw (by show 0≤6; decide),QL rfl]; rfl) (jZ (by show 0≠2; decide)) g
theorem qu {a:T} (g:Wlk (.node t::cs,s) n c e):Wlk (.node (W 1::t)::cs,a::s) (n+1) (c+1) e :=
 .one (by simp) (pO (k:=1) rfl (by decide)) (by rw [gw (by decide),aaI rfl,cT (by simp)]; rfl) (jZ (by decide)) g
theorem Te {a:T} (g:Wlk (.node t::cs,a::a::s) n c e):Wlk (.node (W 2::t)::cs,a::s) (n+1) (c+a.parts) e :=
 .one (by simp) (pO (k:=2) rfl (by decide)) (by rw [gw (by decide),aaH rfl,cT (by simp)]; rfl) rfl g
theorem cW {a b:T} (g:Wlk (.node t::cs,b::a::s) n c e):Wlk (.node (W 3::t)::cs,a::b::s) (n+1) (c+1) e :=
 .one (by simp) (pO (k:=3) rfl (by decide)) (by rw [gw (by decide),aaG rfl,cT (by simp)]; rfl) (jZ (by decide)) g
theorem bZ {a:T}{b:List T} (g:Wlk (.node t::cs,.node (a::b)::s) n c e):Wlk (.node (W 4::t)::cs,a::.node b::s) (n+1) (c+1) e :=
 .one (by simp) (pO (k:=4) rfl (by decide)) (by rw [gw (by decide),aaF rfl,cT (by simp)]; rfl) (jZ (by decide)) g
theorem mX {a:List T} (g:Wlk (.node t::cs,ats a 0::.node (a.drop 1)::s) n c e):Wlk (.node (W 5::t)::cs,.node a::s) (n+1) (c+1) e :=
 .one (by simp) (pO (k:=5) rfl (by decide)) (by rw [gw (by decide),aaE rfl,cT (by simp)]; rfl) (jZ (by decide)) g
theorem nA {a:T}{b:List T} (g:Wlk (.node t::cs,a::.node b::s) n c e):Wlk (.node (W 5::t)::cs,.node (a::b)::s) (n+1) (c+1) e:=mX g
theorem dN {a b d:T} (g:Wlk (.node t::cs,d::a::b::s) n c e):Wlk (.node (W 6::t)::cs,a::b::d::s) (n+1) (c+1) e :=
 .one (by simp) (pO (k:=6) rfl (by decide)) (by rw [gw (by decide),aaD rfl,cT (by simp)]; rfl) (jZ (by decide)) g
theorem dG (g:Wlk (cs,s) n c e):Wlk (.node []::cs,s) (n+1) (c+1) e :=
 .one (by simp) (by show 0≠8; decide) rfl rfl g
theorem Hx {yes no:List T}{a:T} (ha:a.kids≠[]) (g:Wlk (.node yes::.node t::cs,a::s) n c e):Wlk (.node (mL yes no::t)::cs,a::s) (n+1) (c+1) e :=
 .one (by simp) (pO (k:=7) rfl (by decide)) (by
  unfold nx onward
  simp only [ats,T.kids,List.getElem?_cons_zero,Option.getD_some,List.drop_succ_cons,List.drop_zero]
  rw [if_pos (by rfl),if_pos (by exact ha),pF (by show 6<7; decide),cT (by show 1≤_; simp)]; rfl) (jZ (by show 7≠2; decide)) g
theorem Bo {yes no:List T}{a:T} (ha:a.kids=[]) (g:Wlk (.node no::.node t::cs,a::s) n c e):Wlk (.node (mL yes no::t)::cs,a::s) (n+1) (c+1) e :=
 .one (by simp) (pO (k:=7) rfl (by decide)) (by
  unfold nx onward
  simp only [ats,T.kids,List.getElem?_cons_zero,Option.getD_some,List.drop_succ_cons,List.drop_zero]
  rw [if_pos (by rfl),if_neg (by exact fun z=>z ha),pF (by show 6<7; decide),cT (by show 1≤_; simp)]; rfl) (jZ (by show 7≠2; decide)) g
end
def Zk (t:List T):List T:=W 6::W 6::W 4::W 6::W 6::W 4::W 3::t
def Ol (t:List T):List T:=W 1::W 4::W 3::W 5::t
def Oi:Nat→List T
 | 1=>[W 1]
 | 2=>[W 2,W 6,W 3,W 4,W 3,W 4]
 | 3=>[W 3,W 5,W 3,W 6,W 4,W 3,W 4]
 | 4=>[W 3,W 5,W 6,W 4,W 4]
 | 5=>[W 5,W 6,W 6,W 4,W 3,W 4]
 | 6=>[W 3,W 5,W 3,W 5,W 3,W 6,W 4,W 6,W 4,W 3,W 4]
 | _=>[]
def Oj (t:List T):List T:=W 6::W 6::W 4::W 6::W 5::t
def ajk:List T:=[W 4,W 3,W 6,W 5,W 3,W 1,W 4]
def tNo:List T:=[W 4,W 3,W 6,W 5,W 1,W 4]
def Zm:List T:=[W 4,W 3,W 6,W 5,W 3,W 2,W 6,W 4,W 6,W 5,W 6,W 4,W 4,W 3,W 4]
def Zj:List T:=[W 4,W 6,W 1,W 3]
def Es:Nat→List T→List T
 | 0,t=>t
 | n+1,t=>W 1::Es n t
def nZ (k:Nat):List T:=Es (k+1) (if k=0 then Zk [] else if k=7 then Oj [mL ajk tNo] else Ol (Oi k++[W 3]))
def HB:Nat→List T→List T
 | 0,t=>t
 | n+1,t=>W 3::W 4::HB n t
def uO:List T:=HB 8 (W 4::Oj [mL Zm Zj])
def Er:List T:=Es 10 [W 4]
def cu:Nat→List T
 | 0=>[mL Er uO]
 | d+1=>[mL (W 5::W 3::cu d) (nZ (7 - d))]
def fZ:List T:=[W 5,mL (W 5::W 5::cu 8) [W 1]]
def bU:List T:=[cI 8 fZ,W 1,W 5,W 3,W 1]
def eU:List T:=W 5::cI 0 []::W 6::W 4::cI 0 []::W 6::W 4::bU
section
variable {t cs s us:List T}{e:Std}{n c:Nat}
theorem Hy {as:List T} (g:Wlk (.node t::cs,s) n c e):∀ {k:Nat},as.length=k→Wlk (.node (Es k t)::cs,as++s) (n+k) (c+k) e:=by
 intro k hk
 induction as generalizing k with
 | nil=>cases hk; exact g
 | cons a as ih=>cases hk; exact qu (ih rfl)
theorem af9 {l:T}{w:T}{ts st:List T} (g:Wlk (.node t::cs,.node (w::ts)::.node (l::st)::us) n c e):Wlk (.node (Zk t)::cs,l::w::.node ts::.node st::us) (n+7) (c+7) e :=
 dN (dN (bZ (dN (dN (bZ (cW g))))))
theorem ac0 {l w:T}{ts st:List T} (g:Wlk (.node t::cs,ats st 0::.node (st.drop 1)::.node (w::ts)::us) n c e):Wlk (.node (Ol t)::cs,l::w::.node ts::.node st::us) (n+4) (c+4) e :=
 qu (bZ (cW (mX g)))
theorem w_top {l w:T}{ts st:List T} (g:Wlk (.node t::cs,ats st 0::.node (st.drop 1)::.node (w::ts)::l::us) n c e):Wlk (.node (Oj t)::cs,l::w::.node ts::.node st::us) (n+5) (c+5) e :=
 dN (dN (bZ (dN (mX g))))
def lG:Nat→List T→List T
 | 1,s=>s.drop 1
 | 2,s=>ats s 0::ats s 0::s.drop 1
 | 3,s=>ats (s.drop 1) 0::ats s 0::s.drop 2
 | 4,s=>.node (ats s 0::(ats (s.drop 1) 0).kids)::s.drop 2
 | 5,s=>ats (ats s 0).kids 0::.node ((ats s 0).kids.drop 1)::s.drop 1
 | 6,s=>ats (s.drop 2) 0::ats s 0::ats (s.drop 1) 0::s.drop 3
 | _,s=>s
theorem acZ {x:T}{st:List T}:∀ {k:Nat},1≤k→k≤6→Wlk (.node t::cs,.node (lG k st)::x::us) n c e →
  ∃ m d,m≤11∧d≤11+(if k=2 then (ats st 0).parts else 0)∧Wlk (.node (Oi k++t)::cs,ats st 0::.node (st.drop 1)::x::us) (n+m) (c+d) e:=by
 intro k h1 h6 g
 rcases (by lia:k=1∨k=2∨k=3∨k=4∨k=5∨k=6) with rfl | rfl | rfl | rfl | rfl | rfl
 ·exact⟨1,1,by decide,by rw [if_neg (by decide)]; decide,qu g⟩
 ·exact⟨6,5+(ats st 0).parts,by decide,by rw [if_pos rfl]; lia,(Te (dN (cW (bZ (cW (bZ g)))))).to rfl (by lia)⟩
 ·exact⟨7,7,by decide,by rw [if_neg (by decide)]; decide,cW (mX (cW (dN (bZ (cW (bZ (by rw [List.drop_drop]; exact g)))))))⟩
 ·refine⟨5,5,by decide,by rw [if_neg (by decide)]; decide,cW (mX (dN ?_))⟩
  rw [show ats (st.drop 1) 0=.node (ats (st.drop 1) 0).kids from (h_ _).symm]
  exact bZ (bZ (by rw [List.drop_drop]; exact g))
 ·refine⟨6,6,by decide,by rw [if_neg (by decide)]; decide,?_⟩
  rw [show ats st 0=.node (ats st 0).kids from (h_ _).symm]
  exact mX (dN (dN (bZ (cW (bZ g)))))
 ·exact⟨11,11,by decide,by rw [if_neg (by decide)]; decide,cW (mX (cW (mX (cW (dN (bZ (dN (bZ (cW (bZ (by rw [List.drop_drop,List.drop_drop]; exact g)))))))))))⟩
theorem vQ (k:Nat) (g:Wlk (cs,s) n c e):Wlk (List.replicate k (.node [])++cs,s) (n+k) (c+k) e:=by
 induction k with
 | zero=>exact g
 | succ k ih=>exact dG ih
theorem Ys {α:Type} (x:α) (k:Nat) (l:List α):List.replicate k x++x::l=List.replicate (k+1) x++l:=by
 induction k with
 | zero=>rfl
 | succ k ih=>rw [List.replicate_succ,List.cons_append,ih]; rfl
theorem Af {fs:List T}{d:Nat}:∀ {as cs s:List T},Wlk (.node (cu d)::(List.replicate as.length (.node [])++cs),.node fs::(as.reverse++s)) n c e →
  Wlk (.node (cu (as.length+d))::cs,.node (as++fs)::s) (n+3 * as.length) (c+3 * as.length) e:=by
 intro as
 induction as with
 | nil=>intro cs s g; rw [List.length_nil,Nat.zero_add]; exact g
 | cons a as ih =>
  intro cs s g
  have g':Wlk (.node (cu d)::(List.replicate as.length (.node [])++.node []::cs),.node fs::(as.reverse++a::s)) n c e:=by
   rw [Ys]
   rw [List.reverse_cons,List.append_assoc] at g
   exact g
  rw [List.length_cons,show as.length+1+d=as.length+d+1 by lia]
  exact (Hx (yes:=W 5::W 3::cu (as.length+d)) (a:=.node (a::(as++fs))) (by simp [T.kids]) (nA (cW (ih g')))).to (by lia) (by lia)
theorem aa8:∀ {as fs s:List T},Wlk (.node t::cs,.node (as.reverse++fs)::s) n c e→Wlk (.node (HB as.length t)::cs,.node fs::(as++s)) (n+2 * as.length) (c+2 * as.length) e:=by
 intro as
 induction as with
 | nil=>intro fs s g; exact g
 | cons a as ih =>
  intro fs s g
  rw [List.reverse_cons,List.append_assoc] at g
  exact (cW (bZ (ih g))).to (by rw [List.length_cons]; lia) (by rw [List.length_cons]; lia)
def resT (as l xs ts st:List T):List T×List T :=
 if as.length=0 then (.node xs::ts,.node l::st)
 else if as.length≤6 then (.node xs::ts,lG as.length st)
 else if as.length=7 then if (ats st 0).kids≠[] then (ats l 0::.node xs::ts,ats st 0::st.drop 1) else (.node (l.drop 1)::.node xs::ts,ats st 0::st.drop 1)
 else if as.length=8 then if (ats st 0).kids≠[] then (.node l::.node (.node (.node as::l)::xs)::ts,ats st 0::st.drop 1) else (.node xs::ts,ats st 0::st.drop 1)
 else (.node xs::ts,st)
theorem aa6 {as l xs ts st:List T} (g:Wlk (cs,.node (resT as l xs ts st).1::.node (resT as l xs ts st).2::us) n c e) :
  ∃ m d,m≤100∧(1≤as.length→as.length≤8→5 * as.length+9≤m)∧d≤100+(if as.length=2 then (ats st 0).parts else 0)+(if as.length=8∧(ats st 0).kids≠[] then (T.node l).parts else 0) ∧
   Wlk (.node (cu 8)::cs,.node as::.node l::.node xs::.node ts::.node st::us) (n+m) (c+d) e:=by
 by_cases h0:as.length=0
 ·have:as=[]:=List.length_eq_zero_iff.mp h0
  subst this
  refine⟨11,11,by decide,fun z=>absurd z (by decide),by rw [if_neg (by decide),if_neg (by simp)]; decide,?_⟩
  have g:Wlk (cs,.node (.node xs::ts)::.node (.node l::st)::us) n c e:=g
  exact Bo rfl (qu (af9 (dG (dG g))))
 rw [resT,if_neg h0] at g
 by_cases h6:as.length≤6
 ·rw [if_pos h6] at g
  have g1:=dG (dG (vQ as.length g))
  obtain⟨m,d,hm,hd,g2⟩:=acZ (k:=as.length) (by lia) h6 (cW g1)
  have g3:=Hy (as:=.node []::as.reverse) (ac0 (l:=.node l) g2) (k:=as.length+1) (by rw [List.length_cons,List.length_reverse])
  refine⟨3 * as.length+1+(as.length+1)+4+m+1+1+1+as.length,3 * as.length+1+(as.length+1)+4+d+1+1+1+as.length,by lia,fun _ _=>by lia,by lia,?_⟩
  have e8:cu 8=cu (as.length+(8 - as.length)):=by rw [show as.length+(8 - as.length)=8 by lia]
  rw [e8,show T.node as=T.node (as++[]) by rw [List.append_nil]]
  refine (Af (n:=(n+as.length+1+1+1+m+4+(as.length+1))+1) (c:=(c+as.length+1+1+1+d+4+(as.length+1))+1) ?_).to (by lia) (by lia)
  have e9:cu (8 - as.length)=[mL (W 5::W 3::cu (7 - as.length)) (nZ as.length)]:=by
   rw [show 8 - as.length=(7 - as.length)+1 by lia,cu,show 7 - (7 - as.length)=as.length by lia]
  rw [e9]
  refine Bo rfl ?_
  rw [nZ,if_neg h0,if_neg (by lia)]
  exact g3
 rw [if_neg h6] at g
 by_cases h7:as.length=7
 ·rw [if_pos h7] at g
  have e8:cu 8=cu (as.length+1):=by rw [h7]
  have e9:cu 1=[mL (W 5::W 3::cu 0) (nZ 7)]:=rfl
  by_cases ht:(ats st 0).kids≠[]
  ·rw [if_pos ht] at g
   have g1:=dG (dG (dG (vQ as.length g)))
   refine⟨3 * as.length+1+(as.length+1)+5+1+7+3+as.length,3 * as.length+1+(as.length+1)+5+1+7+3+as.length,by lia,fun _ _=>by lia,by rw [if_neg (by lia),if_neg (by lia)]; lia,?_⟩
   rw [e8,show T.node as=T.node (as++[]) by rw [List.append_nil]]
   refine (Af (n:=(n+as.length+3+7+1+5+(as.length+1))+1) (c:=(c+as.length+3+7+1+5+(as.length+1))+1) ?_).to (by lia) (by lia)
   rw [e9]
   refine Bo rfl ?_
   rw [nZ,if_neg (by decide),if_pos rfl]
   exact (Hy (as:=.node []::as.reverse) (w_top (Hx ht (bZ (cW (dN (mX (cW (qu (bZ g1))))))))) (k:=7+1) (by rw [List.length_cons,List.length_reverse,h7])).to (by lia) (by lia)
  ·rw [if_neg ht] at g
   have g1:=dG (dG (dG (vQ as.length g)))
   refine⟨3 * as.length+1+(as.length+1)+5+1+6+3+as.length,3 * as.length+1+(as.length+1)+5+1+6+3+as.length,by lia,fun _ _=>by lia,by rw [if_neg (by lia),if_neg (by lia)]; lia,?_⟩
   rw [e8,show T.node as=T.node (as++[]) by rw [List.append_nil]]
   refine (Af (n:=(n+as.length+3+6+1+5+(as.length+1))+1) (c:=(c+as.length+3+6+1+5+(as.length+1))+1) ?_).to (by lia) (by lia)
   rw [e9]
   refine Bo rfl ?_
   rw [nZ,if_neg (by decide),if_pos rfl]
   exact (Hy (as:=.node []::as.reverse) (w_top (Bo (Classical.not_not.mp ht) (bZ (cW (dN (mX (qu (bZ g1)))))))) (k:=7+1) (by rw [List.length_cons,List.length_reverse,h7])).to (by lia) (by lia)
 rw [if_neg h7] at g
 by_cases h8:as.length=8
 ·rw [if_pos h8] at g
  have e8:cu 8=cu (as.length+0):=by rw [h8]
  have eb:uO=HB as.reverse.length (W 4::Oj [mL Zm Zj]):=by rw [List.length_reverse,h8]; rfl
  by_cases ht:(ats st 0).kids≠[]
  ·rw [if_pos ht] at g
   have g1:=dG (dG (dG (vQ as.length g)))
   refine⟨3 * as.length+1+2 * as.length+1+5+1+15+3+as.length,3 * as.length+1+2 * as.length+1+5+1+14+3+as.length+(T.node l).parts,by lia,fun _ _=>by lia,by rw [if_neg (by lia),if_pos ⟨h8,ht⟩]; lia,?_⟩
   rw [e8,show T.node as=T.node (as++[]) by rw [List.append_nil]]
   refine (Af (n:=(n+as.length+3+15+1+5+1+2 * as.length)+1) (c:=(c+as.length+3+14+(T.node l).parts+1+5+1+2 * as.length)+1) ?_).to (by lia) (by lia)
   refine Bo rfl ?_
   rw [eb]
   refine (aa8 (n:=n+as.length+3+15+1+5+1) (c:=c+as.length+3+14+(T.node l).parts+1+5+1) ?_).to (by rw [List.length_reverse]) (by rw [List.length_reverse])
   rw [List.reverse_reverse,List.append_nil]
   exact (bZ (w_top (Hx ht (bZ (cW (dN (nA (cW (Te (dN (bZ (dN (nA (dN (bZ (bZ (cW (bZ g1)))))))))))))))))).to (by lia) (by lia)
  ·rw [if_neg ht] at g
   have g1:=dG (dG (dG (vQ as.length g)))
   refine⟨3 * as.length+1+2 * as.length+1+5+1+4+3+as.length,3 * as.length+1+2 * as.length+1+5+1+4+3+as.length,by lia,fun _ _=>by lia,by rw [if_neg (by lia),if_neg (fun z=>ht z.2)]; lia,?_⟩
   rw [e8,show T.node as=T.node (as++[]) by rw [List.append_nil]]
   refine (Af (n:=(n+as.length+3+4+1+5+1+2 * as.length)+1) (c:=(c+as.length+3+4+1+5+1+2 * as.length)+1) ?_).to (by lia) (by lia)
   refine Bo rfl ?_
   rw [eb]
   refine (aa8 (n:=n+as.length+3+4+1+5+1) (c:=c+as.length+3+4+1+5+1) ?_).to (by rw [List.length_reverse]) (by rw [List.length_reverse])
   rw [List.reverse_reverse,List.append_nil]
   exact bZ (w_top (Bo (Classical.not_not.mp ht) (bZ (dN (qu (cW g1))))))
 ·rw [if_neg h8] at g
  have hl:(as.take 8).length=8:=by rw [List.length_take]; lia
  have g1:=dG (dG (vQ 8 g))
  refine⟨3 * 8+1+10+1+2+8,3 * 8+1+10+1+2+8,by lia,fun _ _=>by lia,by lia,?_⟩
  have e8:cu 8=cu ((as.take 8).length+0):=by rw [hl]
  rw [e8,show T.node as=T.node (as.take 8++as.drop 8) by rw [List.take_append_drop]]
  refine (Af (n:=(n+8+2+1+10)+1) (c:=(c+8+2+1+10)+1) ?_).to (by lia) (by lia)
  rw [hl]
  refine Hx ?_ ?_
  ·show as.drop 8≠[]
   intro z
   have:=congrArg List.length z
   rw [List.length_drop,List.length_nil] at this
   lia
  ·have:=Hy (as:=.node (as.drop 8)::((as.take 8).reverse++[.node l])) (bZ g1) (k:=10) (by rw [List.length_cons,List.length_append,List.length_reverse,hl]; rfl)
   rw [List.cons_append,List.append_assoc] at this
   exact this
def nj (tx s:List T):Nat:=match (ats tx 0).kids with
 | []=>0
 | w::_=>if aH w=2 then (ats s 0).parts else if aH w=8∧(ats s 0).kids≠[] then (aZ w).parts else 0
theorem Ul (s:List T):pad s 1=ats s 0::s.drop 1:=by
 cases s with
 | nil=>rfl
 | cons a s=>rw [cT (by simp)]; rfl
theorem ach {w:T}{k:Nat} (h1:1≤k) (h6:k≤6) (h:aH w=k):behind w s=lG k s:=by
 rcases (by lia:k=1∨k=2∨k=3∨k=4∨k=5∨k=6) with rfl | rfl | rfl | rfl | rfl | rfl
 ·rw [aaI h,Ul]; rfl
 ·rw [aaH h,Ul]; rfl
 ·rw [aaG h]
  match s with
  | []=>rfl
  | [a]=>rfl
  | a::b::s=>rw [cT (by simp)]; rfl
 ·rw [aaF h]
  match s with
  | []=>rfl
  | [a]=>rfl
  | a::b::s=>rw [cT (by simp)]; rfl
 ·rw [aaE h,Ul]; rfl
 ·rw [aaD h]
  match s with
  | []=>rfl
  | [a]=>rfl
  | [a,b]=>rfl
  | a::b::d::s=>rw [cT (by simp)]; rfl
theorem fU {w:T}{ws ts:List T}:onward (.node (w::ws)::ts) s =
  if aH w=7 then
   if (ats s 0).kids≠[] then (ats (w.kids.drop 1) 0::.node ws::ts,behind w s,7) else (.node (w.kids.drop 2)::.node ws::ts,behind w s,8)
  else if aH w=8 then
   if (ats s 0).kids≠[] then (aZ w::.node (w::ws)::ts,behind w s,9) else (.node ws::ts,behind w s,10)
  else if aH w=9 then (.node ws::ts,behind w s,11)
  else (.node ws::ts,behind w s,aH w):=rfl
theorem Ud {as l xs ts:List T}:((onward (.node (.node (.node as::l)::xs)::ts) s).1,(onward (.node (.node (.node as::l)::xs)::ts) s).2.1)=resT as l xs ts s:=by
 have hs:aH (.node (.node as::l))=min 9 as.length:=rfl
 rw [fU]
 unfold resT
 rw [hs]
 by_cases h0:as.length=0
 ·rw [if_neg (by lia),if_neg (by lia),if_neg (by lia),if_pos h0,QL (by rw [hs]; lia)]; rfl
 rw [if_neg h0]
 by_cases h6:as.length≤6
 ·rw [if_neg (by lia),if_neg (by lia),if_neg (by lia),if_pos h6,ach (k:=as.length) (by lia) h6 (by rw [hs]; lia)]
 rw [if_neg h6]
 by_cases h7:as.length=7
 ·rw [if_pos (by lia),if_pos h7,pF (by rw [hs]; lia),hs,show min 9 as.length=7 by lia,show many 7=1 from rfl,Ul]
  split <;> rfl
 rw [if_neg h7]
 by_cases h8:as.length=8
 ·rw [if_neg (by lia),if_pos (by lia),if_pos h8,pF (by rw [hs]; lia),hs,show min 9 as.length=8 by lia,show many 8=1 from rfl,Ul]
  split <;> rfl
 ·rw [if_neg (by lia),if_neg (by lia),if_pos (by lia),if_neg h8,pF (by rw [hs]; lia),hs,show min 9 as.length=9 by lia,show many 9=0 from rfl,cT (Nat.zero_le _)]
theorem res_none {xs ts:List T}:((onward (.node (.node []::xs)::ts) s).1,(onward (.node (.node []::xs)::ts) s).2.1)=resT [] [] xs ts s:=by
 unfold onward
 simp only [ats,T.kids,List.getElem?_cons_zero,Option.getD_some,List.drop_succ_cons,List.drop_zero]
 rw [QL rfl]
 rfl
theorem aaj {tx:List T} (h:tx≠[]):nx (.node bU::cs,.node tx::s)=(.node fZ::.node bU::cs,.node tx::s):=by
 unfold nx
 rw [show bU=cI 8 fZ::[W 1,W 5,W 3,W 1] from rfl,fU,if_neg (by show 8≠7; decide),if_pos (by rfl),if_pos (by exact h),pF (by show 6<8; decide),cT (by show 1≤_; simp)]
 rfl
theorem afM:nx (.node bU::cs,.node []::s)=(.node [W 1,W 5,W 3,W 1]::cs,.node []::s):=by
 unfold nx
 rw [show bU=cI 8 fZ::[W 1,W 5,W 3,W 1] from rfl,fU,if_neg (by show 8≠7; decide),if_pos (by rfl),if_neg (by exact fun z=>z rfl),pF (by show 6<8; decide),cT (by show 1≤_; simp)]
end
end Sw
namespace Sw
def wt (st:Std):Nat:=T.aD st.1+T.aD st.2
theorem Ar (k:Nat) (s:List T):T.aD (s.drop k)≤T.aD s:=by
 have e:=T.cJ (s.take k) (s.drop k)
 rw [List.take_append_drop] at e
 lia
theorem M4 (s:List T) (k:Nat):(ats s k).parts≤T.aD s+1:=by
 induction s generalizing k with
 | nil=>unfold ats leaf; rw [List.getElem?_nil,Option.getD_none,T.aM,T.aR]; lia
 | cons a s ih =>
  rw [T.aF]
  cases k with
  | zero=>show a.parts≤_; lia
  | succ k=>have:=ih k; have:=T.g_ a; show (ats s k).parts≤_; lia
theorem Fq (w:T):(aZ w).parts≤w.parts:=by
 have:=Ar 1 w.kids
 unfold aZ
 rw [T.aM,T.dH w]
 lia
theorem ai9 {k:Nat} (h1:1≤k) (h6:k≤6) (s:List T):T.aD (lG k s)≤T.aD s+(if k=2 then (ats s 0).parts+1 else 3):=by
 have hl:leaf.parts=1:=by unfold leaf; rw [T.aM,T.aR]
 have hk:leaf.kids=[]:=rfl
 have hn:(T.node []).parts=1:=by rw [T.aM,T.aR]
 have e0:∀ s:List T,ats s 0=match s with | []=>leaf | a::_=>a:=fun s=>by cases s <;> rfl
 rcases (by lia:k=1∨k=2∨k=3∨k=4∨k=5∨k=6) with rfl | rfl | rfl | rfl | rfl | rfl
 ·have:=Ar 1 s; rw [if_neg (by decide)]; show T.aD (s.drop 1)≤_; lia
 ·rw [if_pos rfl]
  match s with
  | []=>simp only [lG,e0,List.drop_nil,T.aF,T.aR,hl]; lia
  | a::s=>simp only [lG,e0,List.drop_succ_cons,List.drop_zero,T.aF]; lia
 ·rw [if_neg (by decide)]
  match s with
  | []=>simp only [lG,e0,List.drop_nil,T.aF,T.aR,hl]; lia
  | [a]=>simp only [lG,e0,List.drop_succ_cons,List.drop_zero,List.drop_nil,T.aF,T.aR,hl]; lia
  | a::b::s=>simp only [lG,e0,List.drop_succ_cons,List.drop_zero,T.aF]; lia
 ·rw [if_neg (by decide)]
  match s with
  | []=>simp only [lG,e0,List.drop_nil,T.aF,T.aR,hl,hk,T.aM]; lia
  | [a]=>simp only [lG,e0,List.drop_succ_cons,List.drop_zero,List.drop_nil,T.aF,T.aR,hk,T.aM]; lia
  | a::b::s=>simp only [lG,e0,List.drop_succ_cons,List.drop_zero,T.aF,T.aM]; have:=T.dH b; lia
 ·rw [if_neg (by decide)]
  match s with
  | []=>simp only [lG,e0,List.drop_nil,T.aF,T.aR,hl,hk,T.aM]; lia
  | .node []::s=>simp only [lG,e0,T.kids,List.drop_succ_cons,List.drop_zero,List.drop_nil,T.aF,T.aR,hl,T.aM]; lia
  | .node (a::b)::s=>simp only [lG,e0,T.kids,List.drop_succ_cons,List.drop_zero,T.aF,T.aM]; lia
 ·rw [if_neg (by decide)]
  match s with
  | []=>simp only [lG,e0,List.drop_nil,T.aF,T.aR,hl]; lia
  | [a]=>simp only [lG,e0,List.drop_succ_cons,List.drop_zero,List.drop_nil,T.aF,T.aR,hl]; lia
  | [a,b]=>simp only [lG,e0,List.drop_succ_cons,List.drop_zero,List.drop_nil,T.aF,T.aR,hl]; lia
  | a::b::d::s=>simp only [lG,e0,List.drop_succ_cons,List.drop_zero,T.aF]; lia
theorem ai8 (s:List T) (n:Nat):T.aD (pad s n)≤T.aD s+n:=by
 have:∀ k,T.aD (List.replicate k leaf)=k:=fun k=>by
  induction k with
  | zero=>rw [List.replicate_zero,T.aR]
  | succ k ih=>rw [List.replicate_succ,T.aF,ih,leaf,T.aM,T.aR]; lia
 unfold pad
 rw [T.cJ,this]
 lia
theorem Kd (w:T) (s:List T):T.aD (behind w s)≤T.aD s+(if aH w=2 then (ats s 0).parts+1 else 3)+(if aH w=0 then (aZ w).parts else 0):=by
 by_cases h0:aH w=0
 ·rw [QL h0,T.aF,if_pos h0,if_neg (by lia)]; lia
 by_cases h6:aH w≤6
 ·rw [ach (k:=aH w) (by lia) h6 rfl]
  have:=ai9 (k:=aH w) (by lia) h6 s
  lia
 ·have h9:=Ai w
  have h3:∀ k,k≤9→many k≤3:=by decide
  have:=h3 _ h9
  rw [pF (by lia),if_neg (by lia)]
  have:=ai8 s (many (aH w))
  lia
theorem Ft (w:T) (ws ts s:List T) :
  T.aD (onward (.node (w::ws)::ts) s).1≤T.aD (.node (w::ws)::ts)+(if aH w=8 then (aZ w).parts else 0) ∧
  (aH w=0→T.aD (onward (.node (w::ws)::ts) s).1+w.parts≤T.aD (.node (w::ws)::ts))∧(onward (.node (w::ws)::ts) s).2.1=behind w s:=by
 have hw:=T.g_ w
 have hl:=Fq w
 rw [fU]
 by_cases h7:aH w=7
 ·rw [if_pos h7,if_neg (show ¬ aH w=8 by lia)]
  refine⟨?_,fun z=>absurd z (by lia),by split <;> rfl⟩
  split
  ·have:=M4 (w.kids.drop 1) 0
   have:=Ar 1 w.kids
   have:=T.dH w
   show T.aD (_::_::_)≤_
   simp only [T.aF,T.aM]
   lia
  ·have:=Ar 2 w.kids
   have:=T.dH w
   show T.aD (_::_::_)≤_
   simp only [T.aF,T.aM]
   lia
 rw [if_neg h7]
 by_cases h8:aH w=8
 ·rw [if_pos h8,if_pos h8]
  refine⟨?_,fun z=>absurd z (by lia),by split <;> rfl⟩
  split
  ·show T.aD (_::_::_)≤_
   simp only [T.aF,T.aM]
   lia
  ·show T.aD (_::_)≤_
   simp only [T.aF,T.aM]
   lia
 rw [if_neg h8,if_neg h8]
 have e:T.aD (.node ws::ts)+w.parts=T.aD (.node (w::ws)::ts):=by simp only [T.aF,T.aM]; lia
 split
 ·exact⟨by show T.aD (.node ws::ts)≤_; lia,fun _=>by show T.aD (.node ws::ts)+_≤_; lia,rfl⟩
 ·exact⟨by show T.aD (.node ws::ts)≤_; lia,fun _=>by show T.aD (.node ws::ts)+_≤_; lia,rfl⟩
theorem aiF {st:Std} (h:Fz st):wt (nx st)≤wt st+3 * uI st:=by
 obtain⟨tx,s⟩:=st
 match tx with
 | [] =>
  show T.aD []+T.aD s≤T.aD []+T.aD s+_
  lia
 | .node []::ts =>
  show T.aD ts+T.aD s≤T.aD (.node []::ts)+T.aD s+_
  rw [T.aF]
  lia
 | .node (w::ws)::ts =>
  have h8:aH w≠8:=h
  obtain⟨b1,b2,b3⟩:=Ft w ws ts s
  have b4:=Kd w s
  have hl:=Fq w
  rw [if_neg h8] at b1
  have hc:uI (.node (w::ws)::ts,s)=if aH w=2 then (ats s 0).parts else 1:=rfl
  have hp:=T.g_ (ats s 0)
  show T.aD (onward (.node (w::ws)::ts) s).1+T.aD (onward (.node (w::ws)::ts) s).2.1≤T.aD (.node (w::ws)::ts)+T.aD s+3 * uI (.node (w::ws)::ts,s)
  rw [hc,b3]
  by_cases h2:aH w=2
  ·rw [if_pos h2,if_neg (by lia)] at b4
   rw [if_pos h2]
   lia
  ·rw [if_neg h2] at b4
   rw [if_neg h2]
   by_cases h0:aH w=0
   ·have:=b2 h0
    rw [if_pos h0] at b4
    lia
   ·rw [if_neg h0] at b4
    lia
def Wds (M:Nat) (tx:List T):Prop:=∀ t∈tx,∀ w∈t.kids,w.parts≤M
theorem Wds.next {M:Nat}{tx s:List T} (h:Wds M tx):Wds M (onward tx s).1∧T.aD (onward tx s).1≤T.aD tx+M∧T.aD (onward tx s).2.1≤2 * T.aD s+M+4:=by
 match tx with
 | []=>exact⟨h,by show T.aD []≤_; lia,by show T.aD s≤_; lia⟩
 | .node []::ts=>exact⟨fun t ht=>h t (List.mem_cons_of_mem _ ht),by show T.aD ts≤_; rw [T.aF]; lia,by show T.aD s≤_; lia⟩
 | .node (w::ws)::ts =>
  have hw:w.parts≤M:=h _ List.mem_cons_self w List.mem_cons_self
  obtain⟨b1,b2,b3⟩:=Ft w ws ts s
  have b4:=Kd w s
  have hl:=Fq w
  have pa:=M4 s 0
  refine⟨?_,by split at b1 <;> lia,by rw [b3]; split at b4 <;> split at b4 <;> lia⟩
  have hin:∀ {us:List T}{k:Nat}{v:T},v∈w.kids.drop k→v.parts≤M:=fun {us k v} hv=>by
   have:=T.lW (List.mem_of_mem_drop hv)
   rw [T.dH w] at hw
   lia
  have hws:∀ v∈ws,v.parts≤M:=fun v hv=>h _ List.mem_cons_self v (List.mem_cons_of_mem _ hv)
  have hts:Wds M ts:=fun t ht=>h t (List.mem_cons_of_mem _ ht)
  have SM:∀ {a:T}{us:List T},(∀ v∈a.kids,v.parts≤M)→Wds M us→Wds M (a::us):=fun {a us} ha hus t ht=>by
   rcases List.mem_cons.mp ht with rfl | z
   ·exact ha
   ·exact hus t z
  have hr:Wds M (.node ws::ts):=SM hws hts
  rw [fU]
  split
  ·split
   ·refine SM (fun v hv=>?_) hr
    have h1:=M4 (w.kids.drop 1) 0
    have h2:=Ar 1 w.kids
    have h3:=T.lW hv
    rw [T.dH w] at hw
    rw [T.dH (ats (w.kids.drop 1) 0)] at h1
    lia
   ·exact SM (fun v hv=>hin (us:=[]) hv) hr
  split
  ·split
   ·exact SM (fun v hv=>hin (us:=[]) hv) h
   ·exact hr
  split
  ·exact hr
  ·exact hr
end Sw
namespace Sw
def stN:Nat→Std→Std
 | 0,s=>s
 | n+1,s=>nx (stN n s)
theorem tM (n:Nat) (s:Std):stN (n+1) s=stN n (nx s):=by
 induction n with
 | zero=>rfl
 | succ n ih=>show nx (stN (n+1) s)=nx (stN n (nx s)); rw [ih]
theorem aeS (m n:Nat) (s:Std):stN (m+n) s=stN n (stN m s):=by
 induction n with
 | zero=>rfl
 | succ n ih=>show nx (stN (m+n) s)=nx (stN n (stN m s)); rw [ih]
def pA (a:Nat) (st:Std):Prop:=(T.node st.1).deep≤a∧(T.node st.2).deep≤a
theorem pA.le {a b:Nat}{st:Std} (h:pA a st) (hab:a≤b):pA b st:=⟨Nat.le_trans h.1 hab,Nat.le_trans h.2 hab⟩
theorem aeH {a:Nat}{st:Std} (ha:1≤a) (h:pA a st):pA (a+2) (nx st):=by
 obtain⟨h1,h2⟩:=h
 have hb1:(T.node st.1).parts≤(T.node st.1).parts+(T.node st.2).parts:=by lia
 have hb2:(T.node st.2).parts≤(T.node st.1).parts+(T.node st.2).parts:=by lia
 have:=aep (tx:=st.1) (s:=st.2) ha ⟨h1,hb1⟩ ⟨h2,hb2⟩
 exact⟨this.1.1,this.2.1⟩
theorem aeI {a:Nat}{st:Std} (ha:1≤a) (h:pA a st):∀ n,pA (a+2 * n) (stN n st)
 | 0=>h
 | n+1=>aeH (a:=a+2 * n) (by lia) (aeI ha h n)
theorem ad0:(T.node fZ).parts+(T.node bU).parts≤4000:=by decide +kernel
theorem YM:(T.node fZ).deep≤90∧(T.node bU).deep≤90:=by decide +kernel
end Sw
namespace Sw
def agV (st:Std):Prop:=(T.node st.1).deep≤390∧(T.node st.2).deep≤390∧wt st≤7900000
end Sw
namespace Sw
theorem qK (k:Nat) (ts:List T):T.cj (ts.drop k)≤T.cj ts:=by
 have e:=T.iu (ts.take k) (ts.drop k)
 rw [List.take_append_drop] at e
 lia
theorem pX (ts:List T) (k:Nat) {a:Nat} (h:T.cj ts≤a):(ats ts k).deep≤a - 1:=by
 by_cases hk:k<ts.length
 ·have:=T.wW (acB hk)
  lia
 ·unfold ats leaf
  rw [List.getElem?_eq_none (by lia),Option.getD_none,T.aP,T.bV]
  lia
theorem SQ (s:List T) (n:Nat) {a:Nat} (ha:1≤a) (h:T.cj s≤a):T.cj (pad s n)≤a:=by
 unfold pad
 rw [T.iu]
 have:∀ k,T.cj (List.replicate k leaf)≤1:=fun k=>by
  induction k with
  | zero=>rw [List.replicate_zero,T.bV]; lia
  | succ k ih=>have hl:leaf.deep=0:=by { unfold leaf; rw [T.aP,T.bV] };rw [List.replicate_succ,T.aO]; lia
 have:=this (n - s.length)
 lia
theorem aed {a:Nat}{w:T}{s:List T} (ha:2≤a) (hw:w.deep+1≤a) (hs:T.cj s≤a):T.cj (behind w s)≤a+1:=by
 have hk:∀ t:T,T.cj t.kids=t.deep:=fun t=>(T.Gi t).symm
 have hl:(aZ w).deep≤w.deep:=by unfold aZ; rw [T.aP,T.Gi w]; exact qK 1 _
 unfold behind
 have p1:=SQ s 1 (by lia) hs
 have p2:=SQ s 2 (by lia) hs
 have p3:=SQ s 3 (by lia) hs
 split
 ·rw [T.aO]; lia
 split
 ·have:=SQ s (many (aH w)) (by lia) hs; lia
 split
 ·have:=qK 1 (pad s 1); lia
 split
 ·have:=qK 1 (pad s 1); have:=pX _ 0 p1; rw [T.aO,T.aO]; lia
 split
 ·have:=qK 2 (pad s 2); have:=pX _ 0 p2; have:=pX _ 1 p2; rw [T.aO,T.aO]; lia
 split
 ·have:=qK 2 (pad s 2)
  have:=pX _ 0 p2
  have:=pX _ 1 p2
  have:=hk (ats (pad s 2) 1)
  rw [T.aO,T.aP,T.aO]
  lia
 split
 ·have:=qK 1 (pad s 1)
  have h0:=pX _ 0 p1
  have:=hk (ats (pad s 1) 0)
  have h1:=pX (ats (pad s 1) 0).kids 0 (a:=a - 1) (by lia)
  have:=qK 1 (ats (pad s 1) 0).kids
  rw [T.aO,T.aO,T.aP]
  lia
 ·have:=qK 3 (pad s 3)
  have:=pX _ 0 p3
  have:=pX _ 1 p3
  have:=pX _ 2 p3
  rw [T.aO,T.aO,T.aO]
  lia
theorem ahB {a:Nat}{st:Std} (ha:4≤a) (h:pA a st):pA (a+1) (nx st):=by
 obtain⟨tx,s⟩:=st
 obtain⟨h1,h2⟩:=h
 have h1:(T.node tx).deep≤a:=h1
 have h2:(T.node s).deep≤a:=h2
 rw [T.aP] at h1 h2
 have goal:T.cj (onward tx s).1≤a+1∧T.cj (onward tx s).2.1≤a+1:=by
  match tx with
  | []=>exact⟨by show T.cj []≤_; rw [T.bV]; lia,by show T.cj s≤_; lia⟩
  | .node []::ts=>exact⟨by show T.cj ts≤_; rw [T.aO] at h1; lia,by show T.cj s≤_; lia⟩
  | .node (w::ws)::ts =>
   rw [T.aO,T.aP,T.aO] at h1
   have hb:T.cj (behind w s)≤a+1:=aed (by lia) (by lia) h2
   have hk:=T.Gi w
   have k1:=qK 1 w.kids
   have k2:=qK 2 w.kids
   have k3:=pX (w.kids.drop 1) 0 (a:=a) (by lia)
   have hr:T.cj (.node ws::ts)≤a:=by rw [T.aO,T.aP]; lia
   rw [fU]
   split
   ·split
    ·exact⟨by show T.cj (_::.node ws::ts)≤_; rw [T.aO]; lia,hb⟩
    ·exact⟨by show T.cj (_::.node ws::ts)≤_; rw [T.aO,T.aP]; lia,hb⟩
   split
   ·split
    ·refine⟨?_,hb⟩
     show T.cj (aZ w::.node (w::ws)::ts)≤_
     unfold aZ
     rw [T.aO,T.aP,T.aO,T.aP,T.aO]; lia
    ·exact⟨Nat.le_succ_of_le hr,hb⟩
   split
   ·exact⟨Nat.le_succ_of_le hr,hb⟩
   ·exact⟨Nat.le_succ_of_le hr,hb⟩
 exact⟨by show (T.node (onward tx s).1).deep≤_; rw [T.aP]; exact goal.1,by show (T.node (onward tx s).2.1).deep≤_; rw [T.aP]; exact goal.2⟩
def Way (D W:Nat) (st:Std) (n:Nat) (e:Std):Prop:=∃ c,Wlk st n c e∧n≤110∧pA (D+(110 - n)) st∧wt st+3 * c≤W
theorem Way.ok {D W n:Nat}{st e:Std} (h:Way D W st n e) (hD:D≤280) (hW:W≤7900000):agV st:=by
 obtain⟨c,_,_,hd,hw⟩:=h
 exact⟨by have:=hd.1; lia,by have:=hd.2; lia,by lia⟩
theorem Way.step {D W n:Nat}{st e:Std} (h:Way D W st (n+1) e) (hD:4≤D):st.1≠[]∧Fz st∧Way D W (nx st) n e:=by
 obtain⟨c,g,hn,hd,hw⟩:=h
 cases g with
 | @cons _ _ n2 c2 h1 h2 g =>
  have w2:=aiF h2
  have d:=ahB (by lia) hd
  exact⟨h1,h2,c2,g,by lia,d.le (by lia),by lia⟩
theorem Way.at {D W:Nat}{st e:Std} (h:Way D W st 0 e):st=e:=by
 obtain⟨c,g,_⟩:=h
 cases g
 rfl
end Sw
namespace PySem
open Builtin Builtin.Str
section
variable {prog:Program}{w:World}{A:Around}{E:Value→Shared→Prop}{s:Shared}{x:Str}{t:Tok}{Q:Value→Shared→Prop}
theorem ada (q:∀ (l:List (Str×Tok)) (k:Nat),l.map (·.1)=Txt.words x→Q (.ref s.heap.objs.size) { s with toks:=k,heap:=s.heap.push { cls:=.type "list",data:=.seq (strValues l).toArray } })
  (z1:x.length≤sizeLine) (z2:(spaceWords x (x.length+1)).length≤sizeLine):wpAny (model prog w) A (call (.builtin "str.split") [.str x t]) Q E s:=by
 refine call_meets F.slot_str_split (typeIs_str _ _ _) F.entry_str_split (F.args_str_split_1 _) (meets_str_split_space x t z1 z2) ?_
 cases hw:spaceWords x (x.length+1) == [(0,x.length)]
 ·simp only [Bool.false_eq_true,if_false]; rw [strsFrom_eq]
  exact q (numbered s.toks (wordsOf x)) _ ((numbered_texts _ _).trans (if_neg (ne_true_of_eq_false hw)).symm)
 ·simp only [if_true]; exact q [(x,t)] s.toks (if_pos hw).symm
end
section
variable {prog:Program}{w:World}{A:Around}{E:Value→Shared→Prop}{s:Shared}
theorem Zo:isSubtype (.type "range_iterator") (.type "reversed")=pure false:=by rw [isSubtype_type]; kernel_rfl
def t_:Obj:={ cls:=.type "range_iterator",data:=.fields #[rawInt 7,rawInt 8,rawInt (-1)] }
theorem aar (r:Addr) (t u v:Tok):Meets (Builtin.«range.__reversed__» ⟨[.ref r],[]⟩) (fun _ R s=>IsRange s.heap r 0 8 1 t u v∧R (.ok (.ret (.ref s.heap.objs.size))) { s with heap:=s.heap.push t_ }) :=
 .of_wp fun prog w A R s h=>by obtain⟨hp,g,d,tk,os⟩:=s; obtain⟨hl,h⟩:=h; wp_walk; exact⟨_,rfl,h⟩
theorem QJ {r:Addr}{t u v:Tok}{Q₁:Value→Shared→Prop} (hr:IsRange s.heap r 0 8 1 t u v) (h:Q₁ (.ref s.heap.objs.size) { s with heap:=s.heap.push t_ }) :
  codeAny (model prog w) A (.call (.builtin "reversed.__new__") ⟨[.type "reversed",.ref r],[]⟩) (wants Q₁ E) s:=by
 have hT:s.TypeIs (.ref r) "range":=⟨_,hr,rfl⟩
 refine codeAny_of_tree (show wpAny _ A.in1 (do checkBuiltinCall "reversed.__new__" ⟨[.type "reversed",.ref r],[]⟩; again (.builtin "reversed.__new__" ⟨[.type "reversed",.ref r],[]⟩)) _ _ s from ?_)
 refine wpAny_bind (wpAny_of_eq (F.newCall_reversed_1 _) (wpAny_pure ⟨plainId_quiet F.plain_reversed_new _,codeAny_builtin F.entry_reversed_new ?_⟩)); rw [Around.under_plainId F.plain_reversed_new _]; unfold Builtin.«reversed.__new__»
 refine wpAny_bind (wpAny_of_eq (newClass_reversed _) ?_); try dsimp only
 refine wpAny_bind (wpAny_of_eq (a:=()) (by first | rfl | kernel_rfl) ?_); refine wpAny_bind (wpAny_of_eq (a:=()) (by first | rfl | kernel_rfl) ?_); try dsimp only
 refine wpAny_bind (wpAny_specialOf hT F.slot_range_reversed.lookup ?_); try dsimp only
 refine wpAny_bind (wpAny_of_eq (F.slot_range_reversed.bind _) ?_); try dsimp only
 first
 | rw [if_neg (show ¬ ((Value.builtin "range.__reversed__" == Value.none)=true) from Bool.false_ne_true)]
 | (show wpAny _ _ (if (Value.builtin "range.__reversed__" == Value.none)=true then _ else _) _ _ _; rw [if_neg (show ¬ ((Value.builtin "range.__reversed__" == Value.none)=true) from Bool.false_ne_true)])
 refine wpAny_bind (wpAny_rule ?_); refine wpAny_bind (m:=runValue (.call (.builtin "range.__reversed__") ⟨[.ref r],[]⟩)) (show wpAny _ _ (call (.builtin "range.__reversed__") [.ref r]) _ _ _ from call_meets F.slot_range_reversed hT F.entry_range_reversed (F.args_range_reversed_1 _) (aar r t u v) ⟨hr,?_⟩)
 first
 | exact wpAny_pure h
 | exact wpAny_bind (wpAny_pure (wpAny_pure h))
theorem QK {r:Addr}{t u v:Tok}{Q:Value→Shared→Prop} (hr:IsRange s.heap r 0 8 1 t u v) (h:Q (.ref s.heap.objs.size) { s with heap:=s.heap.push t_ }) :
  wpAny (model prog w) A (call (.type "reversed") [.ref r]) Q E s:=by
 refine callType_other (U:="range_iterator") (Q₁:=fun obj s₁=>obj=.ref s.heap.objs.size∧s₁={ s with heap:=s.heap.push t_ }) (by decide +kernel) F.create_reversed ⟨_,_,F.mro_reversed⟩ F.made_reversed Zo (F.typeCall_reversed_1 _) (QJ hr ⟨rfl,rfl⟩) ?_
 rintro obj s₁ ⟨rfl,rfl⟩
 exact⟨⟨_,Heap.get?_push_size _ rfl,rfl⟩,h⟩
end
end PySem
namespace Sw
open PySem PySem.Spec PyProof.Rows L2 SwR
section
variable {X:Cx}
theorem Ye:∀ {l:List (Str×Tok)}{zs:List Str},l.map (·.1)=zs→Vals (zs.map V.str) (strValues l)
 | [],_,h=>by cases h; exact .nil
 | (z,t)::l,_,h=>by cases h; exact .cons ⟨t,rfl⟩ (Ye rfl)
def ae5:V→List V→Hp→VK→Prop:=fun x vs H Q=>∃ z:Str,x=.str z∧vs=[]∧z.length≤1000∧(Builtin.Str.spaceWords z (z.length+1)).length≤1000∧(Txt.words z).length≤1000 ∧
 ∀ D,H D=none→Q (.ref D) (upd H D (.lst ((Txt.words z).map V.str)))
theorem abY:MtM X "str.split" ae5:=by
 intro pins s σ H x vs v us Q I rx rv h
 obtain⟨z,rfl,rfl,hl,hw,hw2,q⟩:=h
 obtain⟨t,rfl⟩:=rx
 cases rv
 refine ada (fun ll k e=>?_) (Nat.le_trans hl (by decide)) (Nat.le_trans hw (by decide))
 have hn:H s.heap.objs.size=none:=I.hok.fresh (Nat.le_refl _)
 have I2:=I.lnew (ys:=(Txt.words z).map V.str) (its:=strValues ll) (t':=k) (Ye e) (by rw [List.length_map]; exact Nat.le_trans hw2 (by decide))
 exact⟨.ref s.heap.objs.size,_,I2,rfl,q _ hn⟩
def Itd:It:=⟨fun i _=>i<8,fun i H x H'=>H'=H∧x=.int (7 - i),fun i _=>8≤i⟩
theorem abb {P:Program}{w:World}{K:PySem.W.Frag}{tg:Expr} (it:Addr):Turn P w K tg Itd [it] it (fun i h=>IsRangeIter h it (7+(i:Nat) * (-1)) ((8:Nat) - (i:Nat)) (-1)) where
 mem:=by simp
 obj:=fun i h st b hb=>by
  have e:b=it:=by simpa using hb
  subst e
  exact⟨_,st,fun v z=>by have z':Data.fields _=Data.cell v:=z; cases z'⟩
 keep:=fun i h h' st k=>k it (by simp) _ st
 item:=by
  intro X hP hw hK hc i pins s σ H E I hf st hg
  subst hP hw hK
  obtain⟨f0,f1,f2,f3,f4,f5⟩:=hf it (by simp)
  have W:=Walks.range (prog:=X.prog) (w:=X.w) (I.ok.hd hc) it 7 (-1) 8
  refine W.item i s _ _ hg st fun v h' tk hv st' kk=>?_
  obtain⟨t,rfl⟩:=hv
  have I1:Inv X pins σ H { s with heap:=h',toks:=tk }:=I.turned (fun b o hb e=>kk b o (by simpa using hb) e) f0 f1 f3 f4 f5
  refine⟨_,rfl,go_of (s:={ s with heap:=h',toks:=tk }) (n:="range_iterator") st' rfl rfl (by decide) ⟨.int (7 - i),H,I1,⟨t,by rw [show (7:Int)+(i:Int) * -1=7 - i by lia]⟩,⟨rfl,rfl⟩,st',fun b hb=>(hf b hb).1⟩⟩
 done:=by
  intro X hP hw hK hc i pins s σ H E I hf st hg
  subst hP hw hK
  obtain⟨f0,f1,f2,f3,f4,f5⟩:=hf it (by simp)
  exact wpAny_pyNext_range_end (I.ok.hd hc) st (by have:8≤i:=hg; lia) fun h' eb=>⟨rfl,I.turned (t':=s.toks) (fun b o hb e=>eb b o hb e) f0 f1 f3 f4 f5⟩
 self:=fun _ _ _ _ _ st h=>wpAny_pyIter_rangeiter st h
def aeF (ta:TA):TI:=fun σ H R=>ta σ H fun vs H1=>vs=[.int 8]∧R Itd H1
theorem afk {tg a:Expr}{ta:TA}{p p2 pos pos2:Pos} (hg:Gl X "range") (hm:X.mg "range"=none) (hg2:Gl X "reversed") (hm2:X.mg "reversed"=none) (ha:PA X [a] ta) (hs:starEach [a] X.env=[(false,eval a X.env)]:=by rfl)
  (hs2:starEach [.Call (.Name "range" p) [a] [] pos] X.env=[(false,eval (.Call (.Name "range" p) [a] [] pos) X.env)]:=by rfl) :
  PI X tg (.Call (.Name "reversed" p2) [.Call (.Name "range" p) [a] [] pos] [] pos2) (aeF ta):=by
 intro pins s σ H R I h
 refine wpAny_Call_Name_kw (ld_blt I hg2 hm2 zP ?_)
 refine PyProof.Rows.callWith_type1 ?_ (by rw [hs2]; rfl) (by rfl)
 rw [hs2]
 refine Calls.spliced_cons ?_
 refine Call_ (ld_blt I hg hm boot_range (PyProof.Rows.callWith_type1 (thn (ha pos pins s σ H _ I h) fun us s1 ⟨vs,H1,I1,r1,q1⟩=>?_) hs rfl))
 obtain⟨rfl,q⟩:=q1
 cases r1 with
 | cons r rr =>
  cases rr
  obtain⟨t,rfl⟩:=r
  refine call_range_1 (Calls.spliced_nil ?_)
  generalize K5:({ s1 with heap:=s1.heap.push { cls:=.type "range",data:=.fields #[.int 0 s1.toks,.int 8 t,.int 1 (s1.toks+1)] },toks:=s1.toks+1+1 }:Shared)=s2
  have I2:Inv X pins σ H1 s2:=by rw [← K5]; exact I1.kept fun b o e=>Heap.get?_push_of_some _ e
  have hr:IsRange s2.heap s1.heap.objs.size 0 8 1 s1.toks t (s1.toks+1):=by rw [← K5]; exact Heap.get?_push_size _ rfl
  refine QK hr ?_
  have hit:IsRangeIter (s2.heap.push t_) s2.heap.objs.size 7 8 (-1):=Heap.get?_push_size _ rfl
  have I3:Inv X pins σ H1 { s2 with heap:=s2.heap.push t_ }:=I2.kept (t':=s2.toks) fun b o e=>Heap.get?_push_of_some _ e
  refine wpAny_pyIter_rangeiter (s:={ s2 with heap:=s2.heap.push t_ }) hit ?_
  refine⟨s2.heap.objs.size,[s2.heap.objs.size],_,Itd,H1,rfl,I3,abb _,hit,fun b hb=>?_,q⟩
  have e:b=s2.heap.objs.size:=by simpa using hb
  subst e
  exact I2.fpOk (Nat.le_refl _) (I2.hok.fresh (Nat.le_refl _))
theorem ae9 {tg a:Expr}{ta:TA}{p p2 pos pos2:Pos} (hg:Gl X "range") (hm:X.mg "range"=none) (hg2:Gl X "reversed") (hm2:X.mg "reversed"=none) (ha:QA X [a] ta) (hs:starEach [a] X.env=[(false,eval a X.env)]:=by rfl)
  (hs2:starEach [.Call (.Name "range" p) [a] [] pos] X.env=[(false,eval (.Call (.Name "range" p) [a] [] pos) X.env)]:=by rfl) :
  QI X tg (.Call (.Name "reversed" p2) [.Call (.Name "range" p) [a] [] pos] [] pos2) (aeF ta):=⟨afk hg hm hg2 hm2 ha.run hs hs2⟩
theorem ad8 {g:TG}{tb:TS}{D:Ends}{σ:Sg}{H:Hp} (Pv:Nat→Sg→Hp→Prop) (h0:Pv 0 σ H)
  (hs:∀ i σ H,i<8→Pv i σ H→g (.int (7 - i)) σ H fun σ2 H2=>tb { D with nx:=Pv (i+1),ct:=Pv (i+1),bk:=D.nx } σ2 H2) (hd:∀ σ H,Pv 8 σ H→D.nx σ H) :
  ∃ W:Nat→Nat→Sg→Hp→Prop,(∃ m,W 0 m σ H)∧∀ i m σ H,W i m σ H →
   (Itd.stop i H∧D.nx σ H)∨(Itd.go i H∧∃ N:Sg→Hp→Prop,(∀ σ' H',N σ' H'→∃ m',m'<m∧W (i+1) m' σ' H')∧∀ x H',Itd.yld i H x H'→g x σ H' fun σ2 H2=>tb { D with nx:=N,ct:=N,bk:=D.nx } σ2 H2):=by
 refine⟨fun i m σ H=>m=8 - i∧i≤8∧Pv i σ H,⟨8,rfl,Nat.zero_le _,h0⟩,?_⟩
 rintro i m σ H ⟨rfl,hi,p⟩
 by_cases hlt:i<8
 ·refine .inr ⟨hlt,Pv (i+1),fun σ' H' p'=>⟨8 - (i+1),by lia,rfl,hlt,p'⟩,fun x H' y=>?_⟩
  obtain⟨rfl,rfl⟩:=y
  exact hs i σ _ hlt p
 ·have e:i=8:=by lia
  subst e
  exact .inl ⟨Nat.le_refl _,hd σ H p⟩
def Yt (K:PySem.W.Frag):V→List V→Hp→VK→Prop:=fun x vs H Q=>∃ (a:Addr) (cs:List Str) (p:Str) (j:Nat),x=.ref a∧vs=[.str p]∧SqT K H a (cs.map V.str)∧cs[j]?=some p∧(∀ m,m<j→cs[m]?≠some p)∧Q (.int (j:Nat)) H
theorem abZ:MtM X "tuple.index" (Yt X.K):=by
 intro pins s σ H x vs v us Q I rx rv h
 obtain⟨a,cs,p,j,rfl,rfl,hq,hj,hn,q⟩:=h
 cases rx
 obtain⟨u,rfl,ru⟩:=rv.one
 obtain⟨its,r,ht,hz⟩:=I.tuple hq
 obtain⟨⟨cls,dd,data,sl⟩,ho,hc,n,hd⟩:=id ht
 simp only at hc hd
 subst hc hd
 have flat:∀ l:List Str,(l.map V.str).all Il=true:=fun l=>by
  rw [List.all_eq_true]; intro y hy
  obtain⟨c,_,rfl⟩:=List.mem_map.mp hy
  rfl
 have hlen:=r.length
 rw [List.length_map] at hlen
 have hjl:j<cs.length:=(List.getElem?_eq_some_iff.mp hj).1
 have at_:∀ m (hm:m<its.toArray.size),eqU (.str p) its.toArray[m]=decide (cs[m]?=some p):=fun m hm=>by
  have hm':m<cs.length:=by rw [List.size_toArray] at hm; lia
  obtain⟨u',e1,ru'⟩:=r.get (i:=m) (x:=.str cs[m]) (by rw [List.getElem?_map,List.getElem?_eq_getElem hm']; rfl)
  have e2:its.toArray[m]=u':=by
   have:=List.getElem?_eq_some_iff.mp e1
   simpa using this.2
  rw [e2,acf ru' rfl,List.getElem?_eq_getElem hm']
  show (cs[m] == p)=_
  by_cases z:cs[m]=p
  ·rw [decide_eq_true (congrArg some z),z]; exact beq_self_eq_true _
  ·rw [decide_eq_false (fun y=>z (Option.some.inj y))]; exact beq_eq_false_iff_ne.mpr z
 have hjs:j<its.toArray.size:=by rw [List.size_toArray]; lia
 refine call_meets F.slot_tuple_index ⟨_,ho,rfl⟩ F.entry_tuple_index (F.args_tuple_index_2 _ _)
  (WX a its.toArray n dd sl u (eqU (.str p)) j hjs (by rw [at_ j hjs,hj]; exact decide_eq_true rfl) (fun m hm hlt=>by rw [at_ m hm]; exact decide_eq_false (hn m hlt))) ⟨ho,fun y hy=>?_,?_⟩
 ·exact U4 ru rfl r (flat cs) y (by simpa using hy)
 ·exact⟨.int (j:Nat),H,I.tok _,⟨_,rfl⟩,q⟩
theorem agv {K:PySem.W.Frag}{e:Expr}{T:String}{r:V→List V→Hp→VK→Prop}{to:TE}{t:TA} (hK:X.K=K) (h:QE X e (tBM X.K T r to t)):QE X e (tBM K T r to t):=by subst hK; exact h
theorem Z2 {K:PySem.W.Frag} (hK:X.K=K):MtM X "tuple.index" (Yt K):=by subst hK; exact abZ
end
end Sw
namespace Sw
theorem YZ {tx s:List T}:uI (tx,s)=bC tx s:=by
 unfold bC stepT
 match tx with
 | []=>rfl
 | .node []::ts=>rfl
 | .node (w::ws)::ts =>
  have hc:uI (.node (w::ws)::ts,s)=if aH w=2 then (ats s 0).parts else 1:=rfl
  have hst:(onward (.node (w::ws)::ts) s).2.2=2↔aH w=2:=by
   rw [fU]
   by_cases h7:aH w=7
   ·rw [if_pos h7]; split <;> (constructor <;> intro z <;> (first | cases z | lia))
   rw [if_neg h7]
   by_cases h8:aH w=8
   ·rw [if_pos h8]; split <;> (constructor <;> intro z <;> (first | cases z | lia))
   rw [if_neg h8]
   by_cases h9:aH w=9
   ·rw [if_pos h9]; constructor <;> intro z <;> (first | cases z | lia)
   rw [if_neg h9]
  rw [hc]
  by_cases h2:aH w=2
  ·rw [if_pos h2,if_pos (hst.mpr h2)]
  ·rw [if_neg h2,if_neg (fun z=>h2 (hst.mp z))]
end Sw
namespace Sw
theorem YB {st:Std}{a:Nat} (hd:pA a st) (ha:a≤390) (hw:wt st≤7900000):BX st.1∧B 390 8000000 (.node st.2):=by
 obtain⟨h1,h2⟩:=hd
 have h3:T.aD st.1+T.aD st.2≤7900000:=hw
 exact⟨BX.of (a:=390) (b:=8000000) ⟨by lia,by rw [T.aM]; lia⟩ (by lia) (by lia),⟨by lia,by rw [T.aM]; lia⟩⟩
theorem afy {tx s:List T} (h:agV (tx,s)):BX tx∧B 390 8000000 (.node s):=by
 obtain⟨h1,h2,h3⟩:=h
 have h3:T.aD tx+T.aD s≤7900000:=h3
 exact⟨BX.of (a:=390) (b:=8000000) ⟨h1,by rw [T.aM]; lia⟩ (by lia) (by lia),⟨h2,by rw [T.aM]; lia⟩⟩
def Bs (t:List T):List T:=cI 0 []::W 4::t
def wj (t:List T):List T:=W 2::Bs (W 4::t)
def Hz:List T:=W 3::wj (W 3::W 4::(eU++(W 4::eU)))
def eE (f:List T):List T:=cI 0 f::Hz
def cB (f:List T):List T:=cI 0 (eE f)::eE f
theorem aa7 {t cs us x:List T}{n c:Nat}{e:Std} (g:Wlk (.node t::cs,cI 0 x::us) n c e):Wlk (.node (Bs t)::cs,.node x::us) (n+2) (c+2) e:=Mj (bZ g)
theorem aeR {t cs us x:List T}{n c:Nat}{e:Std} (g:Wlk (.node t::cs,.node (cI 0 x::x)::us) n c e):Wlk (.node (wj t)::cs,.node x::us) (n+4) (c+3+(T.node x).parts) e :=
 Te (aa7 (bZ g))
theorem aaC:T.aD Hz≤6000∧T.cj Hz≤90:=by decide +kernel
theorem body_parts (f:List T):(T.node (eE f)).parts=3+T.aD f+T.aD Hz:=by
 unfold eE cI nP
 rw [T.aM,T.aF,T.aM,T.aF,List.replicate_zero,T.aM,T.aR]
 lia
end Sw
namespace Sw
def evW (ω:Nat→Nat) (st:Std):Nat:=ω (stepT st.1 st.2)+(if stepT st.1 st.2=2 then (ats st.2 0).parts * ω 13 else 0)+(if stepT st.1 st.2=9 then (aZ (ats (ats st.1 0).kids 0)).parts * ω 14 else 0)
inductive Wo (ω:Nat→Nat):Std→Nat→Std→Prop where
 | nil {st:Std}:Wo ω st 0 st
 | cons {st e:Std}{τ:Nat}:st.1≠[]→Wo ω (nx st) τ e→Wo ω st (τ+evW ω st) e
theorem Wo.to {ω:Nat→Nat}{st e:Std}{τ τ':Nat} (h:Wo ω st τ e) (e1:τ=τ'):Wo ω st τ' e:=by subst e1; exact h
theorem Wo.one {ω:Nat→Nat}{st e u:Std}{τ k:Nat} (h1:st.1≠[]) (h3:nx st=u) (h4:evW ω st=k) (g:Wo ω u τ e):Wo ω st (τ+k) e:=by
 subst h3; subst h4; exact .cons h1 g
theorem b_ {w:T}{ws ts s:List T}:stepT (.node (w::ws)::ts) s=if aH w=7 then (if (ats s 0).kids≠[] then 7 else 8) else if aH w=8 then (if (ats s 0).kids≠[] then 9 else 10) else if aH w=9 then 11 else aH w:=by
 unfold stepT
 rw [fU]
 by_cases h7:aH w=7
 ·rw [if_pos h7,if_pos h7]; split <;> rfl
 rw [if_neg h7,if_neg h7]
 by_cases h8:aH w=8
 ·rw [if_pos h8,if_pos h8]; split <;> rfl
 rw [if_neg h8,if_neg h8]
 split <;> rfl
theorem cH {ω:Nat→Nat}{w:T}{ws ts s:List T}{k:Nat} (h:stepT (.node (w::ws)::ts) s=k):evW ω (.node (w::ws)::ts,s)=ω k+(if k=2 then (ats s 0).parts * ω 13 else 0)+(if k=9 then (aZ w).parts * ω 14 else 0):=by
 subst h; rfl
section
variable {ω:Nat→Nat}{t cs s:List T}{e:Std}{τ:Nat}
theorem BW {us:List T} (g:Wo ω (.node t::cs,.node us::s) τ e):Wo ω (.node (cI 0 us::t)::cs,s) (τ+ω 0) e :=
 .one (by simp) (by rw [gw (by show 0≤6; decide),QL rfl]; rfl) ((cH (k:=0) (by rw [b_]; rfl)).trans rfl) g
theorem lA {a:T} (g:Wo ω (.node t::cs,s) τ e):Wo ω (.node (W 1::t)::cs,a::s) (τ+ω 1) e :=
 .one (by simp) (by rw [gw (by decide),aaI rfl,cT (by simp)]; rfl) ((cH (k:=1) (by rw [b_]; rfl)).trans rfl) g
theorem UL {a:T} (g:Wo ω (.node t::cs,a::a::s) τ e):Wo ω (.node (W 2::t)::cs,a::s) (τ+(ω 2+a.parts * ω 13)) e :=
 .one (by simp) (by rw [gw (by decide),aaH rfl,cT (by simp)]; rfl) ((cH (k:=2) (by rw [b_]; rfl)).trans rfl) g
theorem cU {a b:T} (g:Wo ω (.node t::cs,b::a::s) τ e):Wo ω (.node (W 3::t)::cs,a::b::s) (τ+ω 3) e :=
 .one (by simp) (by rw [gw (by decide),aaG rfl,cT (by simp)]; rfl) ((cH (k:=3) (by rw [b_]; rfl)).trans rfl) g
theorem bW {a:T}{b:List T} (g:Wo ω (.node t::cs,.node (a::b)::s) τ e):Wo ω (.node (W 4::t)::cs,a::.node b::s) (τ+ω 4) e :=
 .one (by simp) (by rw [gw (by decide),aaF rfl,cT (by simp)]; rfl) ((cH (k:=4) (by rw [b_]; rfl)).trans rfl) g
theorem jU {a:List T} (g:Wo ω (.node t::cs,ats a 0::.node (a.drop 1)::s) τ e):Wo ω (.node (W 5::t)::cs,.node a::s) (τ+ω 5) e :=
 .one (by simp) (by rw [gw (by decide),aaE rfl,cT (by simp)]; rfl) ((cH (k:=5) (by rw [b_]; rfl)).trans rfl) g
theorem fH {a:T}{b:List T} (g:Wo ω (.node t::cs,a::.node b::s) τ e):Wo ω (.node (W 5::t)::cs,.node (a::b)::s) (τ+ω 5) e:=jU g
theorem dj {a b d:T} (g:Wo ω (.node t::cs,d::a::b::s) τ e):Wo ω (.node (W 6::t)::cs,a::b::d::s) (τ+ω 6) e :=
 .one (by simp) (by rw [gw (by decide),aaD rfl,cT (by simp)]; rfl) ((cH (k:=6) (by rw [b_]; rfl)).trans rfl) g
theorem cR (g:Wo ω (cs,s) τ e):Wo ω (.node []::cs,s) (τ+ω 12) e :=
 .one (by simp) rfl rfl g
theorem yJ {yes no:List T}{a:T} (ha:a.kids≠[]) (g:Wo ω (.node yes::.node t::cs,a::s) τ e):Wo ω (.node (mL yes no::t)::cs,a::s) (τ+ω 7) e :=
 .one (by simp) (by
  unfold nx onward
  simp only [ats,T.kids,List.getElem?_cons_zero,Option.getD_some,List.drop_succ_cons,List.drop_zero]
  rw [if_pos (by rfl),if_pos (by exact ha),pF (by show 6<7; decide),cT (by show 1≤_; simp)]; rfl) ((cH (k:=7) (by rw [b_,if_pos (by rfl),if_pos (by exact ha)])).trans rfl) g
theorem yX {yes no:List T}{a:T} (ha:a.kids=[]) (g:Wo ω (.node no::.node t::cs,a::s) τ e):Wo ω (.node (mL yes no::t)::cs,a::s) (τ+ω 8) e :=
 .one (by simp) (by
  unfold nx onward
  simp only [ats,T.kids,List.getElem?_cons_zero,Option.getD_some,List.drop_succ_cons,List.drop_zero]
  rw [if_pos (by rfl),if_neg (by exact fun z=>z ha),pF (by show 6<7; decide),cT (by show 1≤_; simp)]; rfl) ((cH (k:=8) (by rw [b_,if_pos (by rfl),if_neg (by exact fun z=>z ha)])).trans rfl) g
theorem Ia {as:List T} (g:Wo ω (.node t::cs,s) τ e):∀ {k:Nat},as.length=k→Wo ω (.node (Es k t)::cs,as++s) (τ+k * ω 1) e:=by
 intro k hk
 induction as generalizing k with
 | nil=>cases hk; exact g.to (by simp)
 | cons a as ih=>cases hk; exact (lA (ih rfl)).to (by rw [List.length_cons,Nat.succ_mul]; lia)
theorem agX {us:List T}{l:T}{w:T}{ts st:List T} (g:Wo ω (.node t::cs,.node (w::ts)::.node (l::st)::us) τ e):Wo ω (.node (Zk t)::cs,l::w::.node ts::.node st::us) (τ+(4 * ω 6+2 * ω 4+ω 3)) e :=
 (dj (dj (bW (dj (dj (bW (cU g))))))).to (by lia)
theorem adN {us:List T}{l w:T}{ts st:List T} (g:Wo ω (.node t::cs,ats st 0::.node (st.drop 1)::.node (w::ts)::us) τ e):Wo ω (.node (Ol t)::cs,l::w::.node ts::.node st::us) (τ+(ω 1+ω 4+ω 3+ω 5)) e :=
 (lA (bW (cU (jU g)))).to (by lia)
theorem Sx {us:List T}{l w:T}{ts st:List T} (g:Wo ω (.node t::cs,ats st 0::.node (st.drop 1)::.node (w::ts)::l::us) τ e):Wo ω (.node (Oj t)::cs,l::w::.node ts::.node st::us) (τ+(3 * ω 6+ω 4+ω 5)) e :=
 (dj (dj (bW (dj (jU g))))).to (by lia)
def wkW (ω:Nat→Nat) (p:Nat):Nat→Nat
 | 1=>ω 1
 | 2=>ω 2+p * ω 13+ω 6+2 * ω 3+2 * ω 4
 | 3=>3 * ω 3+ω 5+ω 6+2 * ω 4
 | 4=>ω 3+ω 5+ω 6+2 * ω 4
 | 5=>ω 5+2 * ω 6+2 * ω 4+ω 3
 | 6=>4 * ω 3+2 * ω 5+2 * ω 6+3 * ω 4
 | _=>0
theorem adM {us:List T}{x:T}{st:List T}:∀ {k:Nat},1≤k→k≤6→Wo ω (.node t::cs,.node (lG k st)::x::us) τ e →
  Wo ω (.node (Oi k++t)::cs,ats st 0::.node (st.drop 1)::x::us) (τ+wkW ω (ats st 0).parts k) e:=by
 intro k h1 h6 g
 rcases (by lia:k=1∨k=2∨k=3∨k=4∨k=5∨k=6) with rfl | rfl | rfl | rfl | rfl | rfl
 ·exact lA g
 ·exact (UL (dj (cU (bW (cU (bW g)))))).to (by show _=τ+(ω 2+(ats st 0).parts * ω 13+ω 6+2 * ω 3+2 * ω 4); lia)
 ·exact (cU (jU (cU (dj (bW (cU (bW (by rw [List.drop_drop]; exact g)))))))).to (by show _=τ+(3 * ω 3+ω 5+ω 6+2 * ω 4); lia)
 ·refine (cU (jU (dj (τ:=τ+ω 4+ω 4) ?_))).to (by show _=τ+(ω 3+ω 5+ω 6+2 * ω 4); lia)
  rw [show ats (st.drop 1) 0=.node (ats (st.drop 1) 0).kids from (h_ _).symm]
  exact bW (bW (by rw [List.drop_drop]; exact g))
 ·rw [show ats st 0=.node (ats st 0).kids from (h_ _).symm]
  exact (jU (dj (dj (bW (cU (bW g)))))).to (by show _=τ+(ω 5+2 * ω 6+2 * ω 4+ω 3); lia)
 ·exact (cU (jU (cU (jU (cU (dj (bW (dj (bW (cU (bW (by rw [List.drop_drop,List.drop_drop]; exact g)))))))))))).to (by show _=τ+(4 * ω 3+2 * ω 5+2 * ω 6+3 * ω 4); lia)
theorem vU (k:Nat) (g:Wo ω (cs,s) τ e):Wo ω (List.replicate k (.node [])++cs,s) (τ+k * ω 12) e:=by
 induction k with
 | zero=>exact g.to (by simp)
 | succ k ih=>exact (cR ih).to (by rw [Nat.succ_mul]; lia)
theorem Av {fs:List T}{d:Nat}:∀ {as cs s:List T},Wo ω (.node (cu d)::(List.replicate as.length (.node [])++cs),.node fs::(as.reverse++s)) τ e →
  Wo ω (.node (cu (as.length+d))::cs,.node (as++fs)::s) (τ+as.length * (ω 7+ω 5+ω 3)) e:=by
 intro as
 induction as with
 | nil=>intro cs s g; rw [List.length_nil,Nat.zero_add,Nat.zero_mul]; exact g
 | cons a as ih =>
  intro cs s g
  have g':Wo ω (.node (cu d)::(List.replicate as.length (.node [])++.node []::cs),.node fs::(as.reverse++a::s)) τ e:=by
   rw [Ys]
   rw [List.reverse_cons,List.append_assoc] at g
   exact g
  rw [List.length_cons,show as.length+1+d=as.length+d+1 by lia]
  exact (yJ (yes:=W 5::W 3::cu (as.length+d)) (a:=.node (a::(as++fs))) (by simp [T.kids]) (fH (cU (ih g')))).to (by rw [Nat.succ_mul]; lia)
theorem abU:∀ {as fs s:List T},Wo ω (.node t::cs,.node (as.reverse++fs)::s) τ e→Wo ω (.node (HB as.length t)::cs,.node fs::(as++s)) (τ+as.length * (ω 3+ω 4)) e:=by
 intro as
 induction as with
 | nil=>intro fs s g; exact g.to (by simp)
 | cons a as ih =>
  intro fs s g
  rw [List.reverse_cons,List.append_assoc] at g
  exact (cU (bW (ih g))).to (by rw [List.length_cons,Nat.succ_mul]; lia)
def HN (ω:Nat→Nat) (k p b:Nat) (full:Bool):Nat :=
 if k=0 then ω 8+ω 1+(4 * ω 6+2 * ω 4+ω 3)+2 * ω 12
 else if k≤6 then k * (ω 7+ω 5+ω 3)+ω 8+(k+1) * ω 1+(ω 1+ω 4+ω 3+ω 5)+wkW ω p k+ω 3+k * ω 12+2 * ω 12
 else if k=7 then 7 * (ω 7+ω 5+ω 3)+ω 8+8 * ω 1+(3 * ω 6+ω 4+ω 5)+(if full then ω 7+(2 * ω 4+2 * ω 3+ω 6+ω 5+ω 1) else ω 8+(2 * ω 4+ω 3+ω 6+ω 5+ω 1))+10 * ω 12
 else if k=8 then 8 * (ω 7+ω 5+ω 3)+ω 8+8 * (ω 3+ω 4)+ω 4+(3 * ω 6+ω 4+ω 5)+(if full then ω 7+(5 * ω 4+3 * ω 3+4 * ω 6+2 * ω 5+ω 2+b * ω 13) else ω 8+(ω 4+ω 6+ω 1+ω 3))+11 * ω 12
 else 8 * (ω 7+ω 5+ω 3)+ω 7+10 * ω 1+ω 4+10 * ω 12
theorem Nb {us as l xs ts st:List T} (g:Wo ω (cs,.node (resT as l xs ts st).1::.node (resT as l xs ts st).2::us) τ e) :
  Wo ω (.node (cu 8)::cs,.node as::.node l::.node xs::.node ts::.node st::us) (τ+HN ω as.length (ats st 0).parts (T.node l).parts (decide ((ats st 0).kids≠[]))) e:=by
 unfold HN
 by_cases h0:as.length=0
 ·have:as=[]:=List.length_eq_zero_iff.mp h0
  subst this
  rw [if_pos h0]
  have g:Wo ω (cs,.node (.node xs::ts)::.node (.node l::st)::us) τ e:=g
  exact (yX rfl (lA (agX (cR (cR g))))).to (by lia)
 rw [resT,if_neg h0] at g
 rw [if_neg h0]
 by_cases h6:as.length≤6
 ·rw [if_pos h6] at g ⊢
  have g1:=cR (cR (vU as.length g))
  have g2:=adM (k:=as.length) (by lia) h6 (cU g1)
  have g3:=Ia (as:=.node []::as.reverse) (adN (l:=.node l) g2) (k:=as.length+1) (by rw [List.length_cons,List.length_reverse])
  have e8:cu 8=cu (as.length+(8 - as.length)):=by rw [show as.length+(8 - as.length)=8 by lia]
  rw [e8,show T.node as=T.node (as++[]) by rw [List.append_nil]]
  refine (Av (τ:=(τ+as.length * ω 12+ω 12+ω 12+ω 3+wkW ω (ats st 0).parts as.length+(ω 1+ω 4+ω 3+ω 5)+(as.length+1) * ω 1)+ω 8) ?_).to (by lia)
  have e9:cu (8 - as.length)=[mL (W 5::W 3::cu (7 - as.length)) (nZ as.length)]:=by
   rw [show 8 - as.length=(7 - as.length)+1 by lia,cu,show 7 - (7 - as.length)=as.length by lia]
  rw [e9]
  refine yX rfl ?_
  rw [nZ,if_neg h0,if_neg (by lia)]
  exact g3
 rw [if_neg h6] at g ⊢
 by_cases h7:as.length=7
 ·rw [if_pos h7] at g ⊢
  have e8:cu 8=cu (as.length+1):=by rw [h7]
  have e9:cu 1=[mL (W 5::W 3::cu 0) (nZ 7)]:=rfl
  by_cases ht:(ats st 0).kids≠[]
  ·rw [if_pos ht] at g
   rw [if_pos (decide_eq_true ht)]
   have g1:=cR (cR (cR (vU as.length g)))
   rw [e8,show T.node as=T.node (as++[]) by rw [List.append_nil]]
   refine (Av (τ:=(τ+as.length * ω 12+ω 12+ω 12+ω 12+(2 * ω 4+2 * ω 3+ω 6+ω 5+ω 1)+ω 7+(3 * ω 6+ω 4+ω 5)+(7+1) * ω 1)+ω 8) ?_).to (by rw [h7]; lia)
   rw [e9]
   refine yX rfl ?_
   rw [nZ,if_neg (by decide),if_pos rfl]
   exact (Ia (as:=.node []::as.reverse) (Sx (yJ ht (bW (cU (dj (jU (cU (lA (bW g1))))))))) (k:=7+1) (by rw [List.length_cons,List.length_reverse,h7])).to (by lia)
  ·rw [if_neg ht] at g
   rw [if_neg (by rw [decide_eq_true_eq]; exact ht)]
   have g1:=cR (cR (cR (vU as.length g)))
   rw [e8,show T.node as=T.node (as++[]) by rw [List.append_nil]]
   refine (Av (τ:=(τ+as.length * ω 12+ω 12+ω 12+ω 12+(2 * ω 4+ω 3+ω 6+ω 5+ω 1)+ω 8+(3 * ω 6+ω 4+ω 5)+(7+1) * ω 1)+ω 8) ?_).to (by rw [h7]; lia)
   rw [e9]
   refine yX rfl ?_
   rw [nZ,if_neg (by decide),if_pos rfl]
   exact (Ia (as:=.node []::as.reverse) (Sx (yX (Classical.not_not.mp ht) (bW (cU (dj (jU (lA (bW g1)))))))) (k:=7+1) (by rw [List.length_cons,List.length_reverse,h7])).to (by lia)
 rw [if_neg h7] at g ⊢
 by_cases h8:as.length=8
 ·rw [if_pos h8] at g ⊢
  have e8:cu 8=cu (as.length+0):=by rw [h8]
  have eb:uO=HB as.reverse.length (W 4::Oj [mL Zm Zj]):=by rw [List.length_reverse,h8]; rfl
  by_cases ht:(ats st 0).kids≠[]
  ·rw [if_pos ht] at g
   rw [if_pos (decide_eq_true ht)]
   have g1:=cR (cR (cR (vU as.length g)))
   rw [e8,show T.node as=T.node (as++[]) by rw [List.append_nil]]
   refine (Av (τ:=(τ+as.length * ω 12+ω 12+ω 12+ω 12+(5 * ω 4+3 * ω 3+4 * ω 6+2 * ω 5+ω 2+(T.node l).parts * ω 13)+ω 7+(3 * ω 6+ω 4+ω 5)+ω 4+as.length * (ω 3+ω 4))+ω 8) ?_).to (by rw [h8]; lia)
   refine yX rfl ?_
   rw [eb]
   refine (abU (τ:=τ+as.length * ω 12+ω 12+ω 12+ω 12+(5 * ω 4+3 * ω 3+4 * ω 6+2 * ω 5+ω 2+(T.node l).parts * ω 13)+ω 7+(3 * ω 6+ω 4+ω 5)+ω 4) ?_).to (by rw [List.length_reverse])
   rw [List.reverse_reverse,List.append_nil]
   exact (bW (Sx (yJ ht (bW (cU (dj (fH (cU (UL (dj (bW (dj (fH (dj (bW (bW (cU (bW g1)))))))))))))))))).to (by lia)
  ·rw [if_neg ht] at g
   rw [if_neg (by rw [decide_eq_true_eq]; exact ht)]
   have g1:=cR (cR (cR (vU as.length g)))
   rw [e8,show T.node as=T.node (as++[]) by rw [List.append_nil]]
   refine (Av (τ:=(τ+as.length * ω 12+ω 12+ω 12+ω 12+(ω 4+ω 6+ω 1+ω 3)+ω 8+(3 * ω 6+ω 4+ω 5)+ω 4+as.length * (ω 3+ω 4))+ω 8) ?_).to (by rw [h8]; lia)
   refine yX rfl ?_
   rw [eb]
   refine (abU (τ:=τ+as.length * ω 12+ω 12+ω 12+ω 12+(ω 4+ω 6+ω 1+ω 3)+ω 8+(3 * ω 6+ω 4+ω 5)+ω 4) ?_).to (by rw [List.length_reverse])
   rw [List.reverse_reverse,List.append_nil]
   exact (bW (Sx (yX (Classical.not_not.mp ht) (bW (dj (lA (cU g1))))))).to (by lia)
 ·rw [if_neg h8] at g ⊢
  have hl:(as.take 8).length=8:=by rw [List.length_take]; lia
  have g1:=cR (cR (vU 8 g))
  have e8:cu 8=cu ((as.take 8).length+0):=by rw [hl]
  rw [e8,show T.node as=T.node (as.take 8++as.drop 8) by rw [List.take_append_drop]]
  refine (Av (τ:=(τ+8 * ω 12+ω 12+ω 12+ω 4+10 * ω 1)+ω 7) ?_).to (by rw [hl]; lia)
  rw [hl]
  refine yJ ?_ ?_
  ·show as.drop 8≠[]
   intro z
   have:=congrArg List.length z
   rw [List.length_drop,List.length_nil] at this
   lia
  ·have:=Ia (as:=.node (as.drop 8)::((as.take 8).reverse++[.node l])) (bW g1) (k:=10) (by rw [List.length_cons,List.length_append,List.length_reverse,hl]; rfl)
   rw [List.cons_append,List.append_assoc] at this
   exact this
def aV (ω:Nat→Nat):Nat→Nat
 | 0=>ω 1+ω 3+2 * ω 4+3 * ω 5+4 * ω 6+ω 7+ω 8+ω 9+3 * ω 12+1169 * ω 14
 | 1=>4 * ω 1+3 * ω 3+ω 4+5 * ω 5+2 * ω 7+ω 8+ω 9+4 * ω 12+1169 * ω 14
 | 2=>4 * ω 1+ω 2+6 * ω 3+3 * ω 4+6 * ω 5+ω 6+3 * ω 7+ω 8+ω 9+5 * ω 12+1169 * ω 14
 | 3=>5 * ω 1+8 * ω 3+3 * ω 4+8 * ω 5+ω 6+4 * ω 7+ω 8+ω 9+6 * ω 12+1169 * ω 14
 | 4=>6 * ω 1+7 * ω 3+3 * ω 4+9 * ω 5+ω 6+5 * ω 7+ω 8+ω 9+7 * ω 12+1169 * ω 14
 | 5=>7 * ω 1+8 * ω 3+3 * ω 4+10 * ω 5+2 * ω 6+6 * ω 7+ω 8+ω 9+8 * ω 12+1169 * ω 14
 | 6=>8 * ω 1+12 * ω 3+4 * ω 4+12 * ω 5+2 * ω 6+7 * ω 7+ω 8+ω 9+9 * ω 12+1169 * ω 14
 | 7=>9 * ω 1+9 * ω 3+3 * ω 4+12 * ω 5+4 * ω 6+9 * ω 7+ω 8+ω 9+11 * ω 12+1169 * ω 14
 | 8=>9 * ω 1+8 * ω 3+3 * ω 4+12 * ω 5+4 * ω 6+8 * ω 7+2 * ω 8+ω 9+11 * ω 12+1169 * ω 14
 | 9=>ω 2+19 * ω 3+15 * ω 4+14 * ω 5+7 * ω 6+10 * ω 7+ω 8+ω 9+12 * ω 12+1169 * ω 14
 | 10=>ω 1+17 * ω 3+11 * ω 4+12 * ω 5+4 * ω 6+9 * ω 7+2 * ω 8+ω 9+12 * ω 12+1169 * ω 14
 | 11=>10 * ω 1+8 * ω 3+ω 4+11 * ω 5+10 * ω 7+ω 9+11 * ω 12+1169 * ω 14
 | 12=>ω 1+ω 5+ω 8+ω 9+2 * ω 12+1169 * ω 14
 | 13=>ω 13
 | 14=>ω 13
 | _=>0
theorem Bt:(T.node fZ).parts=1169:=by decide +kernel
theorem aam {tx s:List T} (h:tx≠[]):evW ω (.node bU::cs,.node tx::s)=ω 9+1169 * ω 14:=by
 rw [show bU=cI 8 fZ::[W 1,W 5,W 3,W 1] from rfl,cH (k:=9) (by rw [b_,if_neg (by show 8≠7; decide),if_pos (by rfl),if_pos (by exact h)]),if_neg (by decide),if_pos rfl,show aZ (cI 8 fZ)=.node fZ from rfl,Bt]
 lia
theorem afP {s:List T}:evW ω (.node bU::cs,.node []::s)=ω 10:=by
 rw [show bU=cI 8 fZ::[W 1,W 5,W 3,W 1] from rfl,cH (k:=10) (by rw [b_,if_neg (by show 8≠7; decide),if_pos (by rfl),if_neg (by exact fun z=>z rfl)])]
 rfl
theorem YS {as l xs ts st:List T}:evW (aV ω) (.node (.node (.node as::l)::xs)::ts,st)=3 * ω 5+ω 7+HN ω as.length (ats st 0).parts (T.node l).parts (decide ((ats st 0).kids≠[]))+ω 12+ω 9+1169 * ω 14:=by
 have hs:aH (.node (.node as::l))=min 9 as.length:=rfl
 have hld:aZ (.node (.node as::l))=.node l:=rfl
 unfold HN
 by_cases h0:as.length=0
 ·rw [if_pos h0,cH (k:=0) (by rw [b_,hs,if_neg (by lia),if_neg (by lia),if_neg (by lia)]; lia)]
  show aV ω 0+0+0=_
  simp only [aV]; lia
 rw [if_neg h0]
 by_cases h6:as.length≤6
 ·rw [if_pos h6]
  rcases (by lia:as.length=1∨as.length=2∨as.length=3∨as.length=4∨as.length=5∨as.length=6) with hk | hk | hk | hk | hk | hk
  ·rw [hk,cH (k:=1) (by rw [b_,hs,if_neg (by lia),if_neg (by lia),if_neg (by lia)]; lia)]
   show aV ω 1+0+0=_
   simp only [aV,wkW]; lia
  ·rw [hk,cH (k:=2) (by rw [b_,hs,if_neg (by lia),if_neg (by lia),if_neg (by lia)]; lia)]
   show aV ω 2+(ats st 0).parts * aV ω 13+0=_
   rw [show aV ω 13=ω 13 from rfl]
   simp only [aV,wkW]; lia
  ·rw [hk,cH (k:=3) (by rw [b_,hs,if_neg (by lia),if_neg (by lia),if_neg (by lia)]; lia)]
   show aV ω 3+0+0=_
   simp only [aV,wkW]; lia
  ·rw [hk,cH (k:=4) (by rw [b_,hs,if_neg (by lia),if_neg (by lia),if_neg (by lia)]; lia)]
   show aV ω 4+0+0=_
   simp only [aV,wkW]; lia
  ·rw [hk,cH (k:=5) (by rw [b_,hs,if_neg (by lia),if_neg (by lia),if_neg (by lia)]; lia)]
   show aV ω 5+0+0=_
   simp only [aV,wkW]; lia
  ·rw [hk,cH (k:=6) (by rw [b_,hs,if_neg (by lia),if_neg (by lia),if_neg (by lia)]; lia)]
   show aV ω 6+0+0=_
   simp only [aV,wkW]; lia
 rw [if_neg h6]
 by_cases h7:as.length=7
 ·rw [if_pos h7]
  by_cases ht:(ats st 0).kids≠[]
  ·rw [if_pos (decide_eq_true ht),cH (k:=7) (by rw [b_,hs,if_pos (by lia),if_pos ht])]
   show aV ω 7+0+0=_
   simp only [aV]; lia
  ·rw [if_neg (by rw [decide_eq_true_eq]; exact ht),cH (k:=8) (by rw [b_,hs,if_pos (by lia),if_neg ht])]
   show aV ω 8+0+0=_
   simp only [aV]; lia
 rw [if_neg h7]
 by_cases h8:as.length=8
 ·rw [if_pos h8]
  by_cases ht:(ats st 0).kids≠[]
  ·rw [if_pos (decide_eq_true ht),cH (k:=9) (by rw [b_,hs,if_neg (by lia),if_pos (by lia),if_pos ht]),hld]
   show aV ω 9+0+(T.node l).parts * aV ω 14=_
   rw [show aV ω 14=ω 13 from rfl]
   simp only [aV]; lia
  ·rw [if_neg (by rw [decide_eq_true_eq]; exact ht),cH (k:=10) (by rw [b_,hs,if_neg (by lia),if_pos (by lia),if_neg ht])]
   show aV ω 10+0+0=_
   simp only [aV]; lia
 ·rw [if_neg h8,cH (k:=11) (by rw [b_,hs,if_neg (by lia),if_neg (by lia),if_pos (by lia)])]
  show aV ω 11+0+0=_
  simp only [aV]; lia
theorem o_head {us tx st:List T} (h:tx≠[]) (g:Wo ω (.node bU::cs,.node (onward tx st).1::.node (onward tx st).2.1::us) τ e) :
  Wo ω (.node bU::cs,.node tx::.node st::us) (τ+evW (aV ω) (tx,st)) e:=by
 match tx,h with
 | .node []::ts,h =>
  refine (Wo.one (by simp) (aaj h) (aam h) (fH (yX rfl (lA (cR (cR g)))))).to ?_
  rw [show evW (aV ω) (.node []::ts,st)=aV ω 12 from rfl]
  simp only [aV]; lia
 | .node (.node []::xs)::ts,h =>
  have hr:=res_none (s:=st) (xs:=xs) (ts:=ts)
  have g2:Wo ω (.node bU::cs,.node (resT [] [] xs ts st).1::.node (resT [] [] xs ts st).2::us) τ e:=by rw [← hr]; exact g
  have g3:=Nb (as:=[]) (l:=[]) (xs:=xs) (ts:=ts) (st:=st) (us:=us) (cR g2)
  refine (Wo.one (by simp) (aaj h) (aam h) (fH (yJ (by simp [T.kids]) (fH (jU g3))))).to ?_
  rw [cH (k:=0) (by rw [b_]; rfl)]
  show _=τ+(aV ω 0+0+0)
  unfold HN
  rw [if_pos (by rfl)]
  simp only [aV]
  lia
 | .node (.node (.node as::l)::xs)::ts,h =>
  have hr:=Ud (s:=st) (as:=as) (l:=l) (xs:=xs) (ts:=ts)
  have g2:Wo ω (.node bU::cs,.node (resT as l xs ts st).1::.node (resT as l xs ts st).2::us) τ e:=by rw [← hr]; exact g
  have g3:=Nb (as:=as) (l:=l) (xs:=xs) (ts:=ts) (st:=st) (us:=us) (cR g2)
  refine (Wo.one (by simp) (aaj h) (aam h) (fH (yJ (by simp [T.kids]) (fH (fH g3))))).to ?_
  rw [YS]
  lia
theorem afB {st e:Std} (h:Wo (aV ω) st τ e):∀ {us cs:List T},e.1=[]→Wo ω (.node bU::cs,.node st.1::.node st.2::us) (τ+(ω 10+2 * ω 1+ω 5+ω 3+ω 12)) (cs,ats e.2 0::us):=by
 induction h with
 | @nil st =>
  intro us cs he
  rw [he]
  exact (Wo.one (by simp) afM afP (lA (jU (cU (lA (cR .nil)))))).to (by lia)
 | @cons st e τ h1 _ ih =>
  intro us cs he
  exact (o_head h1 (ih he)).to (by show _=τ+evW (aV ω) (st.1,st.2)+_; lia)
def lM (ω:Nat→Nat):Nat:=2 * ω 0+2 * ω 1+ω 3+2 * ω 4+2 * ω 5+2 * ω 6+ω 10+ω 12
theorem agW {x:T}{its us cs s:List T} (h:Wo (aV ω) ([x],[.node its]) τ ([],s)):Wo ω (.node eU::cs,.node (x::its)::us) (τ+lM ω) (cs,ats s 0::us):=by
 have g:=afB (us:=us) (cs:=cs) h rfl
 exact (fH (BW (dj (bW (BW (dj (bW g))))))).to (by unfold lM; lia)
end
def aY (ω:Nat→Nat):Nat→List Nat→Nat
 | _,[]=>0
 | i,n::ns=>n * ω i+aY ω (i+1) ns
theorem rK (ω:Nat→Nat):∀ (ns ms:List Nat) (i:Nat),ns.length=ms.length→aY ω i (dF ns ms)=aY ω i ns+aY ω i ms
 | [],[],_,_=>rfl
 | n::ns,m::ms,i,h=>by
  have ih:=rK ω ns ms (i+1) (by simpa using h)
  show (n+m) * ω i+aY ω (i+1) (dF ns ms)=n * ω i+aY ω (i+1) ns+(m * ω i+aY ω (i+1) ms)
  rw [ih,Nat.add_mul]
  lia
 | [],_::_,_,h=>by simp at h
 | _::_,[],_,h=>by simp at h
theorem VD (ω:Nat→Nat):aY ω 0 fX=0:=by
 unfold fX
 simp [aY,List.replicate]
theorem acg {ω:Nat→Nat}{tx s:List T}:aY ω 0 (lF tx s)=evW ω (tx,s):=by
 have h12:=Ah (tx:=tx) (s:=s)
 unfold lF evW
 show _=ω (stepT tx s)+(if stepT tx s=2 then (ats s 0).parts * ω 13 else 0)+(if stepT tx s=9 then (aZ (ats (ats tx 0).kids 0)).parts * ω 14 else 0)
 generalize stepT tx s=k at *
 generalize (ats s 0).parts=p
 generalize (aZ (ats (ats tx 0).kids 0)).parts=b
 by_cases h2:k=2
 ·subst h2
  rw [if_pos rfl,if_pos rfl,if_neg (by decide)]
  simp [ev0,aY,List.replicate,List.set]
 rw [if_neg h2,if_neg h2]
 by_cases h9:k=9
 ·subst h9
  rw [if_pos rfl,if_pos rfl]
  simp [ev0,aY,List.replicate,List.set]
 rw [if_neg h9,if_neg h9]
 rcases (by lia:k=0∨k=1∨k=3∨k=4∨k=5∨k=6∨k=7∨k=8∨k=10∨k=11∨k=12) with rfl | rfl | rfl | rfl | rfl | rfl | rfl | rfl | rfl | rfl | rfl <;> simp [ev0,aY,List.replicate,List.set]
theorem VG (ω:Nat→Nat):∀ (ns:List Nat) (i:Nat),(∀ j,i≤j→ω j=0)→aY ω i ns=0
 | [],_,_=>rfl
 | n::ns,i,h=>by
  show n * ω i+aY ω (i+1) ns=0
  rw [h i (Nat.le_refl _),VG ω ns (i+1) (fun j hj=>h j (by lia)),Nat.mul_zero]
theorem Cz:∀ (ns:List Nat) (i k:Nat),aY (fun j=>if j=i+k then 1 else 0) i ns=ns.getD k 0
 | [],_,_=>rfl
 | n::ns,i,0=>by
  show n * (if i=i+0 then 1 else 0)+aY _ (i+1) ns=n
  rw [if_pos (by lia),VG _ ns (i+1) (fun j hj=>if_neg (by lia))]
  lia
 | n::ns,i,k+1=>by
  show n * (if i=i+(k+1) then 1 else 0)+aY _ (i+1) ns=(n::ns).getD (k+1) 0
  rw [if_neg (by lia),show i+(k+1)=i+1+k by lia,Cz ns (i+1) k,List.getD_cons_succ]
  lia
theorem afU {ns ms:List Nat} (hl:ns.length=ms.length) (h:∀ ω,aY ω 0 ns=aY ω 0 ms):ns=ms:=by
 refine List.ext_getElem hl fun i h1 h2=>?_
 have e:=h (fun j=>if j=0+i then 1 else 0)
 rw [Cz,Cz,List.getD_eq_getElem?_getD,List.getD_eq_getElem?_getD,List.getElem?_eq_getElem h1,List.getElem?_eq_getElem h2] at e
 exact e
theorem Td {ω:Nat→Nat}{st e:Std}{τ:Nat} (g:Wo ω st τ e) (he:e.1=[]):∀ b,(goT b st.1 st.2).1=[]→aY ω 0 (goT b st.1 st.2).2.2=τ∧(goT b st.1 st.2).2.1=e.2:=by
 induction g with
 | nil =>
  intro b _
  rw [pW (.inl he)]
  exact⟨VD ω,rfl⟩
 | @cons st e τ h1 g ih =>
  intro b hb
  by_cases hc:bC st.1 st.2≤b
  ·rw [rJ h1 hc] at hb ⊢
   obtain⟨i1,i2⟩:=ih he (b - bC st.1 st.2) hb
   refine⟨?_,i2⟩
   show aY ω 0 (dF _ _)=_
   rw [rK _ _ _ _ (by rw [Gd,qH]),acg]
   have i1:aY ω 0 (goT (b - bC st.1 st.2) (onward st.1 st.2).1 (onward st.1 st.2).2.1).2.2=τ:=i1
   rw [i1]
   show evW ω st+τ=τ+evW ω st
   lia
  ·rw [pW (.inr (by lia))] at hb
   exact absurd hb h1
def pY:Nat→Nat:=fun i=>if i=2∨i=14 then 0 else 1
theorem aea {st:Std}:evW pY st=bC st.1 st.2:=by
 have h12:=Ah (tx:=st.1) (s:=st.2)
 unfold evW bC
 generalize stepT st.1 st.2=k at *
 by_cases h2:k=2
 ·subst h2
  rw [if_pos rfl,if_neg (by decide),if_pos rfl]
  show 0+_ * 1+0=_
  lia
 ·rw [if_neg h2,if_neg h2,show pY k=1 from if_neg (by lia)]
  split
  ·show 1+0+_ * 0=1; lia
  ·rfl
theorem aeQ {st e:Std}{c:Nat} (g:Wo pY st c e) (he:e.1=[]):∀ b,c≤b→(goT b st.1 st.2).1=[]∧spT b st.1 st.2=c:=by
 induction g with
 | nil =>
  intro b _
  rw [pW (.inl he),HD (.inl he)]
  exact⟨he,rfl⟩
 | @cons st e τ h1 g ih =>
  intro b hb
  rw [aea] at hb ⊢
  rw [rJ h1 (by lia),HF h1 (by lia)]
  obtain⟨i1,i2⟩:=ih he (b - bC st.1 st.2) (by lia)
  exact⟨i1,by rw [show (onward st.1 st.2).1=(nx st).1 from rfl,show (onward st.1 st.2).2.1=(nx st).2 from rfl,i2]; lia⟩
theorem aiG {ω:Nat→Nat}:∀ b tx s,(goT b tx s).1=[]→Wo ω (tx,s) (aY ω 0 (goT b tx s).2.2) ([],(goT b tx s).2.1):=by
 refine tR (fun b tx s h=>?_) (fun b tx s h1 h2 ih=>?_)
 ·rw [pW h]
  intro he
  have he:tx=[]:=he
  subst he
  exact Wo.nil.to (VD ω).symm
 ·rw [rJ h1 h2]
  intro he
  have g:=Wo.cons (ω:=ω) (st:=(tx,s)) h1 (ih he)
  refine g.to ?_
  show _=aY ω 0 (dF _ _)
  rw [rK _ _ _ _ (by rw [Gd,qH]),acg]
  lia
end Sw
namespace Sw
theorem acX {D W n:Nat}{e:Std} (h4:4≤D) (hD:D≤280) (hW:W≤7900000) (k:∀ b,Sane b e.1 e.2):∀ {st:Std},Way D W st n e→∀ b,Sane b st.1 st.2:=by
 induction n with
 | zero=>intro st h b; rw [h.at]; exact k b
 | succ n ih =>
  intro st h b
  obtain⟨_,_,h'⟩:=h.step h4
  obtain⟨b1,b2⟩:=afy (tx:=st.1) (s:=st.2) (h.ok hD hW)
  exact .mk b1 b2 fun _ _=>ih h' _
end Sw
namespace Sw
def vW:List Nat:=[2,2,0,1,2,2,2,0,0,0,1,0,1,0,0]
def vN:List (List Nat):=[[0,1,0,1,2,3,4,1,1,1,0,0,3,0,1169],
 [0,4,0,3,1,5,0,2,1,1,0,0,4,0,1169],
 [0,4,1,6,3,6,1,3,1,1,0,0,5,0,1169],
 [0,5,0,8,3,8,1,4,1,1,0,0,6,0,1169],
 [0,6,0,7,3,9,1,5,1,1,0,0,7,0,1169],
 [0,7,0,8,3,10,2,6,1,1,0,0,8,0,1169],
 [0,8,0,12,4,12,2,7,1,1,0,0,9,0,1169],
 [0,9,0,9,3,12,4,9,1,1,0,0,11,0,1169],
 [0,9,0,8,3,12,4,8,2,1,0,0,11,0,1169],
 [0,0,1,19,15,14,7,10,1,1,0,0,12,0,1169],
 [0,1,0,17,11,12,4,9,2,1,0,0,12,0,1169],
 [0,10,0,8,1,11,0,10,0,1,0,0,11,0,1169],
 [0,1,0,0,0,1,0,0,1,1,0,0,2,0,1169],
 [0,0,0,0,0,0,0,0,0,0,0,0,0,1,0],
 [0,0,0,0,0,0,0,0,0,0,0,0,0,1,0]]
def yW:List Nat→List (List Nat)→List Nat→List Nat
 | n::ns,r::rs,acc=>yW ns rs (acc.zipWith (· + ·) (r.map (n * ·)))
 | _,_,acc=>acc
def turnT (ns:List Nat):List Nat:=yW ns vN vW
theorem JH:∀ {ns:List Nat}{rs:List (List Nat)}{acc:List Nat},(∀ r∈rs,r.length=15)→acc.length=15→(yW ns rs acc).length=15
 | [],_,_,_,h=>by cases ‹List (List Nat)› <;> exact h
 | _::_,[],_,_,h=>h
 | n::ns,r::rs,acc,h,ha=>by
  have hr:=h r List.mem_cons_self
  exact JH (ns:=ns) (rs:=rs) (acc:=acc.zipWith (· + ·) (r.map (n * ·))) (fun r' hr'=>h r' (List.mem_cons_of_mem _ hr')) (by rw [List.length_zipWith,ha,List.length_map,hr]; rfl)
theorem Rm:∀ {i:Nat}{ns:List Nat}{rs:List (List Nat)}{acc:List Nat}{n:Nat}{r:List Nat},ns[i]?=some n→rs[i]?=some r→yW (ns.take (i+1)) rs acc=(yW (ns.take i) rs acc).zipWith (· + ·) (r.map (n * ·))
 | 0,n::ns,r::rs,acc,_,_,h1,h2=>by cases h1; cases h2; cases rs <;> rfl
 | i+1,n::ns,r::rs,acc,m,q,h1,h2=>by
  show yW (ns.take (i+1)) rs _=(yW (ns.take i) rs _).zipWith (· + ·) _
  exact Rm (by simpa using h1) (by simpa using h2)
theorem Cu:∀ r∈vN,r.length=15:=by decide
theorem afT:∀ r∈vN,∀ n∈r,n≤100000:=by decide
theorem fY (ns:List Nat):(turnT ns).length=15:=JH Cu rfl
theorem Rx (ω:Nat→Nat) (n:Nat):∀ (r:List Nat) (i:Nat),aY ω i (r.map (n * ·))=n * aY ω i r
 | [],_=>rfl
 | m::r,i=>by
  show n * m * ω i+aY ω (i+1) (r.map (n * ·))=n * (m * ω i+aY ω (i+1) r)
  rw [Rx ω n r (i+1),Nat.mul_add,Nat.mul_assoc]
def aas (ω:Nat→Nat):List Nat→List (List Nat)→Nat
 | n::ns,r::rs=>n * aY ω 0 r+aas ω ns rs
 | _,_=>0
theorem VF (ω:Nat→Nat):∀ (ns:List Nat) (rs:List (List Nat)) (acc:List Nat),(∀ r∈rs,r.length=15)→acc.length=15→aY ω 0 (yW ns rs acc)=aY ω 0 acc+aas ω ns rs
 | [],[],_,_,_=>rfl
 | [],_::_,_,_,_=>rfl
 | _::_,[],_,_,_=>rfl
 | n::ns,r::rs,acc,h,ha=>by
  have hr:=h r List.mem_cons_self
  show aY ω 0 (yW ns rs (dF acc (r.map (n * ·))))=aY ω 0 acc+(n * aY ω 0 r+aas ω ns rs)
  rw [VF ω ns rs _ (fun r' hr'=>h r' (List.mem_cons_of_mem _ hr')) (by unfold dF; rw [List.length_zipWith,ha,List.length_map,hr]; rfl),rK _ _ _ _ (by rw [ha,List.length_map,hr]),Rx]
  lia
theorem aiW (ω:Nat→Nat):aY ω 0 [0,1,0,1,2,3,4,1,1,1,0,0,3,0,1169]=aV ω 0:=by simp only [aY,aV,Nat.reduceAdd]; lia
theorem aiV (ω:Nat→Nat):aY ω 0 [0,4,0,3,1,5,0,2,1,1,0,0,4,0,1169]=aV ω 1:=by simp only [aY,aV,Nat.reduceAdd]; lia
theorem aiU (ω:Nat→Nat):aY ω 0 [0,4,1,6,3,6,1,3,1,1,0,0,5,0,1169]=aV ω 2:=by simp only [aY,aV,Nat.reduceAdd]; lia
theorem aiT (ω:Nat→Nat):aY ω 0 [0,5,0,8,3,8,1,4,1,1,0,0,6,0,1169]=aV ω 3:=by simp only [aY,aV,Nat.reduceAdd]; lia
theorem aiS (ω:Nat→Nat):aY ω 0 [0,6,0,7,3,9,1,5,1,1,0,0,7,0,1169]=aV ω 4:=by simp only [aY,aV,Nat.reduceAdd]; lia
theorem aiR (ω:Nat→Nat):aY ω 0 [0,7,0,8,3,10,2,6,1,1,0,0,8,0,1169]=aV ω 5:=by simp only [aY,aV,Nat.reduceAdd]; lia
theorem aiQ (ω:Nat→Nat):aY ω 0 [0,8,0,12,4,12,2,7,1,1,0,0,9,0,1169]=aV ω 6:=by simp only [aY,aV,Nat.reduceAdd]; lia
theorem aiP (ω:Nat→Nat):aY ω 0 [0,9,0,9,3,12,4,9,1,1,0,0,11,0,1169]=aV ω 7:=by simp only [aY,aV,Nat.reduceAdd]; lia
theorem aiO (ω:Nat→Nat):aY ω 0 [0,9,0,8,3,12,4,8,2,1,0,0,11,0,1169]=aV ω 8:=by simp only [aY,aV,Nat.reduceAdd]; lia
theorem aiN (ω:Nat→Nat):aY ω 0 [0,0,1,19,15,14,7,10,1,1,0,0,12,0,1169]=aV ω 9:=by simp only [aY,aV,Nat.reduceAdd]; lia
theorem agn (ω:Nat→Nat):aY ω 0 [0,1,0,17,11,12,4,9,2,1,0,0,12,0,1169]=aV ω 10:=by simp only [aY,aV,Nat.reduceAdd]; lia
theorem agm (ω:Nat→Nat):aY ω 0 [0,10,0,8,1,11,0,10,0,1,0,0,11,0,1169]=aV ω 11:=by simp only [aY,aV,Nat.reduceAdd]; lia
theorem agl (ω:Nat→Nat):aY ω 0 [0,1,0,0,0,1,0,0,1,1,0,0,2,0,1169]=aV ω 12:=by simp only [aY,aV,Nat.reduceAdd]; lia
theorem agk (ω:Nat→Nat):aY ω 0 [0,0,0,0,0,0,0,0,0,0,0,0,0,1,0]=aV ω 13:=by simp only [aY,aV,Nat.reduceAdd]; lia
theorem aiM (ω:Nat→Nat):aY ω 0 vW=lM ω:=by simp only [aY,vW,lM,Nat.reduceAdd]; lia
theorem Le (ω:Nat→Nat) {ns:List Nat} (h:ns.length=15):aY ω 0 (turnT ns)=aY (aV ω) 0 ns+lM ω:=by
 unfold turnT
 rw [VF ω ns vN vW Cu rfl,aiM]
 match ns,h with
 | [a0,a1,a2,a3,a4,a5,a6,a7,a8,a9,a10,a11,a12,a13,a14],_ =>
  unfold vN
  simp only [aas,aiW,aiV,aiU,aiT,aiS,aiR,aiQ,aiP,aiO,aiN,agn,agm,agl,agk]
  simp only [aY,Nat.reduceAdd]
  rw [show aV ω 14=aV ω 13 from rfl]
  lia
theorem QB (ω:Nat→Nat) (c:Nat):∀ (ns:List Nat) (i k:Nat),k<ns.length→aY ω i (ns.set k (ns.getD k 0+c))=aY ω i ns+c * ω (i+k)
 | [],_,_,h=>absurd h (Nat.not_lt_zero _)
 | n::ns,i,0,_=>by
  show (n+c) * ω i+aY ω (i+1) ns=n * ω i+aY ω (i+1) ns+c * ω i
  rw [Nat.add_mul]
  lia
 | n::ns,i,k+1,h=>by
  show n * ω i+aY ω (i+1) (ns.set k ((n::ns).getD (k+1) 0+c))=n * ω i+aY ω (i+1) ns+c * ω (i+(k+1))
  rw [List.getD_cons_succ,QB ω c ns (i+1) k (by simpa using h),show i+1+k=i+(k+1) by lia]
  lia
theorem Rz {ns:List Nat} (h:ns.length=15):n8 ns=((aY pY 0 ns:Nat):Int):=by
 match ns,h with
 | [a0,a1,a2,a3,a4,a5,a6,a7,a8,a9,a10,a11,a12,a13,a14],_ =>
  simp only [n8,aY,pY,List.take_succ_cons,List.take_zero,List.map_cons,List.map_nil,List.sum_cons,List.sum_nil,List.getD_cons_succ,List.getD_cons_zero]
  simp
  lia
theorem Yc {st e:Std}{ns:List Nat} (hn:ns.length=15) (h:∀ ω,Wo ω st (aY ω 0 ns) e) (he:e.1=[]) {b:Nat} (hb:aY pY 0 ns≤b):goT b st.1 st.2=([],e.2,ns)∧spT b st.1 st.2=aY pY 0 ns:=by
 obtain⟨h1,h2⟩:=aeQ (h pY) he b hb
 have h3:=fun ω=>(Td (h ω) he b h1).1
 have h4:=(Td (h pY) he b h1).2
 have h5:(goT b st.1 st.2).2.2=ns:=afU (by rw [qH,hn]) h3
 refine⟨?_,h2⟩
 rw [← h1,← h4,← h5]
end Sw
namespace Sw
section
variable {ω:Nat→Nat}{r cs us:List T}{e:Std}{τ:Nat}
theorem Ik (r:List T):bU++r=cI 8 fZ::([W 1,W 5,W 3,W 1]++r):=rfl
theorem Nm {tx s:List T} (h:tx≠[]):nx (.node (bU++r)::cs,.node tx::s)=(.node fZ::.node (bU++r)::cs,.node tx::s):=by
 unfold nx
 rw [Ik,fU,if_neg (by show 8≠7; decide),if_pos (by rfl),if_pos (by exact h),pF (by show 6<8; decide),cT (by show 1≤_; simp)]
 rfl
theorem Vp {s:List T}:nx (.node (bU++r)::cs,.node []::s)=(.node ([W 1,W 5,W 3,W 1]++r)::cs,.node []::s):=by
 unfold nx
 rw [Ik,fU,if_neg (by show 8≠7; decide),if_pos (by rfl),if_neg (by exact fun z=>z rfl),pF (by show 6<8; decide),cT (by show 1≤_; simp)]
theorem Vr {tx s:List T} (h:tx≠[]):evW ω (.node (bU++r)::cs,.node tx::s)=ω 9+1169 * ω 14:=by
 rw [Ik,cH (k:=9) (by rw [b_,if_neg (by show 8≠7; decide),if_pos (by rfl),if_pos (by exact h)]),if_neg (by decide),if_pos rfl,show aZ (cI 8 fZ)=.node fZ from rfl,Bt]
 lia
theorem ad_ {s:List T}:evW ω (.node (bU++r)::cs,.node []::s)=ω 10:=by
 rw [Ik,cH (k:=10) (by rw [b_,if_neg (by show 8≠7; decide),if_pos (by rfl),if_neg (by exact fun z=>z rfl)])]
 rfl
theorem afC {tx st:List T} (h:tx≠[]) (g:Wo ω (.node (bU++r)::cs,.node (onward tx st).1::.node (onward tx st).2.1::us) τ e) :
  Wo ω (.node (bU++r)::cs,.node tx::.node st::us) (τ+evW (aV ω) (tx,st)) e:=by
 match tx,h with
 | .node []::ts,h =>
  refine (Wo.one (by simp) (Nm h) (Vr h) (fH (yX rfl (lA (cR (cR g)))))).to ?_
  rw [show evW (aV ω) (.node []::ts,st)=aV ω 12 from rfl]
  simp only [aV]; lia
 | .node (.node []::xs)::ts,h =>
  have hr:=res_none (s:=st) (xs:=xs) (ts:=ts)
  have g2:Wo ω (.node (bU++r)::cs,.node (resT [] [] xs ts st).1::.node (resT [] [] xs ts st).2::us) τ e:=by rw [← hr]; exact g
  have g3:=Nb (as:=[]) (l:=[]) (xs:=xs) (ts:=ts) (st:=st) (us:=us) (cR g2)
  refine (Wo.one (by simp) (Nm h) (Vr h) (fH (yJ (by simp [T.kids]) (fH (jU g3))))).to ?_
  rw [cH (k:=0) (by rw [b_]; rfl)]
  show _=τ+(aV ω 0+0+0)
  unfold HN
  rw [if_pos (by rfl)]
  simp only [aV]
  lia
 | .node (.node (.node as::l)::xs)::ts,h =>
  have hr:=Ud (s:=st) (as:=as) (l:=l) (xs:=xs) (ts:=ts)
  have g2:Wo ω (.node (bU++r)::cs,.node (resT as l xs ts st).1::.node (resT as l xs ts st).2::us) τ e:=by rw [← hr]; exact g
  have g3:=Nb (as:=as) (l:=l) (xs:=xs) (ts:=ts) (st:=st) (us:=us) (cR g2)
  refine (Wo.one (by simp) (Nm h) (Vr h) (fH (yJ (by simp [T.kids]) (fH (fH g3))))).to ?_
  rw [YS]
  lia
theorem adO {st e':Std}{υ:Nat} (h:Wo (aV ω) st τ e'):∀ {us cs:List T},e'.1=[]→Wo ω (.node r::cs,ats e'.2 0::us) υ e→Wo ω (.node (bU++r)::cs,.node st.1::.node st.2::us) (υ+(τ+(ω 10+2 * ω 1+ω 5+ω 3))) e:=by
 induction h with
 | @nil st =>
  intro us cs he g
  rw [he]
  exact (Wo.one (by simp) Vp ad_ (lA (jU (cU (lA g))))).to (by lia)
 | @cons st e' τ h1 _ ih =>
  intro us cs he g
  exact (afC h1 (ih he g)).to (by show _=υ+(τ+evW (aV ω) (st.1,st.2)+_); lia)
theorem afz {x:T}{its s:List T}{υ:Nat} (h:Wo (aV ω) ([x],[.node its]) τ ([],s)) (g:Wo ω (.node r::cs,ats s 0::us) υ e) :
  Wo ω (.node (eU++r)::cs,.node (x::its)::us) (υ+(τ+(2 * ω 0+2 * ω 1+ω 3+2 * ω 4+2 * ω 5+2 * ω 6+ω 10))) e:=by
 have g':=adO (us:=us) (cs:=cs) h rfl g
 exact (fH (BW (dj (bW (BW (dj (bW g'))))))).to (by lia)
end
def In (a w:Nat) (st:Std):Prop:=pA a st∧wt st≤w
def sU (r cs us:List T) (d:Std):Std:=(.node (bU++r)::cs,.node d.1::.node d.2::us)
theorem ac_ {top:T}{cs us tx st:List T} (h:tx≠[]):∃ n c,n≤110∧c≤110+nj tx st ∧
  Wlk (.node fZ::top::cs,.node tx::.node st::us) n c (top::cs,.node (onward tx st).1::.node (onward tx st).2.1::us):=by
 match tx,h with
 | .node []::ts,_=>exact⟨5,5,by decide,by show 5≤110+0; decide,nA (Bo rfl (qu (dG (dG .nil))))⟩
 | .node (.node []::xs)::ts,_ =>
  have hr:=res_none (s:=st) (xs:=xs) (ts:=ts)
  obtain⟨m,d,hm,_,hd,g⟩:=aa6 (as:=[]) (l:=[]) (xs:=xs) (ts:=ts) (st:=st) (us:=us) (dG (Wlk.nil (st:=(top::cs,.node (resT [] [] xs ts st).1::.node (resT [] [] xs ts st).2::us))))
  rw [← hr] at g
  refine⟨0+1+m+4,0+1+d+4,by lia,by rw [if_neg (by decide),if_neg (by simp)] at hd; lia,?_⟩
  exact nA (Hx (by simp [T.kids]) (nA (mX g)))
 | .node (.node (.node as::l)::xs)::ts,_ =>
  have hr:=Ud (s:=st) (as:=as) (l:=l) (xs:=xs) (ts:=ts)
  obtain⟨m,d,hm,hlow,hd,g⟩:=aa6 (as:=as) (l:=l) (xs:=xs) (ts:=ts) (st:=st) (us:=us) (dG (Wlk.nil (st:=(top::cs,.node (resT as l xs ts st).1::.node (resT as l xs ts st).2::us))))
  rw [← hr] at g
  refine⟨0+1+m+4,0+1+d+4,by lia,?_,nA (Hx (by simp [T.kids]) (nA (nA g)))⟩
  have hx:nj (.node (.node (.node as::l)::xs)::ts) st=if as.length=2 then (ats st 0).parts else if as.length=8∧(ats st 0).kids≠[] then (T.node l).parts else 0:=by
   have hs:aH (.node (.node as::l))=min 9 as.length:=rfl
   rw [show nj (.node (.node (.node as::l)::xs)::ts) st=if aH (.node (.node as::l))=2 then (ats st 0).parts else if aH (.node (.node as::l))=8∧(ats st 0).kids≠[] then (aZ (.node (.node as::l))).parts else 0 from rfl,hs]
   by_cases h2:as.length=2
   ·rw [if_pos h2,if_pos (by lia)]
   ·rw [if_neg h2,if_neg (by lia)]
    by_cases h8:as.length=8
    ·by_cases ht:(ats st 0).kids≠[]
     ·rw [if_pos ⟨by lia,ht⟩,if_pos ⟨by lia,ht⟩]; rfl
     ·rw [if_neg (fun z=>ht z.2),if_neg (fun z=>ht z.2)]
    ·rw [if_neg (fun z=>h8 (by have:=z.1; lia)),if_neg (fun z=>h8 (by have:=z.1; lia))]
  rw [hx]
  by_cases h2:as.length=2
  ·rw [if_pos h2,if_neg (by lia)] at hd
   rw [if_pos h2]
   lia
  ·rw [if_neg h2] at hd
   rw [if_neg h2]
   lia
theorem vZ {st e:Std}{n c a w:Nat} (g:Wlk st n c e) (h:In a w st) (h4:4≤a) (hn:n≤110) (ha:a≤280) (hw:w+3 * c≤7900000) (k:∀ b,Sane b e.1 e.2):∀ b,Sane b st.1 st.2 :=
 acX (D:=a) (W:=w+3 * c) h4 ha hw k ⟨c,g,hn,h.1.le (by lia),by have:=h.2; lia⟩
theorem okIn {st:Std}{a w:Nat} (h:In a w st) (ha:a≤390) (hw:w≤7900000):BX st.1∧B 390 8000000 (.node st.2):=YB h.1 ha (Nat.le_trans h.2 hw)
theorem YL {a w w1:Nat}{r cs us:List T}{d:Std} (hd:In a w d) (hc:In a w1 (.node (bU++r)::cs,us)):In (a+1) (w+w1+2) (sU r cs us d):=by
 obtain⟨⟨h1,h2⟩,h3⟩:=hd
 obtain⟨⟨h4,h5⟩,h6⟩:=hc
 have h3:T.aD d.1+T.aD d.2≤w:=h3
 have h4:(T.node (.node (bU++r)::cs)).deep≤a:=h4
 have h5:(T.node us).deep≤a:=h5
 have h6:T.aD (.node (bU++r)::cs)+T.aD us≤w1:=h6
 rw [T.aP] at h5
 refine⟨⟨by show (T.node (.node (bU++r)::cs)).deep≤a+1; lia,?_⟩,?_⟩
 ·show (T.node (.node d.1::.node d.2::us)).deep≤a+1
  rw [T.aP,T.aO,T.aO]; lia
 ·show T.aD (.node (bU++r)::cs)+T.aD (.node d.1::.node d.2::us)≤_
  rw [T.aF (.node d.1),T.aF (.node d.2),T.aM,T.aM]; lia
theorem Js {r cs us:List T}{a w w1 X:Nat} (ha:a≤270) (h92:92≤a) (hX:w+w1+3 * X+3000≤7900000) (hc:In a w1 (.node (bU++r)::cs,us)):∀ {N:Nat}{d:Std},(∀ i,i≤N→In a w (stN i d)∧nj (stN i d).1 (stN i d).2≤X)→(stN N d).1=[] →
  (∀ i,i≤N→(stN i d).1=[]→∀ b,Sane b (.node r::cs) (ats (stN i d).2 0::us))→∀ b,Sane b (sU r cs us d).1 (sU r cs us d).2:=by
 have hsp:(T.node fZ).deep≤90:=YM.1
 have hr:(T.node r).deep≤a:=by
  have:=hc.1.1
  have:(T.node (.node (bU++r)::cs)).deep≤a:=this
  rw [T.aP,T.aO,T.aP,T.iu] at this
  rw [T.aP]; lia
 have ahz:∀ {d:Std},In a w d→d.1=[]→(∀ b,Sane b (.node r::cs) (ats d.2 0::us))→∀ b,Sane b (sU r cs us d).1 (sU r cs us d).2:=by
  intro d hd he k b
  have hi:=YL hd hc
  obtain⟨b1,b2⟩:=okIn hi (by lia) (by lia)
  refine .mk b1 b2 fun _ _=>?_
  have en:nx (sU r cs us d)=(.node ([W 1,W 5,W 3,W 1]++r)::cs,.node []::.node d.2::us):=by
   show nx (.node (bU++r)::cs,.node d.1::.node d.2::us)=_
   rw [he]; exact Vp
  have g:Wlk (nx (sU r cs us d)) 4 4 (.node r::cs,ats d.2 0::us):=by
   rw [en]; exact qu (mX (cW (qu .nil)))
  refine vZ (a:=a+2) (w:=w+w1+200) g ?_ (by lia) (by lia) (by lia) (by lia) k _
  obtain⟨⟨q1,q2⟩,q3⟩:=hi
  have q1:(T.node (.node (bU++r)::cs)).deep≤a+1:=q1
  have q2:(T.node (.node d.1::.node d.2::us)).deep≤a+1:=q2
  have q3:T.aD (.node (bU++r)::cs)+T.aD (.node d.1::.node d.2::us)≤w+w1+2:=q3
  rw [he] at q2 q3
  have p4:T.aD [W 1,W 5,W 3,W 1]≤20:=by decide +kernel
  have d4:T.cj [W 1,W 5,W 3,W 1]≤10:=by decide +kernel
  rw [en]
  refine⟨⟨?_,by show (T.node (.node []::.node d.2::us)).deep≤a+2; lia⟩,?_⟩
  ·show (T.node (.node ([W 1,W 5,W 3,W 1]++r)::cs)).deep≤a+2
   rw [T.aP,T.aO,T.aP,T.iu]
   rw [T.aP,T.aO,T.aP,T.iu] at q1
   lia
  ·show T.aD (.node ([W 1,W 5,W 3,W 1]++r)::cs)+T.aD (.node []::.node d.2::us)≤_
   rw [T.aF (.node (bU++r)),T.aM,T.cJ] at q3
   rw [T.aF (.node ([W 1,W 5,W 3,W 1]++r)),T.aM,T.cJ]
   lia
 intro N
 induction N with
 | zero =>
  intro d h he k
  exact ahz (h 0 (Nat.le_refl _)).1 he (k 0 (Nat.le_refl _) he)
 | succ N ih =>
  intro d h he k b
  by_cases h1:d.1=[]
  ·exact ahz (h 0 (Nat.zero_le _)).1 h1 (k 0 (Nat.zero_le _) h1) b
  ·obtain⟨hd,hx⟩:=h 0 (Nat.zero_le _)
   have hd:In a w d:=hd
   have hx:nj d.1 d.2≤X:=hx
   have hi:=YL hd hc
   obtain⟨b1,b2⟩:=okIn hi (by lia) (by lia)
   refine .mk b1 b2 fun _ _=>?_
   have en:nx (sU r cs us d)=(.node fZ::.node (bU++r)::cs,.node d.1::.node d.2::us):=Nm h1
   obtain⟨n,c,hn,hcc,g⟩:=ac_ (top:=.node (bU++r)) (cs:=cs) (us:=us) (st:=d.2) h1
   rw [← en] at g
   refine vZ (a:=a+2) (w:=w+w1+1200) g ?_ (by lia) hn (by lia) (by lia) (ih (d:=nx d) (fun i hi=>?_) ?_ (fun i hi=>?_)) _
   ·obtain⟨⟨q1,q2⟩,q3⟩:=hi
    have q1:(T.node (.node (bU++r)::cs)).deep≤a+1:=q1
    have q2:(T.node (.node d.1::.node d.2::us)).deep≤a+1:=q2
    have q3:T.aD (.node (bU++r)::cs)+T.aD (.node d.1::.node d.2::us)≤w+w1+2:=q3
    rw [en]
    refine⟨⟨?_,by show (T.node (.node d.1::.node d.2::us)).deep≤a+2; lia⟩,?_⟩
    ·show (T.node (.node fZ::.node (bU++r)::cs)).deep≤a+2
     rw [T.aP,T.aO]
     rw [T.aP] at q1
     lia
    ·show T.aD (.node fZ::.node (bU++r)::cs)+T.aD (.node d.1::.node d.2::us)≤_
     rw [T.aF (.node fZ),Bt]
     lia
   ·have:=h (i+1) (by lia)
    rw [tM] at this
    exact this
   ·rw [tM] at he
    exact he
   ·have:=k (i+1) (by lia)
    rw [tM] at this
    exact this
end Sw
namespace Sw
section
variable {ω:Nat→Nat}{t cs us:List T}{e:Std}{τ:Nat}
theorem afA {x:List T} (g:Wo ω (.node t::cs,.node (cI 0 x::x)::us) τ e):Wo ω (.node (wj t)::cs,.node x::us) (τ+(ω 0+(ω 2+(T.node x).parts * ω 13)+2 * ω 4)) e :=
 (UL (BW (bW (bW g)))).to (by lia)
def Ni (ω:Nat→Nat):Nat:=3 * ω 0+ω 2+2 * ω 3+4 * ω 4
theorem agY {f s1 s2:List T}{x:T}{τ1 τ2:Nat} (h1:Wo (aV ω) ([.node f],[.node (cB f)]) τ1 ([],s1)) (h2:Wo (aV ω) ([ats s1 0],[x]) τ2 ([],s2)) :
  ∃ υ,υ+ω 12=τ1+lM ω+(τ2+lM ω)+Ni ω+(T.node (eE f)).parts * ω 13∧Wo ω ([.node (cB f)],[x]) υ ([],[ats s2 0]):=by
 rw [← h_ x] at h2 ⊢
 have g2:=agW (cs:=[]) (us:=[]) h2
 have g4:=afz (r:=W 4::eU) (cs:=[]) (us:=[.node x.kids]) h1 (bW g2)
 have g5:=BW (us:=eE f) (BW (us:=f) (cU (afA (cU (bW g4)))))
 refine⟨_,?_,g5⟩
 unfold lM Ni
 lia
end
theorem YX (ω:Nat→Nat):∀ (ns:List Nat) (i k:Nat),k<ns.length→1≤ns.getD k 0→aY ω i (ns.set k (ns.getD k 0 - 1))+ω (i+k)=aY ω i ns
 | [],_,_,h,_=>absurd h (Nat.not_lt_zero _)
 | n::ns,i,0,_,h1=>by
  have h1:1≤n:=h1
  show (n - 1) * ω i+aY ω (i+1) ns+ω i=n * ω i+aY ω (i+1) ns
  obtain⟨m,rfl⟩:∃ m,n=m+1:=⟨n - 1,by lia⟩
  rw [Nat.add_sub_cancel,Nat.succ_mul]
  lia
 | n::ns,i,k+1,h,h1=>by
  rw [List.getD_cons_succ] at h1
  show n * ω i+aY ω (i+1) (ns.set k ((n::ns).getD (k+1) 0 - 1))+ω (i+(k+1))=n * ω i+aY ω (i+1) ns
  rw [List.getD_cons_succ]
  have:=YX ω ns (i+1) k (by simpa using h) h1
  rw [show i+1+k=i+(k+1) by lia] at this
  lia
def yK:List Nat:=[3,0,1,2,4,0,0,0,0,0,0,0,0,0,0]
def nQ (n1 n2:List Nat):List Nat:=dF yK (dF (turnT n1) (turnT n2))
def iB (f:List T) (n1 n2:List Nat):List Nat:=(nQ n1 n2).set 13 ((nQ n1 n2).getD 13 0+(T.node (eE f)).parts)
def cX (f:List T) (n1 n2:List Nat):List Nat:=(iB f n1 n2).set 12 ((iB f n1 n2).getD 12 0 - 1)
theorem xq (n1 n2:List Nat):(nQ n1 n2).length=15:=rA rfl (rA (fY n1) (fY n2))
theorem Ck (f:List T) (n1 n2:List Nat):(iB f n1 n2).length=15:=by unfold iB; rw [List.length_set]; exact xq n1 n2
theorem adX (f:List T) (n1 n2:List Nat):(cX f n1 n2).length=15:=by unfold cX; rw [List.length_set]; exact Ck f n1 n2
theorem afN (ns:List Nat) (k:Nat):ns.getD k 0=aY (fun j=>if j=k then 1 else 0) 0 ns:=by
 have:=Cz ns 0 k
 rw [Nat.zero_add] at this
 exact this.symm
theorem YJ (f:List T) {n1 n2:List Nat} (h1:n1.length=15) (h2:n2.length=15):1≤(iB f n1 n2).getD 12 0:=by
 unfold iB
 rw [afN,QB _ _ _ _ _ (by rw [xq]; decide)]
 unfold nQ
 rw [rK _ _ _ _ (by rw [rA (fY n1) (fY n2)]; rfl),rK _ _ _ _ (by rw [fY,fY]),Le _ h1]
 have:1≤lM (fun j=>if j=12 then 1 else 0):=by decide
 lia
theorem aeb (ω:Nat→Nat) (f:List T) {n1 n2:List Nat} (h1:n1.length=15) (h2:n2.length=15):aY ω 0 (cX f n1 n2)+ω 12=aY (aV ω) 0 n1+lM ω+(aY (aV ω) 0 n2+lM ω)+Ni ω+(T.node (eE f)).parts * ω 13:=by
 have e1:=YX ω (iB f n1 n2) 0 12 (by rw [Ck]; decide) (YJ f h1 h2)
 rw [show 0+12=12 from rfl] at e1
 unfold cX
 rw [e1]
 unfold iB
 rw [QB _ _ _ _ _ (by rw [xq]; decide)]
 unfold nQ
 rw [rK _ _ _ _ (by rw [rA (fY n1) (fY n2)]; rfl),rK _ _ _ _ (by rw [fY,fY]),Le _ h1,Le _ h2]
 have e2:aY ω 0 yK=Ni ω:=by simp only [aY,yK,Ni,Nat.reduceAdd]; lia
 rw [e2,show 0+13=13 from rfl]
 lia
theorem adY {f s1 s2:List T}{x:T}{n1 n2:List Nat} (l1:n1.length=15) (l2:n2.length=15) (h1:∀ ω,Wo ω ([.node f],[.node (cB f)]) (aY ω 0 n1) ([],s1)) (h2:∀ ω,Wo ω ([ats s1 0],[x]) (aY ω 0 n2) ([],s2)) :
  ∀ ω,Wo ω ([.node (cB f)],[x]) (aY ω 0 (cX f n1 n2)) ([],[ats s2 0]):=fun ω=>by
 obtain⟨υ,e,g⟩:=agY (h1 (aV ω)) (h2 (aV ω))
 have:=aeb ω f l1 l2
 exact g.to (by lia)
theorem Yg:∀ (k:Nat) {st:Std},st.1=[]→stN k st=st
 | 0,_,_=>rfl
 | k+1,st,h=>by
  rw [tM,show nx st=st from ?_]
  ·exact Yg k h
  ·obtain⟨tx,s⟩:=st
   have h:tx=[]:=h
   subst h
   rfl
theorem aal {M:Nat}{tx s:List T} (h:Wds M tx) (hne:tx≠[]):nj tx s≤bC tx s+M:=by
 rw [← YZ]
 match tx,hne with
 | .node []::ts,_=>show 0≤_; lia
 | .node (w::ws)::ts,_ =>
  have hw:w.parts≤M:=h _ List.mem_cons_self w List.mem_cons_self
  have hl:=Fq w
  have hc:uI (.node (w::ws)::ts,s)=if aH w=2 then (ats s 0).parts else 1:=rfl
  have hx:nj (.node (w::ws)::ts) s=if aH w=2 then (ats s 0).parts else if aH w=8∧(ats s 0).kids≠[] then (aZ w).parts else 0:=rfl
  rw [hc,hx]
  split
  ·lia
  ·split <;> lia
theorem Mq {M:Nat}{tx s:List T} (h:Wds M tx):T.aD (onward tx s).2.1≤T.aD s+bC tx s+(M+3):=by
 match tx with
 | []=>show T.aD s≤_; lia
 | .node []::ts=>show T.aD s≤_; lia
 | .node (w::ws)::ts =>
  have hw:w.parts≤M:=h _ List.mem_cons_self w List.mem_cons_self
  have hl:=Fq w
  rw [(Ft w ws ts s).2.2,← YZ]
  have hc:uI (.node (w::ws)::ts,s)=if aH w=2 then (ats s 0).parts else 1:=rfl
  rw [hc]
  have hb:=Kd w s
  split at hb <;> split at hb <;> split <;> lia
theorem Uc {M:Nat}:∀ b tx s,(goT b tx s).1=[]→Wds M tx→∃ N,N≤b∧stN N (tx,s)=([],(goT b tx s).2.1) ∧
  ∀ i,i≤N→Wds M (stN i (tx,s)).1∧T.aD (stN i (tx,s)).1≤T.aD tx+i * M∧T.aD (stN i (tx,s)).2≤T.aD s+b+i * (M+3)∧nj (stN i (tx,s)).1 (stN i (tx,s)).2≤b+M:=by
 refine tR (fun b tx s h=>?_) (fun b tx s h1 h2 ih=>?_)
 ·intro he hM
  rw [pW h] at he ⊢
  have he:tx=[]:=he
  subst he
  refine⟨0,Nat.zero_le _,rfl,fun i hi=>?_⟩
  have:i=0:=by lia
  subst this
  exact⟨hM,by show T.aD []≤_; lia,by show T.aD s≤_; lia,by show 0≤_; lia⟩
 ·intro he hM
  rw [rJ h1 h2] at he ⊢
  obtain⟨g1,g2,_⟩:=hM.next (s:=s)
  have g3:=Mq hM (s:=s)
  have hc:=uh tx s
  obtain⟨N,hN,hst,hb⟩:=ih he g1
  refine⟨N+1,by lia,by rw [tM]; exact hst,fun i hi=>?_⟩
  cases i with
  | zero=>exact⟨hM,by show T.aD tx≤_; lia,by show T.aD s≤_; lia,by have:=aal hM h1 (s:=s); show nj tx s≤_; lia⟩
  | succ i =>
   obtain⟨q1,q2,q3,q4⟩:=hb i (by lia)
   rw [tM]
   have e1:(i+1) * M=i * M+M:=Nat.succ_mul _ _
   have e2:(i+1) * (M+3)=i * (M+3)+(M+3):=Nat.succ_mul _ _
   exact⟨q1,Nat.le_trans q2 (by lia),Nat.le_trans q3 (by lia),Nat.le_trans q4 (by lia)⟩
theorem Yd {r cs us:List T}{x:T}{its:List T}:Wlk (.node (eU++r)::cs,.node (x::its)::us) 7 7 (sU r cs us ([x],[.node its])) :=
 nA (Mj (dN (bZ (Mj (dN (bZ .nil))))))
theorem Zt:(T.node (eU++(W 4::eU))).deep≤90∧(T.node (eU++(W 4::eU))).parts≤6000∧(T.node (bU++(W 4::eU))).deep≤90∧(T.node (bU++(W 4::eU))).parts≤6000∧(T.node (W 4::eU)).deep≤90∧(T.node (W 4::eU)).parts≤6000:=by decide +kernel
theorem In.mk1 {a w:Nat}{c s:List T} (h1:T.cj c≤a) (h2:T.cj s≤a) (h3:T.aD c+T.aD s≤w):In a w (c,s):=⟨⟨by show (T.node c).deep≤a; rw [T.aP]; exact h1,by show (T.node s).deep≤a; rw [T.aP]; exact h2⟩,h3⟩
theorem ab9 {f s1 s2:List T}{x:T}{N1 N2:Nat} (hk:B 150 200000 (.node (cB f))) (hx:B 150 200000 x) (ht:B 199 1000000 (ats s1 0))
  (e1:stN N1 ([.node f],[.node (cB f)])=([],s1)) (h1:∀ i,i≤N1→In 200 3900000 (stN i ([.node f],[.node (cB f)]))∧nj (stN i ([.node f],[.node (cB f)])).1 (stN i ([.node f],[.node (cB f)])).2≤1000000)
  (e2:stN N2 ([ats s1 0],[x])=([],s2)) (h2:∀ i,i≤N2→In 200 7000000 (stN i ([ats s1 0],[x]))∧nj (stN i ([ats s1 0],[x])).1 (stN i ([ats s1 0],[x])).2≤250000) (hs2:B 199 3900000 (ats s2 0)):∀ b,Sane b [.node (cB f)] [x]:=by
 obtain⟨u1,u2,u3,u4,u5,u6⟩:=Zt
 have hxd:=hx.1
 have hxp:=hx.2
 have htd:=ht.1
 have htp:=ht.2
 have apn:=hs2.1
 have apm:=hs2.2
 have k4:∀ b,Sane b [.node []] [ats s2 0]:=by
  intro b
  refine vZ (a:=200) (w:=3900010) (dG .nil:Wlk ([.node []],[ats s2 0]) 1 1 ([],[ats s2 0])) ?_ (by decide) (by decide) (by decide) (by decide) ?_ b
  ·exact In.mk1 (by rw [T.aO,T.bV,T.aP,T.bV]; lia) (by rw [T.aO,T.bV]; lia) (by rw [T.aF,T.aR,T.aM,T.aR,T.aF,T.aR]; lia)
  ·intro b
   obtain⟨b1,b2⟩:=okIn (st:=([],[ats s2 0])) (a:=200) (w:=3900010) (In.mk1 (by rw [T.bV]; lia) (by rw [T.aO,T.bV]; lia) (by rw [T.aR,T.aF,T.aR]; lia)) (by decide) (by decide)
   exact .mk b1 b2 fun z=>absurd rfl z
 have stop:∀ {i N:Nat}{d:Std}{s:List T},i≤N→stN N d=([],s)→(stN i d).1=[]→(stN i d).2=s:=fun {i N d s} hi hN h0=>by
  have e:=aeS i (N - i) d
  rw [show i+(N - i)=N by lia,hN,Yg _ h0] at e
  rw [← e]
 have k3:∀ b,Sane b [.node (bU++[])] [.node [ats s1 0],.node [x]]:=by
  refine Js (r:=[]) (cs:=[]) (us:=[]) (a:=200) (w:=7000000) (w1:=10000) (X:=250000) (by decide) (by decide) (by decide) ?_ (N:=N2) (d:=([ats s1 0],[x])) h2 (by rw [e2]) (fun i hi h0 b=>?_)
  ·have v1:(T.node bU).deep≤90:=YM.2
   have v2:=ad0
   rw [List.append_nil]
   exact In.mk1 (by rw [T.aO,T.bV]; lia) (by rw [T.bV]; lia) (by rw [T.aF,T.aR]; lia)
  ·rw [stop hi e2 h0]; exact k4 b
 have k2:∀ b,Sane b [.node (W 4::eU)] [ats s1 0,x]:=by
  intro b
  have g:Wlk ([.node (W 4::eU)],[ats s1 0,.node x.kids]) 8 8 (sU [] [] [] ([ats s1 0],[.node x.kids])):=by
   have:=Yd (r:=[]) (cs:=[]) (us:=[]) (x:=ats s1 0) (its:=x.kids)
   rw [List.append_nil] at this
   exact bZ this
  rw [h_] at g
  refine vZ (a:=201) (w:=1300000) g ?_ (by decide) (by decide) (by decide) (by decide) k3 b
  exact In.mk1 (by rw [T.aO,T.bV]; lia) (by rw [T.aO,T.aO,T.bV]; lia) (by rw [T.aF,T.aR,T.aF,T.aF,T.aR]; lia)
 have k1:∀ b,Sane b [.node (bU++(W 4::eU))] [.node [.node f],.node [.node (cB f)],x]:=by
  refine Js (r:=W 4::eU) (cs:=[]) (us:=[x]) (a:=200) (w:=3900000) (w1:=300000) (X:=1000000) (by decide) (by decide) (by decide) ?_ (N:=N1) (d:=([.node f],[.node (cB f)])) h1 (by rw [e1]) (fun i hi h0 b=>?_)
  ·exact In.mk1 (by rw [T.aO,T.bV]; lia) (by rw [T.aO,T.bV]; lia) (by rw [T.aF,T.aR,T.aF,T.aR]; lia)
  ·rw [stop hi e1 h0]; exact k2 b
 intro b
 have hkd:=hk.1
 have hkp:=hk.2
 have hb:(T.node (eE f)).parts≤200000:=by
  have e:(T.node (cB f)).parts=1+(cI 0 (eE f)).parts+T.aD (eE f):=by unfold cB; rw [T.aM,T.aF]; lia
  rw [T.aM (eE f)]
  have:=T.g_ (cI 0 (eE f))
  lia
 have g:Wlk ([.node (cB f)],[x]) 16 (15+(T.node (eE f)).parts) (sU (W 4::eU) [] [x] ([.node f],[.node (cB f)])) :=
  (Mj (us:=eE f) (Mj (us:=f) (cW (aeR (cW (bZ (Yd (r:=W 4::eU) (cs:=[]) (us:=[x]) (x:=.node f) (its:=cB f)))))))).to rfl (by lia)
 refine vZ (a:=200) (w:=500000) g ?_ (by decide) (by decide) (by decide) (by lia) k1 b
 exact In.mk1 (by rw [T.aO,T.bV]; lia) (by rw [T.aO,T.bV]; lia) (by rw [T.aF,T.aR,T.aF,T.aR]; lia)
end Sw
namespace Sw
theorem Jr {M:Nat}:∀ b tx s,∀ a u v,1≤a→pA a (tx,s)→a+2 * b≤390→Wds M tx→T.aD tx≤u→T.aD s≤v→u+b * M+(v+b+b * (M+3))≤7900000→Sane b tx s:=by
 have bnd:∀ (b:Nat) (tx s:List T) (a u v:Nat),pA a (tx,s)→a+2 * b≤390→T.aD tx≤u→T.aD s≤v→u+b * M+(v+b+b * (M+3))≤7900000→BX tx∧B 390 8000000 (.node s):=fun b tx s a u v hd ha hu hv hb =>
  YB (st:=(tx,s)) hd (by lia) (by show T.aD tx+T.aD s≤_; lia)
 refine tR (fun b tx s h a u v h1 hd ha hM hu hv hb=>?_) (fun b tx s h1 h2 ih a u v ha1 hd ha hM hu hv hb=>?_)
 ·obtain⟨b1,b2⟩:=bnd b tx s a u v hd ha hu hv hb
  exact .mk b1 b2 fun z1 z2=>by
   rcases h with h | h
   ·exact absurd h z1
   ·lia
 ·obtain⟨b1,b2⟩:=bnd b tx s a u v hd ha hu hv hb
  obtain⟨g1,g2,_⟩:=hM.next (s:=s)
  have g3:=Mq hM (s:=s)
  have hc:=uh tx s
  refine .mk b1 b2 fun _ _=>?_
  obtain⟨c,hcb⟩:∃ c,b=c+bC tx s:=⟨b - bC tx s,by lia⟩
  have ec:b - bC tx s=c:=by lia
  rw [ec] at ih ⊢
  have e1:(c+1) * M≤b * M:=Nat.mul_le_mul_right M (by lia)
  have e2:(c+1) * (M+3)≤b * (M+3):=Nat.mul_le_mul_right _ (by lia)
  rw [Nat.succ_mul] at e1 e2
  exact ih (a+2) (u+M) (v+bC tx s+(M+3)) (by lia) (aeH (st:=(tx,s)) ha1 hd) (by lia) g1 (by lia) (by lia) (by lia)
theorem aby {M b a:Nat}{tx s:List T} (ha:1≤a) (he:(goT b tx s).1=[]) (hM:Wds M tx) (hd:pA a (tx,s)):∃ N,stN N (tx,s)=([],(goT b tx s).2.1) ∧
  ∀ i,i≤N→In (a+2 * b) (T.aD tx+b * M+(T.aD s+b+b * (M+3))) (stN i (tx,s))∧nj (stN i (tx,s)).1 (stN i (tx,s)).2≤b+M:=by
 obtain⟨N,hN,hst,h⟩:=Uc b tx s he hM
 refine⟨N,hst,fun i hi=>?_⟩
 obtain⟨_,h2,h3,h4⟩:=h i hi
 have e1:i * M≤b * M:=Nat.mul_le_mul_right M (by lia)
 have e2:i * (M+3)≤b * (M+3):=Nat.mul_le_mul_right _ (by lia)
 exact⟨⟨(aeI ha hd i).le (by lia),by show T.aD _+T.aD _≤_; lia⟩,h4⟩
theorem Vq {b:Nat}{tx s:List T} (he:(goT b tx s).1=[]):∀ ω,Wo ω (tx,s) (aY ω 0 (goT b tx s).2.2) ([],(goT b tx s).2.1):=fun ω=>aiG b tx s he
theorem ad3 {b:Nat}{tx s:List T}:aY pY 0 (goT b tx s).2.2=spT b tx s:=by
 have h1:=YQ b tx s
 rw [Rz (qH b tx s)] at h1
 lia
theorem ad4 {b:Nat}{tx s:List T} (he:(goT b tx s).1=[]):goT (spT b tx s) tx s=goT b tx s:=by
 obtain⟨h,_⟩:=Yc (st:=(tx,s)) (qH b tx s) (Vq he) rfl (Nat.le_of_eq ad3)
 have h:goT (spT b tx s) tx s=([],(goT b tx s).2.1,(goT b tx s).2.2):=h
 rw [h,← he]
end Sw
namespace Sw
open PySem PySem.Spec PyProof.Rows L2
end Sw
namespace Sw
open PySem PySem.Spec PyProof.Rows L2
section
variable {X:Cx}{o e value:Expr}{f:Str}{pos pos':Pos}{ta tv:TE}
theorem bN (he:QE X e ta) (hb:attributeBase e f X.env (eval e X.env)=eval e X.env):QE X (.Attribute e f pos) (tFld X.K ta f):=⟨pe_fld he.run hb⟩
theorem d8 (ha:QE X o ta) (hv:QE X value tv) (hs:swapsWith value (some (.Attribute o f pos')) pos.line X.env=pure false):QS X (.Assign [.Attribute o f pos'] value pos) (sFld X.K ta tv f):=⟨ps_fld ha.run hv.run hs⟩
end
section
variable {X:Cx}{CX:CXT}{k:Nat}{f C:Addr}{fd:FuncData}{ps:List Str}{sp:Sp}{dvs:List V}{ds:List Value}{E:XK}{m x:Str}{p apos pos:Pos}{o e:Expr}{es:List Expr}{ta:TE}{t:TA}
theorem Yw {pl:Sem Bool} (he:QE X o ta) (c:Cls X.K C) (hm:Meth X.K C m f) (F:FnOk X.prog X.w X.K X.mg X.base CX k f fd ps sp) (hr:Room k X.A) (hb:Binds X.K fd ps ds) (hd:Vals dvs ds) (hx:Passes CX X E) (ha:QA X (e::es) t)
  (hst:starEach (e::es) X.env=(false,eval e X.env)::starEach es X.env:=by rfl) (hpl:(backTo pos (starEach es X.env)).any (·.1)=false:=by rfl)
  (ht:eval (.Call (.Attribute o m apos) (e::es) [] pos) X.env=(do
   let ov ← eval o X.env
   standAt apos.atName
   let (f,first) ← holding [ov] (getMethod ov m pl)
   callWith pos f first (backTo pos (starEach (e::es) X.env)) (backToKw pos (keywordEach [] X.env))):=by rfl):QE X (.Call (.Attribute o m apos) (e::es) [] pos) (tMeth C m sp dvs E ta t):=⟨pe_meth (pl:=pl) he.run c hm F hr hb hd hx ha.run hst hpl ht⟩
theorem mJ {pl:Sem Bool} (he:QE X o ta) (c:Cls X.K C) (hm:Meth X.K C m f) (F:FnOk X.prog X.w X.K X.mg X.base CX k f fd ps sp) (hr:Room k X.A) (hb:Binds X.K fd ps ds) (hd:Vals dvs ds) (hx:Passes CX X E)
  (ht:eval (.Call (.Attribute o m apos) [] [] pos) X.env=(do
   let ov ← eval o X.env
   standAt apos.atName
   let (f,first) ← holding [ov] (getMethod ov m pl)
   callWith pos f first (backTo pos (starEach [] X.env)) (backToKw pos (keywordEach [] X.env))):=by rfl):QE X (.Call (.Attribute o m apos) [] [] pos) (tMeth C m sp dvs E ta tNil):=⟨adA (pl:=pl) he.run c hm F hr hb hd hx ht⟩
end
section
variable {R P:Addr}{nm:List Nat}
end
section
variable {K:PySem.W.Frag}{C:Addr}{H₀ H:Hp}{o dx R P:Addr}{ys:List V}{st:List (List T)}{pl:List (List Nat)}{nm:List Nat}
theorem abz {H':Hp}{p:Addr} (h:Dv K H₀ H p st ys) (S:Same H H'):Dv K H₀ H' p st ys :=
 ⟨h.new,h.same.trans S,S _ _ h.at_,h.rows.imp fun _ _ ⟨a,xs,e,h1,h2,h3⟩=>⟨a,xs,e,h1,S _ _ h2,h3.mono (.of S)⟩,h.nd⟩
theorem abB {p q:Addr}{x:HO} (h:Dv K H₀ H p st ys) (k:Kt H (upd H q x)) (h0:H₀ q=none) (hn:(.ref q:V) ∉ (.ref p:V)::ys):Dv K H₀ (upd H q x) p st ys :=
 ⟨h.new,cY h.same h0,by rw [upd_ne (fun z=>hn (by rw [z]; exact List.mem_cons_self))]; exact h.at_,wH k h.rows fun z=>hn (List.mem_cons_of_mem _ z),h.nd⟩
theorem Kt.ins {C' dx':Addr}{fs:List (Str×V)}{x:HO} (h:H o=some (.ins C' dx' fs)):Kt H (upd H o x) :=
 ⟨fun b xs e=>by rw [upd_ne (fun z=>by rw [z,h] at e; cases e)]; exact e,fun b _ _ e=>by rw [upd_ne (fun z=>by rw [z,h] at e; cases e)]; exact e⟩
end
end Sw
namespace SwR
open PySem PySem.Spec PyProof.Rows L2 Sw
def aaT (K:PySem.W.Frag) (a:Addr) (n:Nat):It :=
 ⟨fun i H=>∃ xs x,SqT K H a xs∧xs.length=n∧xs.reverse[i]?=some x,fun i H v H'=>H'=H∧∀ xs,SqT K H a xs→xs.reverse[i]?=some v,fun i H=>∃ xs,SqT K H a xs∧xs.length=n∧n=i⟩
theorem abC {α:Type}{xs:List α}{i:Nat}{x:α} (h:xs.reverse[i]?=some x):i<xs.length∧xs[xs.length - 1 - i]?=some x:=by
 have hi:i<xs.length:=by have:=(List.getElem?_eq_some_iff.mp h).1; simpa using this
 exact⟨hi,by rw [List.getElem?_reverse hi] at h; exact h⟩
theorem aa_ {P:Program}{w:World}{K:PySem.W.Frag}{tg:Expr} (a it:Addr) (n:Nat) (hne:a≠it):Turn P w K tg (aaT K a n) [it] it (fun i h=>RvO h it a ((n:Int) - 1 - (i:Int))) where
 mem:=by simp
 obj:=fun i h st b hb=>by
  have e:b=it:=by simpa using hb
  subst e
  obtain⟨o,ho,hc,hd⟩:=st
  exact⟨o,ho,fun v z=>by rw [hd] at z; cases z⟩
 keep:=fun i h h' st k=>st.keep fun o e=>k it (by simp) o e
 item:=by
  intro X hP hw hK hc i pins s σ H E I hf st hg
  subst hP hw hK
  obtain⟨xs,x,hq,hn,hx⟩:=hg
  obtain⟨hi,hx'⟩:=abC hx
  obtain⟨its,rv,p,hz⟩:=I.tuple hq
  obtain⟨u,hu,ru⟩:=rv.get hx'
  obtain⟨f0,f1,f2,f3,f4,f5⟩:=hf it (by simp)
  have hl:=rv.length
  have e1:(n:Int) - 1 - (i:Int)=((xs.length - 1 - i:Nat):Int):=by lia
  rw [e1] at st
  refine next_item (items:=its.toArray) st p (x:=u) (by simpa using hu) (by rw [List.size_toArray]; lia) hne fun h' tk st' sb=>?_
  have e2:((xs.length - 1 - i:Nat):Int) - 1=(n:Int) - 1 - ((i+1:Nat):Int):=by lia
  rw [e2] at st'
  have I1:Inv X pins σ H { s with heap:=h',toks:=tk }:=I.turned (fun b o hb e=>(sb.2 b hb).trans e) f0 f1 f3 f4 f5
  obtain⟨o,e,c,d⟩:=id st'
  exact⟨u,rfl,go_of (s:={ s with heap:=h',toks:=tk }) e c d (by decide) ⟨x,H,I1,ru,⟨rfl,fun ys hy=>by rw [I.uN hy hq]; exact hx⟩,st',fun b hb=>(hf b hb).1⟩⟩
 done:=by
  intro X hP hw hK hc i pins s σ H E I hf st hg
  subst hP hw hK
  obtain⟨xs,hq,hn,hx⟩:=hg
  obtain⟨f0,f1,f2,f3,f4,f5⟩:=hf it (by simp)
  have e1:(n:Int) - 1 - (i:Int)=-1:=by lia
  rw [e1] at st
  exact next_end (I.ok.hd hc) st fun h' eb=>⟨rfl,I.turned (t':=s.toks) (fun b o hb e=>eb b o hb e) f0 f1 f3 f4 f5⟩
 self:=fun _ _ _ _ _ st h=>yL st h
def aeE (K:PySem.W.Frag) (tl:TE):TI:=fun σ H R=>tl σ H fun x H1=>∃ a xs,x=.ref a∧SqT K H1 a xs∧R (aaT K a xs.length) H1
theorem afj {X:Cx}{tg l:Expr}{tl:TE}{p pos:Pos} (hg:Gl X "reversed") (hm:X.mg "reversed"=none) (hl:PE X l tl) (hs:starEach [l] X.env=[(false,eval l X.env)]:=by rfl):PI X tg (.Call (.Name "reversed" p) [l] [] pos) (aeE X.K tl):=by
 intro pins s σ H R I h
 refine wpAny_Call_Name_kw (ld_blt I hg hm zP ?_)
 refine PyProof.Rows.callWith_type1 ?_ (by rw [hs]; rfl) (by rfl)
 rw [hs]
 refine Calls.spliced_cons (thn (hl pins s σ H _ I h) fun v s1 ⟨x,H1,I1,r1,q1⟩=>Calls.spliced_nil ?_)
 obtain⟨a,xs,rfl,hq,q⟩:=q1
 cases r1
 obtain⟨its,rv,ht,hz⟩:=I1.tuple hq
 have hlen:=rv.length
 have la:a<s1.heap.objs.size:=let ⟨_,ho,_⟩:=ht; Heap.lt_size ho
 refine V5 ht (by rw [List.size_toArray]; lia) fun tk=>?_
 have hit:RvO (s1.heap.push { cls:=.type "reversed",data:=.fields #[.ref a,rawInt ((its.toArray.size:Int) - 1)] }) s1.heap.objs.size a ((its.toArray.size:Int) - 1):=⟨_,Heap.get?_push_size _ rfl,rfl,rfl⟩
 refine yL (s:={ s1 with heap:=s1.heap.push { cls:=.type "reversed",data:=.fields #[.ref a,rawInt ((its.toArray.size:Int) - 1)] },toks:=tk }) hit ?_
 refine⟨s1.heap.objs.size,[s1.heap.objs.size],_,aaT X.K a xs.length,H1,rfl,I1.kept fun b o e=>Heap.get?_push_of_some _ e,aa_ a _ xs.length (Nat.ne_of_lt la),?_,fun b hb=>?_,q⟩
 ·have e1:(xs.length:Int) - 1 - ((0:Nat):Int)=(its.toArray.size:Int) - 1:=by rw [List.size_toArray]; lia
  show RvO _ _ _ ((xs.length:Int) - 1 - ((0:Nat):Int))
  rw [e1]
  exact hit
 ·have e:b=s1.heap.objs.size:=by simpa using hb
  subst e
  exact I1.fpOk (Nat.le_refl _) (I1.hok.fresh (Nat.le_refl _))
section
variable {prog:Program}{w:World}{A:Around}{E:Value→Shared→Prop}{s:Shared}
end
end SwR
namespace Sw
open PySem PySem.Spec PyProof.Rows L2
section
variable {prog:Program}{w:World}{A:Around}{E:Value→Shared→Prop}{s:Shared}{K:PySem.W.Frag}{x y C:Addr}{ox:Obj}{od:Option Obj}{items:Array Value}
theorem aaB {Q:Value→Shared→Prop} (kin:K.In s.heap) (J:PySem.W.InstAt s.heap x ox C od) (hm:PySem.W.mroIn K C (.type "object")=some true) (hxy:x≠y) {oy:Obj} (hy:s.heap.get? y=some oy) (h:Q .notImplemented s) :
  wpAny (model prog w) A (call (.builtin "object.__eq__") [.ref x,.ref y]) Q E s:=by
 refine wpAny_call (codeAny_call_builtin (by decide +kernel) F.cmpEntry_eq ?_)
 unfold checkBuiltinCall
 rw [F.cmpKind_eq,F.cmpSplit_eq]
 dsimp only
 refine wpAny_bind ?_
 unfold isInstance
 refine wpAny_bind (J.type _ _ _ s (fun _ _ e=>e) ?_)
 refine PySem.W.looks_mroIn kin hm _ _ _ s (fun _ _ e=>e) ?_
 rw [if_neg (by decide)]
 refine wpAny_of_eq (F.cmpArgs_eq (.ref x) (.ref y)) ?_
 unfold Builtin.«object.__eq__»
 refine wpAny_bind (wpAny_of_eq (a:=(Value.ref x,[Value.ref y])) rfl ?_)
 dsimp only
 refine wpAny_bind (wpAny_isSame_ref_other hxy J.at_ hy (by rw [J.cls]; exact fun z=>nomatch z) ?_)
 rw [if_neg (by decide)]
 exact wpAny_pure h
theorem aaA {Q:Value→Shared→Prop} (kin:K.In s.heap) (J:PySem.W.InstAt s.heap x ox C od) (hm:PySem.W.mroIn K C (.type "tuple")=some false) (ht:s.TypeIs (.ref y) "tuple") (h:Q .notImplemented s) :
  wpAny (model prog w) A (call (.builtin "tuple.__eq__") [.ref y,.ref x]) Q E s:=by
 refine wpAny_call_entry F.slot_tuple_eq ht F.entry_tuple_eq ?_ (F.args_tuple_eq_2 _ _)
 unfold Builtin.«tuple.__eq__»
 wp_delta
 refine wpAny_bind (wpAny_of_eq (a:=(Value.ref y,[Value.ref x])) rfl ?_)
 dsimp only
 refine wpAny_bind ?_
 unfold isInstance
 refine wpAny_bind (J.type _ _ _ s (fun _ _ e=>e) ?_)
 refine PySem.W.looks_mroIn kin hm _ _ _ s (fun _ _ e=>e) ?_
 rw [if_pos (by decide)]
 exact wpAny_pure ⟨_,rfl,h⟩
theorem aao {Q:Value→Shared→Prop} (hu:A.units<cLine) (kin:K.In s.heap) (J:PySem.W.InstAt s.heap x ox C od) (he:PySem.W.findIn K (.ref C) "__eq__"=some (some (.builtin "object.__eq__"))) (hm:PySem.W.mroIn K C (.type "object")=some true)
  (hmt:PySem.W.mroIn K C (.type "tuple")=some false) (hsub:PySem.W.subIn K (.type "tuple") (.ref C)=some false) (hxy:x≠y) {oy:Obj} (hy:s.heap.get? y=some oy) (hc:oy.cls=.type "tuple") (h:Q (.bool false) s) :
  wpAny (model prog w) A (compareOp .Eq (.ref x) (.ref y)) Q E s:=by
 have ht:s.TypeIs (.ref y) "tuple":=⟨oy,hy,hc⟩
 show wpAny _ _ (richCompare .Eq (.ref x) (.ref y)) _ _ _
 unfold richCompare
 refine wpAny_holding (wpAny_bind (wpAny_cRoomFor hu ?_))
 rw [show oneThing? CmpOp.Eq (Value.ref x) (Value.ref y)=none from rfl]
 show wpAny _ _ (typeOf (.ref x) >>= _) _ _ _
 refine wpAny_bind (J.type _ _ _ s (fun _ _ e=>e) ?_)
 refine wpAny_bind (wpAny_typeOf ht ?_)
 rw [if_pos (by rfl)]
 refine wpAny_bind (PySem.W.looks_subIn kin hsub _ _ _ s (fun _ _ e=>e) ?_)
 show wpAny _ _ (tryCompare (.ref x) (Str.ofString "__eq__") (.ref y) >>= _) _ _ _
 have ajj:∀ {Q':Option Value→Shared→Prop},Q' none s→wpAny (model prog w) A (tryCompare (.ref x) (Str.ofString "__eq__") (.ref y)) Q' E s:=fun {Q'} q=>by
  unfold tryCompare
  refine wpAny_bind ?_
  unfold callSpecialIfBound?
  refine wpAny_holding (wpAny_bind ?_)
  unfold bindSpecialIfBound?
  refine wpAny_bind ?_
  unfold specialOf
  refine wpAny_bind (J.type _ _ _ s (fun _ _ e=>e) ?_)
  refine PySem.W.looks_findIn kin he _ _ _ s (fun _ _ e=>e) ?_
  dsimp only
  have hb:bindSpecial (.builtin "object.__eq__") (.ref x)=pure (.builtin "object.__eq__",[.ref x]):=F.slot_object_eq.bind _
  rw [hb]
  have fin:wpAny (model prog w) A (call (.builtin "object.__eq__") ([.ref x]++[.ref y])) (fun v s1=>wpAny (model prog w) A (pure (some v)) (fun a s'=>wpAny (model prog w) A (match a with | some .notImplemented=>pure none | none=>pure none | some v=>pure (some v)) Q' E s') E s1) E s :=
   aaB kin J hm hxy hy (wpAny_pure (wpAny_pure q))
  refine wpAny_bind (wpAny_askSetting ?_)
  split
  ·exact wpAny_bind (wpAny_pure (wpAny_pure (wpAny_bind fin)))
  ·exact wpAny_tryCatch (wpAny_bind (wpAny_pure (wpAny_pure (wpAny_bind fin))))
 refine wpAny_bind (ajj ?_)
 show wpAny _ _ (tryCompare (.ref y) (Str.ofString "__eq__") (.ref x) >>= _) _ _ _
 refine wpAny_bind (wpAny_tryCompare_declines ht F.slot_tuple_eq (aaA kin J hmt ht ⟨rfl,?_⟩))
 refine wpAny_bind (wpAny_rule ?_)
 exact wpAny_bind (wpAny_isSame_ref_other hxy J.at_ hy (by rw [J.cls]; exact fun z=>nomatch z) (wpAny_pure h))
end
end Sw
namespace SwR
open PySem PySem.Spec PyProof.Rows L2 Sw
end SwR
namespace Sw
open PySem PySem.Spec PyProof.Rows L2
structure Ws (K:PySem.W.Frag) (C:Addr):Prop where
 cl:Cls K C
 eq:PySem.W.findIn K (.ref C) "__eq__"=some (some (.builtin "object.__eq__"))
 ob:PySem.W.mroIn K C (.type "object")=some true
 tu:PySem.W.mroIn K C (.type "tuple")=some false
 sb:PySem.W.subIn K (.type "tuple") (.ref C)=some false
 ca:PySem.W.findIn K (.ref C) "__class__"=some (some (.builtin "object.__class__"))
 cn:PySem.W.specialIn K (.builtin "object.__class__") "__get__"=some (some (.builtin "getset_descriptor.__get__"))
 ct:PySem.W.takesIn K (.builtin "object.__class__")=some true
theorem Ws.ty {K:PySem.W.Frag}{C a dx:Addr}{fs:List (Str×V)}{H:Hp} (r:Ws K C) (h:H a=some (.ins C dx fs)):TyOf K H (.ref a) (.ref C):=.ins h r.cl r.ca r.cn r.ct r.ob
section
variable {X:Cx}
def abD (K:PySem.W.Frag) (n:Nat):R2:=fun x y H Q=>(∃ t u,TR K H t x∧TR K H u y∧t.deep≤n∧Q (.bl (T.beq t u)) H)∨∃ a C dx fs b ys,x=.ref a∧H a=some (.ins C dx fs)∧Ws K C∧y=.ref b∧H b=some (.tup ys)∧Q (.bl false) H
theorem Um {n:Nat} (hu:X.A.units+n<cLine):OpR X (compareOp .Eq) (abD X.K n):=by
 intro pins s σ H x y v u Q I rx ry h
 rcases h with h | ⟨a,C,dx,fs,b,ys,rfl,ha,r,rfl,hb,q⟩
 ·exact Yz hu pins s σ H x y v u Q I rx ry h
 ·cases (show v=Value.ref a from rx)
  cases (show u=Value.ref b from ry)
  obtain⟨mA,O,_⟩:=ins_get I.hok ha
  obtain⟨od,J,_⟩:=O.look
  obtain⟨_,_,_,p⟩:=(show ObjOk X.prog X.w H s.heap b (.tup ys) from I.hok b _ hb)
  obtain⟨o,h1,h2,_⟩:=p
  exact aao (by lia) I.kIn J r.eq r.ob r.tu r.sb (fun z=>by rw [z,hb] at ha; cases ha) h1 h2 ⟨.bl false,H,I,rfl,q⟩
theorem jx:CallR X (.builtin "isinstance") (fun xs H Q=>∃ x D b,xs=[x,.ref D]∧((∃ t,TyOf X.K H x t∧PySem.W.kitOne X.K t (.ref D)=some b)∨(∃ a ys,x=.ref a∧SqT X.K H a ys∧PySem.W.kitOne X.K (.type "tuple") (.ref D)=some b))∧Q (.bl b) H):=by
 intro pins s σ H xs us Q I r h
 obtain⟨x,D,b,rfl,h,q⟩:=h
 obtain⟨u,w',rfl,r1,r2⟩:=vals2 r
 cases (show w'=Value.ref D from r2)
 rcases h with⟨t,ty,e⟩ | ⟨a,ys,rfl,hq,e⟩
 ·exact Rw I r1 ty e fun tk=>⟨.bl b,H,I.tok tk,rfl,q⟩
 ·cases r1
  obtain⟨its,_,⟨o,h1,h2,_⟩,_⟩:=I.tuple hq
  exact PySem.W.kia_one PySem.W.kitx_tuple I.kIn ⟨o,h1,h2⟩ e (fun z=>nomatch z) fun tk=>⟨.bl b,H,I.tok tk,rfl,q⟩
def adp:V→List V→Hp→VK→Prop:=fun x vs H Q=>∃ l xs y,x=.ref l∧vs=[.int 0,y]∧H l=some (.lst xs)∧xs.length<sizeLine∧Q .non (upd H l (.lst (y::xs)))
theorem Z1:MtM X "list.insert" adp:=by
 intro pins s σ H x vs v us Q I rx rv h
 obtain⟨l,xs,y,rfl,rfl,hH,hz,q⟩:=h
 cases rx
 obtain⟨u0,u,rfl,r0,ru⟩:=vals2 rv
 obtain⟨t,rfl⟩:=r0
 obtain⟨z,its,n,r,hl,e⟩:=I.lstM hH
 refine call_meets F.slot_list_insert ⟨_,e,rfl⟩ F.entry_list_insert (F.args_list_insert_3 _ _ _) (AutoSeq1.list_insert_list_int_val_1 l its.toArray n 0 t u (by decide) (by rw [List.size_toArray]; lia)) ⟨e,?_⟩
 refine⟨.non,_,I.Vj (its':=u::its) hH e (by simp) (.cons ru r) ?_,rfl,q⟩
 rw [List.length_cons]
 lia
theorem xu:aeo X (rIxL X.K):=by
 intro pins s σ H x y v u Q I rx ry h
 obtain⟨p,xs,i,z,rfl,rfl,hq,he,q⟩:=h
 cases rx
 obtain⟨t,rfl⟩:=ry
 obtain⟨its,r,pl,hz⟩:=I.list hq
 obtain⟨j,h1,h2,h3,h4,h5⟩:=atI_get he
 obtain⟨w,ew,rw'⟩:=r.get h2
 have hl:=r.length
 have hn:=line63
 have fin:EP X pins σ Q w s:=⟨z,H,I,rw',q⟩
 by_cases h0:0≤i
 ·have hj:i.toNat=j:=by
   rw [seqIndex_of h0 h5] at h1
   exact Option.some.inj h1
  exact getItem_listL pl.isList h0 (by lia) (by rw [hj]; exact ew) fin
 ·have hj:(i+(its.toArray.size:Int)).toNat=j:=by
   rw [seqIndex_neg (by lia) h4] at h1
   rw [List.size_toArray,← hl]
   exact Option.some.inj h1
  exact wpAny_getItem_list_neg pl.isList (by lia) (by rw [List.size_toArray] <;> lia) (by lia) (by rw [hj]; simpa using ew) fin
theorem Am {pos:Pos}{o i e:Expr}{to ti te:TE}{JD:V→V→Hp→VK→Prop}{tip:TIp}{JC:LR}{op:Operator}{tpos:Pos} (ho:QE X o to) (hi:QE X i ti) (hg:aeo X JD) (he:QE X e te) (hp:PIp X op tip) (hs:Wt X JC)
  (ha:∀ ov iv new,augStore i ov iv new=(do holding [new,ov,iv] (setItem ov iv new); release [new,ov,iv] []; pure .next):=by intros; rfl):QS X (.AugAssign (.Subscript o i tpos) op e pos) (aey to ti te JD tip JC):=⟨afg ho.run hi.run hg he.run hp hs ha⟩
theorem Rt {o value:Expr}{f:Str}{pos tpos:Pos}{ta tv:TE}{op:Operator}{rd:V→V→Hp→VK→Prop} (ha:QE X o ta) (hv:QE X value tv) (hop:aaU X op rd):QS X (.AugAssign (.Attribute o f tpos) op value pos) (Yr X.K ta tv rd f):=⟨abJ ha.run hv.run hop⟩
theorem jE {CX:CXT}{k:Nat}{f C:Addr}{fd:FuncData}{ps:List Str}{sp:Sp}{dvs:List V}{ds:List Value}{E:XK}{x:Str}{p pos:Pos}{e:Expr}{es:List Expr}{t:TA} (M:Mk X.K C f) (F:FnOk X.prog X.w X.K X.mg X.base CX k f fd ps sp) (hr:Room (k+1) X.A) (hg:Gl X x) (hm:X.mg x=some (.ref C)) (hb:Binds X.K fd ps ds) (hd:Vals dvs ds) (hx:Passes CX X E)
  (ha:QA X (e::es) t) (hdb:(x == ("__debug__":Str))=false:=by decide) (he:starEach (e::es) X.env=(false,eval e X.env)::starEach es X.env:=by rfl) (hpl:(backTo pos (starEach es X.env)).any (·.1)=false:=by rfl) :
  QE X (.Call (.Name x p) (e::es) [] pos) (tMake C sp dvs E t):=⟨afm M F hr hg hm hb hd hx ha.run hdb he hpl⟩
theorem ae8 {tg l:Expr}{tl:TE}{p pos:Pos} (hg:Gl X "reversed") (hm:X.mg "reversed"=none) (hl:QE X l tl) (hs:starEach [l] X.env=[(false,eval l X.env)]:=by rfl):QI X tg (.Call (.Name "reversed" p) [l] [] pos) (SwR.aeE X.K tl):=⟨SwR.afj hg hm hl.run hs⟩
theorem afl {a:Expr}{ta:TE}{pos:Pos} (ha:PE X a ta):PE X (.UnaryOp .Not a pos) (fun σ H Q=>ta σ H fun x H'=>∃ k,Wn X.K x H' k∧Q (.bl (!k)) H'):=by
 intro pins s σ H Q I h
 refine UnaryOp_ (thn (ha pins s σ H _ I h) fun v s1 ⟨x,H1,I1,r1,q1⟩=>?_)
 refine not_of (thn (abe pins s1 σ H1 x v (fun k H2=>Q (.bl (!k)) H2) I1 r1 q1) fun k s2 ⟨H2,I2,q2⟩=>?_)
 exact⟨.bl (!k),H2,I2,rfl,q2⟩
theorem afa {a:Expr}{ta:TE}{pos:Pos} (ha:QE X a ta):QE X (.UnaryOp .Not a pos) (fun σ H Q=>ta σ H fun x H'=>∃ k,Wn X.K x H' k∧Q (.bl (!k)) H'):=⟨afl ha.run⟩
end
end Sw
namespace Sw
open PySem PySem.Spec PyProof.Rows L2
structure Own (K:PySem.W.Frag) (ao aq au aK aL aJ:Addr):Prop where
 rF:Ws K ao
 rL:Ws K aq
 fO:Cls K au
 cText:Cls K aK
 GR:Cls K aL
 cZ:Cls K aJ
 fi:NoAttr K ao "item"
 fb:NoAttr K ao "behind"
 lt:NoAttr K aq "tree"
 lp:NoAttr K aq "place"
 wk:NoAttr K au "kind"
 wl:NoAttr K au "load"
 wy:NoAttr K au "yes"
 wn:NoAttr K au "no"
 wb:NoAttr K au "body"
 ws:NoAttr K au "size"
 tt:NoAttr K aK "tree"
 tw:NoAttr K aK "words"
 gt:NoAttr K aL "text"
 gp:NoAttr K aL "place"
 kg:NoAttr K aJ "goings"
 ks:NoAttr K aJ "stack"
 kn:NoAttr K aJ "numbers"
 kl:NoAttr K aJ "left"
 iTF:PySem.W.kitOne K (.type "tuple") (.ref ao)=some false
 iTL:PySem.W.kitOne K (.type "tuple") (.ref aq)=some false
 iFF:PySem.W.kitOne K (.ref ao) (.ref ao)=some true
 iLF:PySem.W.kitOne K (.ref aq) (.ref ao)=some false
 iLL:PySem.W.kitOne K (.ref aq) (.ref aq)=some true
theorem Ui (f:Str) (v:V):putF f v []=[(f,v)]:=rfl
theorem vR (f:Str) (u v:V) (r:List (Str×V)):putF f v ((f,u)::r)=(f,v)::r:=by rw [putF,if_pos rfl]
theorem bQ {f g:Str} (h:¬ g=f) (u v:V) (r:List (Str×V)):putF f v ((g,u)::r)=(g,u)::putF f v r:=by rw [putF,if_neg h]
theorem dZ (f:Str) (u:V) (r:List (Str×V)):List.lookup f ((f,u)::r)=some u:=by rw [List.lookup_cons,beq_self_eq_true]
theorem cC {f g:Str} (h:(f == g)=false) (u:V) (r:List (Str×V)):List.lookup f ((g,u)::r)=List.lookup f r:=by rw [List.lookup_cons,h]
def fF (y z:V):List (Str×V):=[("item",y),("behind",z)]
def fL (v:V) (p:Nat):List (Str×V):=[("tree",v),("place",.int (p:Int))]
def fT (v:V) (W:Addr):List (Str×V):=[("tree",v),("words",.ref W)]
def fG (a:Addr) (p:Nat):List (Str×V):=[("text",.ref a),("place",.int (p:Int))]
def fD (k:Nat) (v y n b z:V):List (Str×V):=[("kind",.int (k:Int)),("load",v),("yes",y),("no",n),("body",b),("size",z)]
def fW (G S N:Addr) (b:Nat):List (Str×V):=[("goings",.ref G),("stack",.ref S),("numbers",.ref N),("left",.int (b:Int))]
theorem MK {f g:Str} (h:¬ f=g) (u v:V):putF g v (putF f u [])=[(f,u),(g,v)]:=by rw [Ui,bQ h,Ui]
inductive Role where
 | mine
 | text (t:T) (W:Addr)
 | words (t:T)
 | word (w:T)
 | row (t:T)
abbrev Mp:=Addr→Option Role
def setM (M:Mp) (p:Addr) (r:Role):Mp:=fun a=>if a=p then some r else M a
theorem dO {M:Mp}{p:Addr}{r:Role}:setM M p r p=some r:=by unfold setM; rw [if_pos rfl]
theorem gK {M:Mp}{a p:Addr}{r:Role} (h:a≠p):setM M p r a=M a:=by unfold setM; rw [if_neg h]
section
variable (K:PySem.W.Frag) (CF CL CD CT CG CW:Addr)
def RV (M:Mp) (H:Hp) (t:T) (x:V):Prop:=TR K H t x∨∃ a,x=.ref a∧M a=some (.row t)
def vC (M:Mp) (a:Addr) (t:T):Prop:=∃ W,M a=some (.text t W)
def Ok1 (M:Mp) (H:Hp) (a:Addr):Role→Prop
 | .mine=>True
 | .text t W=>∃ dx v,H a=some (.ins CT dx (fT v W))∧TR K H t v∧M W=some (.words t)
 | .words t=>∃ xs,H a=some (.lst xs)∧xs.length≤t.kids.length∧∀ (j:Nat) x,xs[j]?=some x→∃ b w,x=.ref b∧t.kids[j]?=some w∧M b=some (.word w)
 | .word w=>∃ dx v y n bd sz,H a=some (.ins CD dx (fD (aH w) v y n bd sz))∧TR K H (aZ w) v∧(aH w=7→∃ ay an,y=.ref ay∧n=.ref an∧vC M ay (ats (aZ w).kids 0)∧vC M an (aZ (aZ w))) ∧
   (aH w=8→∃ ab,bd=.ref ab∧vC M ab (aZ w))∧(sz=.non∨sz=.int ((aZ w).parts:Nat))
 | .row t=>(∃ dx y z u ts,H a=some (.ins CF dx (fF y z))∧t=.node (u::ts)∧RV K M H u y∧RV K M H (.node ts) z)∨∃ dx v ts p,H a=some (.ins CL dx (fL v p))∧TR K H (.node ts) v∧p<ts.length∧ts.length≤8000000∧t=.node (ts.drop p)
structure Gh (M:Mp) (H₀ H:Hp):Prop where
 same:Same H₀ H
 new:∀ a r,M a=some r→H₀ a=none
 has:∀ a r,M a=some r→∃ o,H a=some o
 ok:∀ a r,M a=some r→Ok1 K CF CL CD CT M H a r
structure Go (X:Addr→Prop) (M M':Mp) (H₀ H H':Hp):Prop where
 ext:∀ a r,M a=some r→M' a=some r
 mine:∀ a,M a=some .mine→¬ X a→H' a=H a
 kt:Kt H H'
 gh:Gh K CF CL CD CT M' H₀ H'
 wds:∀ W t ws,M W=some (.words t)→H W=some (.lst ws)→∃ ws',H' W=some (.lst ws')∧ws.length≤ws'.length
end
section
variable {K:PySem.W.Frag}{CF CL CD CT CG CW:Addr}{M M' M'':Mp}{H₀ H H' H'':Hp}{X Y:Addr→Prop}
theorem RV.mono {t:T}{x:V} (k:Kt H H') (e:∀ a t,M a=some (.row t)→M' a=some (.row t)) (h:RV K M H t x):RV K M' H' t x:=by
 rcases h with h | ⟨a,rfl,h⟩
 ·exact .inl (h.mono k)
 ·exact .inr ⟨a,rfl,e _ _ h⟩
theorem Ok1.mono {a:Addr}{r:Role} (h:Ok1 K CF CL CD CT M H a r) (ha:H' a=H a) (k:Kt H H') (e:∀ a r,r≠.mine→M a=some r→M' a=some r):Ok1 K CF CL CD CT M' H' a r:=by
 cases r with
 | mine=>trivial
 | text t W =>
  obtain⟨dx,v,h1,h2,h3⟩:=h
  exact⟨dx,v,ha.trans h1,h2.mono k,e _ _ (by simp) h3⟩
 | words t =>
  obtain⟨xs,h1,h2,h3⟩:=h
  refine⟨xs,ha.trans h1,h2,fun j x hx=>?_⟩
  obtain⟨b,w,e1,e2,e3⟩:=h3 j x hx
  exact⟨b,w,e1,e2,e _ _ (by simp) e3⟩
 | word w =>
  obtain⟨dx,v,y,n,bd,sz,h1,h2,h3,h4,h5⟩:=h
  refine⟨dx,v,y,n,bd,sz,ha.trans h1,h2.mono k,fun s7=>?_,fun s8=>?_,h5⟩
  ·obtain⟨ay,an,e1,e2,⟨W1,e3⟩,W2,e4⟩:=h3 s7
   exact⟨ay,an,e1,e2,⟨W1,e _ _ (by simp) e3⟩,W2,e _ _ (by simp) e4⟩
  ·obtain⟨ab,e1,W,e2⟩:=h4 s8
   exact⟨ab,e1,W,e _ _ (by simp) e2⟩
 | row t =>
  have er:∀ a t,M a=some (.row t)→M' a=some (.row t):=fun a t=>e a _ (by simp)
  rcases h with⟨dx,y,z,u,ts,h1,h2,h3,h4⟩ | ⟨dx,v,ts,p,h1,h2,h3,h4,h5⟩
  ·exact .inl ⟨dx,y,z,u,ts,ha.trans h1,h2,h3.mono k er,h4.mono k er⟩
  ·exact .inr ⟨dx,v,ts,p,ha.trans h1,h2.mono k,h3,h4,h5⟩
theorem Gh.nil (H:Hp):Gh K CF CL CD CT (fun _=>none) H H:=⟨Same.refl _,fun _ _ z=>(by cases z),fun _ _ z=>(by cases z),fun _ _ z=>(by cases z)⟩
theorem Gh.grow (g:Gh K CF CL CD CT M H₀ H) (S:Same H H'):Gh K CF CL CD CT M H₀ H' :=
 ⟨g.same.trans S,g.new,fun a r h=>by obtain⟨o,e⟩:=g.has a r h; exact⟨o,S _ _ e⟩,fun a r h=>by
  obtain⟨o,e⟩:=g.has a r h
  exact (g.ok a r h).mono ((S _ _ e).trans e.symm) (.of S) fun _ _ _ z=>z⟩
theorem Gh.mut {p:Addr}{o:HO} (g:Gh K CF CL CD CT M H₀ H) (hp:M p=some .mine) (k:Kt H (upd H p o)):Gh K CF CL CD CT M H₀ (upd H p o):=by
 refine⟨cY g.same (g.new _ _ hp),g.new,fun a r h=>?_,fun a r h=>?_⟩
 ·by_cases z:a=p
  ·exact⟨o,by rw [z,upd_same]⟩
  ·obtain⟨u,e⟩:=g.has a r h
   exact⟨u,by rw [upd_ne z]; exact e⟩
 ·by_cases z:a=p
  ·rw [z,hp] at h
   cases h
   trivial
  ·exact (g.ok a r h).mono (upd_ne z) k fun _ _ _ z=>z
theorem Gh.put {p:Addr}{o:HO}{r:Role} (g:Gh K CF CL CD CT M H₀ H) (hp:M p=some r) (k:Kt H (upd H p o)) (h:Ok1 K CF CL CD CT M (upd H p o) p r):Gh K CF CL CD CT M H₀ (upd H p o):=by
 refine⟨cY g.same (g.new _ _ hp),g.new,fun a r h=>?_,fun a r' h'=>?_⟩
 ·by_cases z:a=p
  ·exact⟨o,by rw [z,upd_same]⟩
  ·obtain⟨u,e⟩:=g.has a r h
   exact⟨u,by rw [upd_ne z]; exact e⟩
 ·by_cases z:a=p
  ·rw [z,hp] at h'
   cases h'
   rw [z]
   exact h
  ·exact (g.ok a r' h').mono (upd_ne z) k fun _ _ _ z=>z
theorem Gh.role {p:Addr}{r:Role} (g:Gh K CF CL CD CT M H₀ H) (hp:M p=none∨M p=some .mine) (hn:H₀ p=none) (hh:∃ o,H p=some o) (h:Ok1 K CF CL CD CT (setM M p r) H p r):Gh K CF CL CD CT (setM M p r) H₀ H:=by
 refine⟨g.same,fun a r' h'=>?_,fun a r' h'=>?_,fun a r' h'=>?_⟩
 ·by_cases z:a=p
  ·rw [z]; exact hn
  ·rw [gK z] at h'; exact g.new a r' h'
 ·by_cases z:a=p
  ·rw [z]; exact hh
  ·rw [gK z] at h'; exact g.has a r' h'
 ·by_cases z:a=p
  ·rw [z,dO] at h'
   cases h'
   rw [z]
   exact h
  ·rw [gK z] at h'
   refine (g.ok a r' h').mono rfl (Kt.refl _) fun b r2 hr hb=>?_
   by_cases y:b=p
   ·rw [y] at hb
    rcases hp with hp | hp
    ·rw [hp] at hb; cases hb
    ·rw [hp] at hb; cases hb; exact absurd rfl hr
   ·rw [gK y]; exact hb
theorem Go.refl (g:Gh K CF CL CD CT M H₀ H):Go K CF CL CD CT X M M H₀ H H:=⟨fun _ _ z=>z,fun _ _ _=>rfl,Kt.refl _,g,fun _ _ ws _ h=>⟨ws,h,Nat.le_refl _⟩⟩
theorem Go.trans (a:Go K CF CL CD CT X M M' H₀ H H') (b:Go K CF CL CD CT X M' M'' H₀ H' H''):Go K CF CL CD CT X M M'' H₀ H H'' :=
 ⟨fun p r h=>b.ext _ _ (a.ext _ _ h),fun p h x=>(b.mine p (a.ext _ _ h) x).trans (a.mine p h x),a.kt.trans b.kt,b.gh,fun W t ws h1 h2=>by
  obtain⟨w1,e1,l1⟩:=a.wds W t ws h1 h2
  obtain⟨w2,e2,l2⟩:=b.wds W t w1 (a.ext _ _ h1) e1
  exact⟨w2,e2,by lia⟩⟩
theorem Go.weak (a:Go K CF CL CD CT X M M' H₀ H H') (h:∀ p,X p→Y p):Go K CF CL CD CT Y M M' H₀ H H':=⟨a.ext,fun p m y=>a.mine p m fun z=>y (h p z),a.kt,a.gh,a.wds⟩
theorem Go.grow (g:Gh K CF CL CD CT M H₀ H) (S:Same H H'):Go K CF CL CD CT X M M H₀ H H' :=
 ⟨fun _ _ z=>z,fun a h _=>by obtain⟨o,e⟩:=g.has a _ h; exact (S _ _ e).trans e.symm,.of S,g.grow S,fun _ _ ws _ h=>⟨ws,S _ _ h,Nat.le_refl _⟩⟩
theorem Go.rv {t:T}{x:V} (a:Go K CF CL CD CT X M M' H₀ H H') (h:RV K M H t x):RV K M' H' t x:=h.mono a.kt fun p t e=>a.ext p _ e
abbrev mkO (H:Hp) (x dx C:Addr) (fs:List (Str×V)):Hp:=upd (upd H dx (.own x)) x (.ins C dx fs)
theorem j6 {H:Hp}{p:Addr}{a b:HO}:upd (upd H p a) p b=upd H p b:=by
 funext q
 by_cases h:q=p
 ·rw [h,upd_same,upd_same]
 ·rw [upd_ne h,upd_ne h,upd_ne h]
theorem ajf {H:Hp}{p q:Addr}{a b:HO} (h:p≠q):upd (upd H p a) q b=upd (upd H q b) p a:=by
 funext r
 by_cases h1:r=p
 ·rw [h1,upd_ne h,upd_same,upd_same]
 ·by_cases h2:r=q
  ·rw [h2,upd_same,upd_ne (Ne.symm h),upd_same]
  ·rw [upd_ne h2,upd_ne h1,upd_ne h1,upd_ne h2]
variable {x dx C p:Addr}{fs fs':List (Str×V)}{o:HO}
theorem iz:mkO H x dx C fs x=some (.ins C dx fs):=upd_same
theorem ab0:upd (mkO H x dx C fs) x (.ins C dx fs')=mkO H x dx C fs':=j6
theorem jd (hx:H x=none) (hd:H dx=none) (ne:dx≠x):Same H (mkO H x dx C fs):=by
 refine (same_new hd _).trans (same_new ?_ _)
 rw [upd_ne (Ne.symm ne)]
 exact hx
theorem Go.made (g:Gh K CF CL CD CT M H₀ H) (hx:H x=none) (hd:H dx=none) (ne:dx≠x):Go K CF CL CD CT X M (setM M x .mine) H₀ H (mkO H x dx C fs):=by
 have S:=jd (C:=C) (fs:=fs) hx hd ne
 have nM:M x=none:=by
  cases h:M x with
  | none=>rfl
  | some r=>obtain⟨o,e⟩:=g.has x r h; rw [hx] at e; cases e
 have g1:=(g.grow S).role (p:=x) (r:=.mine) (.inl nM) (g.same.free hx) ⟨_,iz⟩ trivial
 refine⟨fun a r h=>?_,fun a h _=>?_,.of S,g1,fun _ _ ws _ h=>⟨ws,S _ _ h,Nat.le_refl _⟩⟩
 ·rw [gK (fun z=>by rw [z,nM] at h; cases h)]; exact h
 ·obtain⟨o,e⟩:=g.has a _ h; exact (S _ _ e).trans e.symm
theorem Go.Qf (g:Gh K CF CL CD CT M H₀ H) (hx:H p=none):Go K CF CL CD CT X M (setM M p .mine) H₀ H (upd H p o):=by
 have S:=same_new hx o
 have nM:M p=none:=by
  cases h:M p with
  | none=>rfl
  | some r=>obtain⟨o,e⟩:=g.has p r h; rw [hx] at e; cases e
 have g1:=(g.grow S).role (p:=p) (r:=.mine) (.inl nM) (g.same.free hx) ⟨_,upd_same⟩ trivial
 refine⟨fun a r h=>?_,fun a h _=>?_,.of S,g1,fun _ _ ws _ h=>⟨ws,S _ _ h,Nat.le_refl _⟩⟩
 ·rw [gK (fun z=>by rw [z,nM] at h; cases h)]; exact h
 ·obtain⟨o,e⟩:=g.has a _ h; exact (S _ _ e).trans e.symm
theorem Go.role {r:Role} (g:Gh K CF CL CD CT M H₀ H) (S:Same H H') (hx:H p=none) (hh:∃ o,H' p=some o) (h:Ok1 K CF CL CD CT (setM M p r) H' p r):Go K CF CL CD CT X M (setM M p r) H₀ H H':=by
 have nM:M p=none:=by
  cases h:M p with
  | none=>rfl
  | some r=>obtain⟨o,e⟩:=g.has p r h; rw [hx] at e; cases e
 have g1:=(g.grow S).role (p:=p) (r:=r) (.inl nM) (g.same.free hx) hh h
 refine⟨fun a r h=>?_,fun a h _=>?_,.of S,g1,fun _ _ ws _ h=>⟨ws,S _ _ h,Nat.le_refl _⟩⟩
 ·rw [gK (fun z=>by rw [z,nM] at h; cases h)]; exact h
 ·obtain⟨o,e⟩:=g.has a _ h; exact (S _ _ e).trans e.symm
theorem Gh.fresh (g:Gh K CF CL CD CT M H₀ H) (hx:H p=none):M p=none:=by
 cases h:M p with
 | none=>rfl
 | some r=>obtain⟨o,e⟩:=g.has p r h; rw [hx] at e; cases e
end
end Sw
namespace Sw
open PySem PySem.Spec PyProof.Rows L2
section
variable (K:PySem.W.Frag) (CF CL CD CT CG CW:Addr)
def UV (H:Hp) (t:T) (x:V):Prop:=TR K H t x∨∃ a dx v ts p,x=.ref a∧H a=some (.ins CL dx (fL v p))∧TR K H (.node ts) v∧p<ts.length∧ts.length≤8000000∧t=.node (ts.drop p)
def FV (M:Mp) (H:Hp) (t:T) (x:V):Prop:=∃ a dx y z u ts,x=.ref a∧H a=some (.ins CF dx (fF y z))∧t=.node (u::ts)∧RV K M H u y∧RV K M H (.node ts) z
def TQ:Sp:=fun vs H Q _=>∃ o dx y z,vs=[.ref o,y,z]∧H o=some (.ins CF dx [])∧Q .non (upd H o (.ins CF dx (fF y z)))
def Tz:Sp:=fun vs H Q _=>∃ (o dx:Addr) (v:V) (p:Nat),vs=[.ref o,v,.int (p:Int)]∧H o=some (.ins CL dx [])∧Q .non (upd H o (.ins CL dx (fL v p)))
def JN:Sp:=fun vs H Q _=>∃ o dx a,vs=[.ref o,.ref a]∧H o=some (.ins CG dx [])∧Q .non (upd H o (.ins CG dx (fG a 0)))
def JL:Sp:=fun vs H Q _=>∃ o dx v,vs=[.ref o,v]∧H o=some (.ins CT dx [])∧∀ W,H W=none→Q .non (upd (upd H W (.lst [])) o (.ins CT dx (fT v W)))
def Ro:Sp:=fun vs H Q _=>∃ x t M H₀,vs=[x]∧Gh K CF CL CD CT M H₀ H∧RV K M H t x∧t.deep≤400∧∀ y H',Same H H'→RV K M H' (ats t.kids 0) y→Q y H'
def Yn:Sp:=fun vs H Q _=>∃ (x:V) (ts:List T) (p:Nat) (M:Mp) (H₀:Hp),vs=[x,.int (p:Int)]∧Gh K CF CL CD CT M H₀ H∧TR K H (.node ts) x∧ts.length≤8000000∧∀ y M' H',Same H H'→Go K CF CL CD CT (fun _=>False) M M' H₀ H H'→RV K M' H' (.node (ts.drop p)) y→Q y H'
def Tt:Sp:=fun vs H Q _=>∃ x t M H₀,vs=[x]∧Gh K CF CL CD CT M H₀ H∧RV K M H t x∧t.deep≤400∧t.kids.length≤8000000∧∀ y M' H',Same H H'→Go K CF CL CD CT (fun _=>False) M M' H₀ H H'→RV K M' H' (aZ t) y→Q y H'
def Tp:Sp:=fun vs H Q _=>∃ x t,vs=[x]∧UV K CL H t x∧∀ y H',Same H H'→TR K H' t y→Q y H'
def Tw:Sp:=fun vs H Q _=>∃ (x:V) (t:T) (M:Mp) (H₀:Hp) (m:Nat),vs=[x,.int (m:Int)]∧Gh K CF CL CD CT M H₀ H∧RV K M H t x∧t.parts≤8000000∧∀ (c:Nat) H',Same H H'→(t.parts≤m→c=t.parts)→(m<t.parts→m<c)→Q (.int (c:Int)) H'
def TV:Sp:=fun vs H Q _=>∃ x t M H₀,vs=[x]∧Gh K CF CL CD CT M H₀ H∧RV K M H t x∧t.parts≤8000000∧∀ y H',Same H H'→TR K H' t y→Q y H'
end
section
variable {K:PySem.W.Frag}{CF CL CD CT CG CW:Addr}{M M':Mp}{H₀ H H':Hp}
theorem uD {t:T}{x:V} (h:TR K H t x):∃ b ys,x=.ref b∧SqT K H b ys∧TRs K H t.kids ys:=by
 cases t with
 | node ts=>exact cQ.mp h
theorem RV.cases {t:T}{x:V} (g:Gh K CF CL CD CT M H₀ H) (h:RV K M H t x):UV K CL H t x∨FV K CF M H t x:=by
 rcases h with h | ⟨a,rfl,h⟩
 ·exact .inl (.inl h)
 ·rcases g.ok a _ h with⟨dx,y,z,u,ts,h1,h2,h3,h4⟩ | ⟨dx,v,ts,p,h1,h2,h3,h4,h5⟩
  ·exact .inr ⟨a,dx,y,z,u,ts,rfl,h1,h2,h3,h4⟩
  ·exact .inl (.inr ⟨a,dx,v,ts,p,rfl,h1,h2,h3,h4,h5⟩)
def WPW (K:PySem.W.Frag) (M:Mp) (H:Hp) (x:V) (m n:Nat) (p:Addr):Nat→Sg→Hp→Prop:=fun μ σ H'=>∃ (ys:List V) (ts:List T) (c:Nat) (o:Option V),
 σ=[some x,some (.int (m:Int)),some (.ref p),some (.int (c:Int)),o]∧Same H H'∧H' p=some (.lst ys)∧aW (RV K M H') ts.reverse ys∧c+T.aD ts=n∧μ=2 * T.aD ts - ts.length
theorem gD {ts:List T}{ys:List V} (k:Kt H H') (h:aW (RV K M H) ts ys):aW (RV K M H') ts ys:=h.imp fun _ _ z=>z.mono k fun _ _ y=>y
theorem Od:∀ {ts:List T}{ys:List V},TRs K H ts ys→aW (RV K M H) ts ys
 | [],_,h=>by rw [bM.mp h]; exact .nil
 | t::ts,_,h=>by
  obtain⟨x,r,rfl,h1,h2⟩:=cL.mp h
  exact .cons (.inl h1) (Od h2)
theorem all_nil {α β:Type}{R:α→β→Prop}{ts:List α} (h:aW R ts.reverse []):ts=[]:=by
 have:=h.length
 rw [List.length_reverse] at this
 exact List.length_eq_zero_iff.mp (by simpa using this.symm)
theorem mU {α β:Type}{R:α→β→Prop}{ts:List α}{ys:List β} (h:aW R ts.reverse ys) (hne:ys≠[]):∃ u ts0 ys0 y,ts=u::ts0∧ys=ys0++[y]∧aW R ts0.reverse ys0∧R u y:=by
 cases ts with
 | nil=>exact absurd (by cases h; rfl) hne
 | cons u ts0 =>
  rw [List.reverse_cons] at h
  obtain⟨ys0,y,rfl,h1,h2⟩:=aW.snoc h
  exact⟨u,ts0,ys0,y,rfl,rfl,h1,h2⟩
theorem lX {α:Type} (xs:List α) (y:α):(xs++[y])[(xs++[y]).length - 1]?=some y:=by simp
theorem lY {α:Type} (xs:List α) (y:α):(xs++[y]).dropLast=xs:=by simp
theorem acC {α β:Type}{R:α→β→Prop}{ts:List α}{ys:List β} (h:aW R ts.reverse ys) (hne:ys≠[]):∃ u ts0 y,ts=u::ts0∧ys[ys.length - 1]?=some y∧aW R ts0.reverse ys.dropLast∧R u y:=by
 obtain⟨u,ts0,ys0,y,rfl,rfl,h1,h2⟩:=mU h hne
 exact⟨u,ts0,y,rfl,lX _ _,by rw [lY]; exact h1,h2⟩
theorem BP:∀ ts:List T,T.aD ts.reverse=T.aD ts
 | []=>rfl
 | t::ts=>by rw [List.reverse_cons,T.cJ,BP ts,T.aF,T.aF,T.aR]; lia
structure Ki (H H':Hp):Prop where
 kt:Kt H H'
 ins:∀ a C dx fs,H a=some (.ins C dx fs)→H' a=some (.ins C dx fs)
theorem Ki.of (S:Same H H'):Ki H H':=⟨.of S,fun a _ _ _ h=>S _ _ h⟩
theorem Ki.lst {p:Addr}{ys:List V}{o:HO} (h:H p=some (.lst ys)):Ki H (upd H p o):=⟨Kt.lst h,fun a _ _ _ e=>by rw [upd_ne (fun z=>by rw [z,h] at e; cases e)]; exact e⟩
theorem UV.mono {t:T}{x:V} (k:Ki H H') (h:UV K CL H t x):UV K CL H' t x:=by
 rcases h with h | ⟨a,dx,v,ts,p,h1,h2,h3,h4,h5,h6⟩
 ·exact .inl (h.mono k.kt)
 ·exact .inr ⟨a,dx,v,ts,p,h1,k.ins _ _ _ _ h2,h3.mono k.kt,h4,h5,h6⟩
theorem UV.ag4 {t:T}{x:V} (O:Own K CF CL CD CT CG CW) (h:UV K CL H t x):(∃ ty,TyOf K H x ty∧PySem.W.kitOne K ty (.ref CF)=some false)∨(∃ a ys,x=.ref a∧SqT K H a ys∧PySem.W.kitOne K (.type "tuple") (.ref CF)=some false):=by
 rcases h with h | ⟨a,dx,v,ts,p,rfl,h2,_⟩
 ·obtain⟨b,ys,rfl,hb,_⟩:=uD h
  exact .inr ⟨b,ys,rfl,hb,O.iTF⟩
 ·exact .inl ⟨_,O.rL.ty h2,O.iLF⟩
theorem fB {n:Nat} (h:n<16000000):n<sizeLine:=Nat.lt_of_lt_of_le h (by decide)
end
end Sw
namespace Sw
open PySem PySem.Spec PyProof.Rows L2
def Bp:List (List T)→List T→T
 | [l],r::_=>.node (l++r.kids)
 | l::l'::ls,r::rs=>Bp ((l'++[.node (l++r.kids)])::ls) rs
 | _,_=>leaf
theorem ac1 (l:List T) (ls:List (List T)) (u:T) (ts:List T) (rs:List T):Bp ([]::l::ls) (u::.node ts::rs)=Bp (l::ls) (.node (u::ts)::rs):=by
 rw [Bp]
 have e:T.node ([]++u.kids)=u:=by cases u; rfl
 rw [e]
 cases ls with
 | nil =>
  show T.node ((l++[u])++ts)=T.node (l++(u::ts))
  rw [List.append_assoc]; rfl
 | cons l' ls =>
  rw [Bp,Bp]
  have:(l++[u])++(T.node ts).kids=l++(T.node (u::ts)).kids:=by
   show (l++[u])++ts=l++(u::ts)
   rw [List.append_assoc]; rfl
  rw [this]
structure AsT (K:PySem.W.Frag) (H₀ H:Hp) (R P:Addr) (ys:List V) (st:List (List T)) (zs:List V):Prop where
 rows:Dv K H₀ H R st ys
 pn:H₀ P=none
 at_:H P=some (.lst zs)
 np:(.ref P:V) ∉ (.ref R:V)::ys
section
variable {K:PySem.W.Frag}{H₀ H H':Hp}{R P:Addr}{ys zs zs':List V}{st:List (List T)}
theorem AsT.grow (h:AsT K H₀ H R P ys st zs) (S:Same H H'):AsT K H₀ H' R P ys st zs:=⟨abz h.rows S,h.pn,S _ _ h.at_,h.np⟩
theorem AsT.PR (h:AsT K H₀ H R P ys st zs):P≠R:=fun z=>h.np (by rw [z]; exact List.mem_cons_self)
theorem AsT.place (h:AsT K H₀ H R P ys st zs):AsT K H₀ (upd H P (.lst zs')) R P ys st zs':=⟨abB h.rows (Kt.lst h.at_) h.pn h.np,h.pn,upd_same,h.np⟩
theorem AsT.enter (h:AsT K H₀ H R P ys st zs) {q:Addr} (hq:H q=none):AsT K H₀ (upd (upd H q (.lst [])) R (.lst (ys++[.ref q]))) R P (ys++[.ref q]) ([]::st) zs:=by
 have nPq:P≠q:=ne_of_none h.at_ hq
 refine⟨abA h.rows hq,h.pn,?_,fun z=>?_⟩
 ·rw [upd_ne h.PR,upd_ne nPq]; exact h.at_
 ·rcases List.mem_cons.mp z with z | z
  ·exact h.PR (V.ref.inj z)
  ·rcases List.mem_append.mp z with z | z
   ·exact h.np (List.mem_cons_of_mem _ z)
   ·exact nPq (V.ref.inj (List.mem_singleton.mp z))
theorem AsT.add {r:List T}{rs:List (List T)}{t:T}{x:V} (h:AsT K H₀ H R P ys (r::rs) zs) (ht:TR K H t x) :
  ∃ (ys0:List V) (a:Addr) (xs:List V),ys=ys0++[.ref a]∧H a=some (.lst xs)∧xs.length=r.length∧AsT K H₀ (upd H a (.lst (xs++[x]))) R P ys ((r++[t])::rs) zs:=by
 have hr:=h.rows.rows
 rw [List.reverse_cons] at hr
 obtain⟨ys0,y,rfl,h1,a,xs,rfl,ha0,ha,hta⟩:=aW.snoc hr
 have nd:=h.rows.nd
 have ndp:=(List.nodup_cons.mp nd).1
 have ndy:=(List.nodup_cons.mp nd).2
 have na:(.ref a:V) ∉ ys0:=fun z=>(List.nodup_append.mp ndy).2.2 _ z _ (by simp) rfl
 have nRa:R≠a:=fun z=>ndp (by rw [z]; simp)
 have nPa:P≠a:=fun z=>h.np (by rw [z]; simp)
 have k:=Kt.lst (o:=.lst (xs++[x])) ha
 refine⟨ys0,a,xs,rfl,ha,hta.length,⟨h.rows.new,cY h.rows.same ha0,by rw [upd_ne nRa]; exact h.rows.at_,?_,nd⟩,h.pn,by rw [upd_ne nPa]; exact h.at_,h.np⟩
 rw [List.reverse_cons]
 exact aW.append (wH k h1 na) (aW.one ⟨a,_,rfl,ha0,upd_same,TRs.append (hta.mono k) (fQ (ht.mono k))⟩)
theorem AsT.shut {r:List T}{rs:List (List T)} (h:AsT K H₀ H R P ys (r::rs) zs) :
  ∃ (ys0:List V) (a:Addr) (xs:List V),ys=ys0++[.ref a]∧R≠a∧H a=some (.lst xs)∧TRs K H r xs∧AsT K H₀ (upd H R (.lst ys0)) R P ys0 rs zs:=by
 have hr:=h.rows.rows
 rw [List.reverse_cons] at hr
 obtain⟨ys0,y,rfl,h1,a,xs,rfl,ha0,ha,hta⟩:=aW.snoc hr
 have nd:=h.rows.nd
 have ndp:=(List.nodup_cons.mp nd).1
 have ndy:=(List.nodup_cons.mp nd).2
 have nRa:R≠a:=fun z=>ndp (by rw [z]; simp)
 have k:=Kt.lst (o:=.lst ys0) h.rows.at_
 refine⟨ys0,a,xs,rfl,nRa,ha,hta,⟨h.rows.new,cY h.rows.same h.rows.new,upd_same,wH k h1 fun z=>ndp (by simp [z]),List.nodup_cons.mpr ⟨fun z=>ndp (by simp [z]),(List.nodup_append.mp ndy).1⟩⟩,h.pn,by rw [upd_ne h.PR]; exact h.at_,fun z=>h.np ?_⟩
 rcases List.mem_cons.mp z with z | z
 ·rw [z]; exact List.mem_cons_self
 ·exact List.mem_cons_of_mem _ (List.mem_append_left _ z)
theorem afL {α:Type} (xs:List α) (y:α):ixN (xs++[y]).length (-1)=some xs.length:=by
 unfold ixN
 have hl:(xs++[y]).length=xs.length+1:=by simp
 rw [if_neg (by decide),if_pos (by rw [hl]; lia),hl,show ((-1:Int)+((xs.length+1:Nat):Int)).toNat=xs.length by lia]
theorem ade {α:Type} (xs:List α) (y z:α):(xs++[y]).set xs.length z=xs++[z]:=by simp
end
end Sw
namespace Sw
open PySem PySem.Spec PyProof.Rows L2
def rT (k:Nat) (t:T):Nat:=if k=7 then (if t.kids=[] then 8 else 7) else if k=8 then (if t.kids=[] then 10 else 9) else if k=9 then 11 else k
section
variable (K:PySem.W.Frag) (CF CL CD CT CG CW:Addr)
def Yl:Sp:=fun vs H Q _=>∃ (k:Nat) (x:V) (t:T) (M:Mp) (H₀:Hp),vs=[.int (k:Int),x]∧Gh K CF CL CD CT M H₀ H∧RV K M H t x∧t.deep≤400∧∀ H',Same H H'→Q (.int (rT k t:Nat)) H'
def W7 (M:Mp) (w:T) (y n:V):Prop:=aH w=7→∃ ay an,y=.ref ay∧n=.ref an∧vC M ay (ats (aZ w).kids 0)∧vC M an (aZ (aZ w))
def W8 (M:Mp) (w:T) (b:V):Prop:=aH w=8→∃ ab,b=.ref ab∧vC M ab (aZ w)
def Tn:Sp:=fun vs H Q _=>∃ (o dx:Addr) (x:V) (w:T) (M:Mp) (H₀:Hp),vs=[.ref o,x]∧Gh K CF CL CD CT M H₀ H∧M o=some .mine∧H o=some (.ins CD dx [])∧TR K H w x∧w.deep≤400 ∧
 ∀ M' H' v y n b,Go K CF CL CD CT (fun a=>a=o) M M' H₀ H H'→(∀ c u,H c=some u→c≠o→H' c=some u)→H' o=some (.ins CD dx (fD (aH w) v y n b .non))→TR K H' (aZ w) v→W7 M' w y n→W8 M' w b→Q .non H'
def Yo:Sp:=fun vs H Q _=>∃ (b:Addr) (w:T) (M:Mp) (H₀:Hp),vs=[.ref b]∧Gh K CF CL CD CT M H₀ H∧M b=some (.word w)∧(aZ w).parts≤8000000∧∀ H',Go K CF CL CD CT (fun _=>False) M M H₀ H H'→Q (.int ((aZ w).parts:Nat)) H'
def Ti:Sp:=fun vs H Q _=>∃ (a:Addr) (t:T) (W:Addr) (p:Nat) (M:Mp) (H₀:Hp) (ws:List V),vs=[.ref a,.int (p:Int)]∧Gh K CF CL CD CT M H₀ H∧M a=some (.text t W)∧H W=some (.lst ws)∧p≤ws.length∧p≤t.kids.length∧t.deep≤400∧t.kids.length≤8000000 ∧
 (p=t.kids.length→Q .non H)∧∀ w,t.kids[p]?=some w→∀ b M' H',Go K CF CL CD CT (fun _=>False) M M' H₀ H H'→M' b=some (.word w)→(∀ ws',H' W=some (.lst ws')→p+1≤ws'.length)→Q (.ref b) H'
end
section
variable {K:PySem.W.Frag}{CF CL CD CT CG CW:Addr}{M M' M'':Mp}{H₀ H H' H1:Hp}{X:Addr→Prop}
theorem Go.oZ {p:Addr}{u:HO} (a:Go K CF CL CD CT X M M' H₀ H H1) (hm:M' p=some .mine) (hX:X p) (k:Kt H1 (upd H1 p u)):Go K CF CL CD CT X M M' H₀ H (upd H1 p u) :=
 ⟨a.ext,fun q h x=>by rw [upd_ne (fun z:q=p=>x (by rw [z]; exact hX))]; exact a.mine q h x,a.kt.trans k,a.gh.mut hm k,fun W t ws h1 h2=>by
  obtain⟨ws',e,l⟩:=a.wds W t ws h1 h2
  have nW:W≠p:=fun z=>by have:=a.ext _ _ h1; rw [z,hm] at this; cases this
  exact⟨ws',by rw [upd_ne nW]; exact e,l⟩⟩
theorem Go.newText {a da W:Addr}{t:T}{v:V} (g:Gh K CF CL CD CT M H₀ H) (tv:TR K H t v) (ha:H a=none) (hd:H da=none) (ne:da≠a) (hW:mkO H a da CT [] W=none) :
  Go K CF CL CD CT X M (setM (setM M W (.words t)) a (.text t W)) H₀ H (upd (upd (mkO H a da CT []) W (.lst [])) a (.ins CT da (fT v W)))∧Same H (upd (upd (mkO H a da CT []) W (.lst [])) a (.ins CT da (fT v W)))∧vC (setM (setM M W (.words t)) a (.text t W)) a t:=by
 have S1:=jd (C:=CT) (fs:=[]) ha hd ne
 have hW0:H W=none:=S1.free hW
 have naW:a≠W:=fun z=>by rw [← z,iz] at hW; cases hW
 have S2:=S1.trans (same_new hW (.lst []))
 have S3:Same H (upd (upd (mkO H a da CT []) W (.lst [])) a (.ins CT da (fT v W))):=cY S2 ha
 have hWl:upd (upd (mkO H a da CT []) W (.lst [])) a (.ins CT da (fT v W)) W=some (.lst []):=by rw [upd_ne (Ne.symm naW),upd_same]
 have nMa:=g.fresh ha
 have nMW:=g.fresh hW0
 have g1:Gh K CF CL CD CT (setM M W (.words t)) H₀ (upd (upd (mkO H a da CT []) W (.lst [])) a (.ins CT da (fT v W))) :=
  (g.grow S3).role (p:=W) (.inl nMW) (g.same.free hW0) ⟨_,hWl⟩ ⟨[],hWl,Nat.zero_le _,fun j x h=>by simp at h⟩
 have g2:Gh K CF CL CD CT (setM (setM M W (.words t)) a (.text t W)) H₀ (upd (upd (mkO H a da CT []) W (.lst [])) a (.ins CT da (fT v W))) :=
  g1.role (p:=a) (.inl (by rw [gK naW]; exact nMa)) (g.same.free ha) ⟨_,upd_same⟩ ⟨da,v,upd_same,tv.mono (.of S3),by rw [gK (Ne.symm naW),dO]⟩
 refine⟨⟨fun p r h=>?_,fun p h _=>?_,.of S3,g2,fun _ _ ws _ h=>⟨ws,S3 _ _ h,Nat.le_refl _⟩⟩,S3,W,dO⟩
 ·rw [gK (fun z=>by rw [z,nMa] at h; cases h),gK (fun z=>by rw [z,nMW] at h; cases h)]; exact h
 ·obtain⟨o,e⟩:=g.has p _ h; exact (S3 _ _ e).trans e.symm
theorem vC.ext {a:Addr}{t:T} (h:vC M a t) (G:Go K CF CL CD CT X M M' H₀ H H'):vC M' a t:=by obtain⟨W,e⟩:=h; exact⟨W,G.ext _ _ e⟩
def d1 (k:V):List (Str×V):=[("kind",k)]
def d2 (k v:V):List (Str×V):=[("kind",k),("load",v)]
def d3 (k v y:V):List (Str×V):=[("kind",k),("load",v),("yes",y)]
def d4 (k v y n:V):List (Str×V):=[("kind",k),("load",v),("yes",y),("no",n)]
def d5 (k v y n b:V):List (Str×V):=[("kind",k),("load",v),("yes",y),("no",n),("body",b)]
theorem pd1 (k:V):putF "kind" k []=d1 k:=rfl
theorem pd2 (k v:V):putF "load" v (d1 k)=d2 k v:=by unfold d1 d2; rw [bQ (by decide +kernel)]; rfl
theorem pd3 (k v y:V):putF "yes" y (d2 k v)=d3 k v y:=by unfold d2 d3; rw [bQ (by decide +kernel),bQ (by decide +kernel)]; rfl
theorem pd4 (k v y n:V):putF "no" n (d3 k v y)=d4 k v y n:=by unfold d3 d4; rw [bQ (by decide +kernel),bQ (by decide +kernel),bQ (by decide +kernel)]; rfl
theorem pd5 (k v y n b:V):putF "body" b (d4 k v y n)=d5 k v y n b:=by unfold d4 d5; rw [bQ (by decide +kernel),bQ (by decide +kernel),bQ (by decide +kernel),bQ (by decide +kernel)]; rfl
theorem pd6 (k:Nat) (v y n b z:V):putF "size" z (d5 (.int (k:Int)) v y n b)=fD k v y n b z:=by unfold d5 fD; rw [bQ (by decide +kernel),bQ (by decide +kernel),bQ (by decide +kernel),bQ (by decide +kernel),bQ (by decide +kernel)]; rfl
variable {k:Nat}{v y n b z u:V}
theorem pdY:putF "yes" u (fD k v y n b z)=fD k v u n b z:=by unfold fD; rw [bQ (by decide +kernel),bQ (by decide +kernel),vR]
theorem pdN:putF "no" u (fD k v y n b z)=fD k v y u b z:=by unfold fD; rw [bQ (by decide +kernel),bQ (by decide +kernel),bQ (by decide +kernel),vR]
theorem pdB:putF "body" u (fD k v y n b z)=fD k v y n u z:=by unfold fD; rw [bQ (by decide +kernel),bQ (by decide +kernel),bQ (by decide +kernel),bQ (by decide +kernel),vR]
theorem pdS:putF "size" u (fD k v y n b z)=fD k v y n b u:=by unfold fD; rw [bQ (by decide +kernel),bQ (by decide +kernel),bQ (by decide +kernel),bQ (by decide +kernel),bQ (by decide +kernel),vR]
theorem ldK:(fD k v y n b z).lookup ("kind":Str)=some (.int (k:Int)):=dZ _ _ _
theorem ldL:(fD k v y n b z).lookup ("load":Str)=some v:=(cC (by decide +kernel) _ _).trans (dZ _ _ _)
theorem ldY:(fD k v y n b z).lookup ("yes":Str)=some y:=(cC (by decide +kernel) _ _).trans ((cC (by decide +kernel) _ _).trans (dZ _ _ _))
theorem ldN:(fD k v y n b z).lookup ("no":Str)=some n:=(cC (by decide +kernel) _ _).trans ((cC (by decide +kernel) _ _).trans ((cC (by decide +kernel) _ _).trans (dZ _ _ _)))
theorem ldB:(fD k v y n b z).lookup ("body":Str)=some b:=(cC (by decide +kernel) _ _).trans ((cC (by decide +kernel) _ _).trans ((cC (by decide +kernel) _ _).trans ((cC (by decide +kernel) _ _).trans (dZ _ _ _))))
theorem ldS:(fD k v y n b z).lookup ("size":Str)=some z:=(cC (by decide +kernel) _ _).trans ((cC (by decide +kernel) _ _).trans ((cC (by decide +kernel) _ _).trans ((cC (by decide +kernel) _ _).trans ((cC (by decide +kernel) _ _).trans (dZ _ _ _)))))
theorem ame {m:Str} (h1:(m == "kind")=false) (h2:(m == "load")=false) (h3:(m == "yes")=false) (h4:(m == "no")=false) (h5:(m == "body")=false) (h6:(m == "size")=false):(fD k v y n b z).lookup m=none :=
 (cC h1 _ _).trans ((cC h2 _ _).trans ((cC h3 _ _).trans ((cC h4 _ _).trans ((cC h5 _ _).trans ((cC h6 _ _).trans rfl)))))
theorem YT {CG CW:Addr}{m:Nat} (O:Own K CF CL CD CT CG CW) (g:Gh K CF CL CD CT M H₀ H) {t:T}{x:V}{p:Addr} (hx:RV K M H t x) (hd:t.deep≤m) (hp:H p=none) {Q:VK} (q:Q (.bl (decide (t.kids=[]))) (upd H p (.tup []))):abD K m x (.ref p) (upd H p (.tup [])) Q:=by
 have S:=same_new hp (.tup [])
 rcases hx.cases g with h | ⟨a,dx,y,z,u,ts,rfl,ha,rfl,_,_⟩
 ·rcases h with h | ⟨a,dx,v,ts,j,rfl,ha,_,hj,_,rfl⟩
  ·refine .inl ⟨t,.node [],h.mono (.of S),(cA (K:=K) (ts:=[]) hp (bM.mpr rfl)).2,hd,?_⟩
   have e:T.beq t (.node [])=decide (t.kids=[]):=by
    by_cases z:t.kids=[]
    ·rw [decide_eq_true z]
     exact (T.beq_iff _ _).mpr (by cases t; exact congrArg T.node z)
    ·rw [decide_eq_false z]
     exact Bool.eq_false_iff.mpr fun y=>z (by rw [(T.beq_iff _ _).mp y]; rfl)
   rw [e]
   exact q
  ·refine .inr ⟨a,CL,dx,_,p,[],rfl,S _ _ ha,O.rL,rfl,upd_same,?_⟩
   have z:¬ (T.node (ts.drop j)).kids=[]:=fun z=>by
    have:(ts.drop j).length=0:=by rw [show ts.drop j=[] from z]; rfl
    rw [List.length_drop] at this
    lia
   rw [← decide_eq_false z]
   exact q
 ·refine .inr ⟨a,CF,dx,_,p,[],rfl,S _ _ ha,O.rF,rfl,upd_same,?_⟩
  have z:¬ (T.node (u::ts)).kids=[]:=fun z=>by cases z
  rw [← decide_eq_false z]
  exact q
theorem aah {tc:TT}{tb u:TS}{D:Ends}{σ:L2.St}{H:Hp} (P:L2.St→Hp→Prop) (k:∀ σ' H',P σ' H'→u D σ' H')
  (h:∀ A B:Hp→Prop,(∀ H1,(∀ N:L2.St→Hp→Prop,(∀ σ' H',P σ' H'→N σ' H')→tb { D with nx:=N } σ H1)→A H1)→(∀ H1,P σ H1→B H1)→tc σ H (fun b H1=>if b=true then A H1 else B H1)) :
  tSeq (tIfS tc tb tNext) u D σ H :=
 h (fun H1=>tb { D with nx:=u D } σ H1) (fun H1=>tNext { D with nx:=u D } σ H1) (fun H1 r=>r _ k) (fun H1 p=>k _ _ p)
theorem Ry {t:T}:∀ {ts:List T},t∈ts→t.deep+1≤T.cj ts
 | u::us,h=>by
  rw [T.aO]
  rcases List.mem_cons.mp h with rfl | h
  ·lia
  ·have:=Ry h; lia
theorem aec {t w:T}{p:Nat} (h:t.kids[p]?=some w):w.deep+1≤t.deep:=by
 cases t with
 | node ts =>
  rw [T.aP]
  exact Ry (List.mem_of_getElem? h)
theorem aat (ts:List T) (k:Nat):T.cj (ts.drop k)≤T.cj ts:=by
 have:T.cj ts=max (T.cj (ts.take k)) (T.cj (ts.drop k)):=by rw [← T.iu,List.take_append_drop]
 lia
theorem aci (w:T):(aZ w).deep≤w.deep:=by
 cases w with
 | node ts =>
  show (T.node (ts.drop 1)).deep≤_
  rw [T.aP,T.aP]
  exact aat ts 1
end
end Sw
namespace Sw
open PySem PySem.Spec PyProof.Rows L2
section
variable (K:PySem.W.Frag) (CF CL CD CT CG CW:Addr)
def abm:Sp:=fun vs H Q _=>∃ (k:Nat) (y:V) (S:Addr) (l:T) (s:List T) (rows:List V) (M:Mp) (H₀:Hp),vs=[.int (k:Int),y,.ref S]∧Gh K CF CL CD CT M H₀ H∧M S=some .mine∧H S=some (.lst rows)∧aW (RV K M H) s.reverse rows∧TR K H l y∧looks k≤s.length∧B 395 8000010 (.node s)∧(∀ t∈s,t.kids.length≤8000000) ∧
 ∀ M' H' rows',Go K CF CL CD CT (fun a=>a=S) M M' H₀ H H'→H' S=some (.lst rows')→aW (RV K M' H') (Bm k l s).reverse rows'→Q .non H'
def pJ (M:Mp) (H:Hp) (t:T) (x:V):Prop:=∃ g dx a W p tt,x=.ref g∧M g=some .mine∧H g=some (.ins CG dx (fG a p))∧M a=some (.text tt W)∧p≤tt.kids.length∧(∃ ws,H W=some (.lst ws)∧p≤ws.length)∧t=.node (tt.kids.drop p)∧B 389 8000000 tt
structure WkX (M:Mp) (H₀ H:Hp) (o dx G S N:Addr) (gs rows:List V) (tx s:List T) (num:List Nat) (b:Nat):Prop where
 gh:Gh K CF CL CD CT M H₀ H
 ob:H o=some (.ins CW dx (fW G S N b))
 mo:M o=some .mine
 mG:M G=some .mine
 mS:M S=some .mine
 mN:M N=some .mine
 hG:H G=some (.lst gs)
 hS:H S=some (.lst rows)
 hN:H N=some (.lst (num.map nv))
 gos:aW (pJ CG M H) tx.reverse gs
 sts:aW (RV K M H) s.reverse rows
 n15:num.length=15
 dGS:G≠S
 dGN:G≠N
 dSN:S≠N
 nd:gs.Nodup
def Wk (M:Mp) (H₀ H:Hp) (o:Addr) (tx s:List T) (num:List Nat) (b:Nat):Prop:=∃ dx G S N gs rows,WkX K CF CL CD CT CG CW M H₀ H o dx G S N gs rows tx s num b
def Ou:Sp:=fun vs H Q _=>∃ o M H₀ tx s num b,vs=[.ref o]∧Wk K CF CL CD CT CG CW M H₀ H o tx s num b∧Q (.bl (decide (tx=[]))) H
def Zr:Sp:=fun vs H Q _=>∃ o M H₀ tx s num b,vs=[.ref o]∧Wk K CF CL CD CT CG CW M H₀ H o tx s num b∧∀ x H',Same H H'→RV K M H' (ats s 0) x→Q x H'
def Oo:Sp:=fun vs H Q _=>∃ o M H₀ tx s num b,vs=[.ref o]∧Wk K CF CL CD CT CG CW M H₀ H o tx s num b∧∀ c H',Same H H'→SqT K H' c (num.map nv)→Q (.ref c) H'
def Tj:Sp:=fun vs H Q _=>∃ (o dx:Addr) (x:V) (tx s:List T) (b:Nat) (M:Mp) (H₀:Hp),vs=[.ref o,x,.int (b:Int)]∧Gh K CF CL CD CT M H₀ H∧M o=some .mine∧H o=some (.ins CW dx [])∧TR K H (ZJ tx s) x∧BX tx∧B 390 8000000 (.node s)∧∀ M' H',Wk K CF CL CD CT CG CW M' H₀ H' o tx s fX b→Q .non H'
def MvT (k:Nat) (w:T) (ws:List T) (rest sp:List T) (num:List Nat) (tx' s':List T) (lB:List Nat):Prop :=
 (k=9∧aH w=8∧tx'=aZ w::.node (w::ws)::rest∧s'=sp∧lB=num.set 14 (num.getD 14 0+(aZ w).parts)) ∨
 (k=7∧aH w=7∧tx'=ats (aZ w).kids 0::.node ws::rest∧s'=sp∧lB=num) ∨
 (k=8∧aH w=7∧tx'=aZ (aZ w)::.node ws::rest∧s'=sp∧lB=num) ∨
 ((k≤6∨k=10∨k=11)∧tx'=.node ws::rest∧s'=Bm k (aZ w) sp∧lB=num)
def Rdy (M:Mp) (H:Hp) (g:Addr) (w:T) (ws:List T):Prop:=∃ dg a W j tt wl,M g=some .mine∧H g=some (.ins CG dg (fG a j))∧M a=some (.text tt W)∧H W=some (.lst wl)∧j+1≤wl.length∧tt.kids.drop j=w::ws∧B 389 8000000 tt
def abp:Sp:=fun vs H Q _=>∃ (o dx G S N:Addr) (gs0:List V) (g:Addr) (rows:List V) (p:T) (rest sp:List T) (num:List Nat) (b k:Nat) (wv:V) (M:Mp) (H₀:Hp),vs=[.ref o,.int (k:Int),.ref g,wv]∧WkX K CF CL CD CT CG CW M H₀ H o dx G S N (gs0++[.ref g]) rows (p::rest) sp num b∧looks k≤sp.length∧B 395 8000010 (.node sp)∧(∀ t∈sp,t.kids.length≤8000000)∧rest.length≤8000000 ∧
 ((k=12∧∀ M' H',Wk K CF CL CD CT CG CW M' H₀ H' o rest sp num b→Q .non H') ∨ ∃ w ws bw tx' s' lB,p=.node (w::ws)∧wv=.ref bw∧M bw=some (.word w)∧Rdy CG M H g w ws∧MvT k w ws rest sp num tx' s' lB∧BX tx'∧(aZ w).parts≤8000000∧∀ M' H',Wk K CF CL CD CT CG CW M' H₀ H' o tx' s' lB b→Q .non H')
def Yi:Sp:=fun vs H Q _=>∃ o M H₀ tx s num b,vs=[.ref o]∧Wk K CF CL CD CT CG CW M H₀ H o tx s num b∧tx≠[]∧BX tx∧B 390 8000000 (.node s)∧(bC tx s≤b→BX (onward tx s).1∧B 390 8000000 (.node (onward tx s).2.1)) ∧
 (b<bC tx s→∀ M' H',Wk K CF CL CD CT CG CW M' H₀ H' o tx s num b→Q (.bl false) H') ∧
 (bC tx s≤b→∀ M' H',Wk K CF CL CD CT CG CW M' H₀ H' o (onward tx s).1 (onward tx s).2.1 (dF num (lF tx s)) (b - bC tx s)→Q (.bl true) H')
end
section
variable {K:PySem.W.Frag}{CF CL CD CT CG CW:Addr}{M M':Mp}{H₀ H H':Hp}{X:Addr→Prop}
theorem pJ.go {t:T}{x:V} (G:Go K CF CL CD CT X M M' H₀ H H') (hX:∀ g,x=.ref g→¬ X g) (g0:Gh K CF CL CD CT M H₀ H) (h:pJ CG M H t x):pJ CG M' H' t x:=by
 obtain⟨g,dx,a,W,p,tt,rfl,h1,h2,h3,h4,⟨ws,h5,h6⟩,h7,h8⟩:=h
 obtain⟨_,_,_,_,h9⟩:=g0.ok a _ h3
 obtain⟨ws',e1,e2⟩:=G.wds W _ ws h9 h5
 exact⟨g,dx,a,W,p,tt,rfl,G.ext _ _ h1,(G.mine g h1 (hX g rfl)).trans h2,G.ext _ _ h3,h4,⟨ws',e1,by lia⟩,h7,h8⟩
variable {o dx G S N:Addr}{gs rows:List V}{tx s:List T}{num:List Nat}{b:Nat}
theorem WkX.go (w:WkX K CF CL CD CT CG CW M H₀ H o dx G S N gs rows tx s num b) (g:Go K CF CL CD CT (fun _=>False) M M' H₀ H H'):WkX K CF CL CD CT CG CW M' H₀ H' o dx G S N gs rows tx s num b :=
 ⟨g.gh,(g.mine o w.mo id).trans w.ob,g.ext _ _ w.mo,g.ext _ _ w.mG,g.ext _ _ w.mS,g.ext _ _ w.mN,(g.mine G w.mG id).trans w.hG,(g.mine S w.mS id).trans w.hS,(g.mine N w.mN id).trans w.hN,w.gos.imp fun _ _ h=>h.go g (fun _ _=>id) w.gh,w.sts.imp fun _ _ h=>g.rv h,w.n15,w.dGS,w.dGN,w.dSN,w.nd⟩
theorem WkX.grow (w:WkX K CF CL CD CT CG CW M H₀ H o dx G S N gs rows tx s num b) (S1:Same H H'):WkX K CF CL CD CT CG CW M H₀ H' o dx G S N gs rows tx s num b:=w.go (.grow w.gh S1)
variable {A B C:Addr}{c:Nat}
theorem lwG:(fW A B C c).lookup ("goings":Str)=some (.ref A):=dZ _ _ _
theorem lwS:(fW A B C c).lookup ("stack":Str)=some (.ref B):=(cC (by decide +kernel) _ _).trans (dZ _ _ _)
theorem lwN:(fW A B C c).lookup ("numbers":Str)=some (.ref C):=(cC (by decide +kernel) _ _).trans ((cC (by decide +kernel) _ _).trans (dZ _ _ _))
theorem lwL:(fW A B C c).lookup ("left":Str)=some (.int (c:Int)):=(cC (by decide +kernel) _ _).trans ((cC (by decide +kernel) _ _).trans ((cC (by decide +kernel) _ _).trans (dZ _ _ _)))
theorem Ci {m:Str} (h1:(m == "goings")=false) (h2:(m == "stack")=false) (h3:(m == "numbers")=false) (h4:(m == "left")=false):(fW A B C c).lookup m=none:=(cC h1 _ _).trans ((cC h2 _ _).trans ((cC h3 _ _).trans ((cC h4 _ _).trans rfl)))
theorem pwL (d:Nat):putF "left" (.int (d:Int)) (fW A B C c)=fW A B C d:=by unfold fW; rw [bQ (by decide +kernel),bQ (by decide +kernel),bQ (by decide +kernel),vR]
theorem lgT {a:Addr}{p:Nat}:(fG a p).lookup ("text":Str)=some (.ref a):=dZ _ _ _
theorem lgP {a:Addr}{p:Nat}:(fG a p).lookup ("place":Str)=some (.int (p:Int)):=(cC (by decide +kernel) _ _).trans (dZ _ _ _)
theorem pgP {a:Addr}{p q:Nat}:putF "place" (.int (q:Int)) (fG a p)=fG a q:=by unfold fG; rw [bQ (by decide +kernel),vR]
theorem amd {v:V}{W:Addr}{m:Str} (h1:(m == "tree")=false) (h2:(m == "words")=false):(fT v W).lookup m=none:=(cC h1 _ _).trans ((cC h2 _ _).trans rfl)
theorem G9 {α β:Type}{R:α→β→Prop}{ts:List α}{ys:List β} (h:aW R ts.reverse ys) (hl:2≤ts.length):∃ a b ts0 ys0 y z,ts=a::b::ts0∧ys=ys0++[z]++[y]∧aW R ts0.reverse ys0∧R a y∧R b z:=by
 have hyl:=h.length
 rw [List.length_reverse] at hyl
 obtain⟨a,ts1,ys1,y,rfl,rfl,h1,h2⟩:=mU h (by rintro rfl; simp at hyl; lia)
 have Vn:=h1.length
 rw [List.length_reverse] at Vn
 simp only [List.length_cons] at hl
 obtain⟨b,ts0,ys0,z,rfl,rfl,h3,h4⟩:=mU h1 (by rintro rfl; simp at Vn; lia)
 exact⟨a,b,ts0,ys0,y,z,rfl,rfl,h3,h2,h4⟩
theorem acD {α β:Type}{R:α→β→Prop}{ts:List α}{ys:List β} (h:aW R ts.reverse ys) (hl:3≤ts.length):∃ a b c ts0 ys0 y z w,ts=a::b::c::ts0∧ys=ys0++[w]++[z]++[y]∧aW R ts0.reverse ys0∧R a y∧R b z∧R c w:=by
 obtain⟨a,b,ts1,ys1,y,z,rfl,rfl,h1,h2,h3⟩:=G9 h (by lia)
 have Vn:=h1.length
 rw [List.length_reverse] at Vn
 simp only [List.length_cons] at hl
 obtain⟨c,ts0,ys0,w,rfl,rfl,h4,h5⟩:=mU h1 (by rintro rfl; simp at Vn; lia)
 exact⟨a,b,c,ts0,ys0,y,z,w,rfl,rfl,h4,h2,h3,h5⟩
theorem si2 {α:Type} (xs:List α) (z y:α):seqIndex? (-2) (xs++[z]++[y]).length=some xs.length:=by
 have hl:(xs++[z]++[y]).length=xs.length+2:=by simp
 rw [hl]
 have:=(ixN_seq (n:=xs.length+2) (i:=-2) (j:=xs.length) (by unfold ixN; rw [if_neg (by decide),if_pos (by lia)]; congr 1; lia)).1
 exact this
theorem si3 {α:Type} (xs:List α) (w z y:α):seqIndex? (-3) (xs++[w]++[z]++[y]).length=some xs.length:=by
 have hl:(xs++[w]++[z]++[y]).length=xs.length+3:=by simp
 rw [hl]
 have:=(ixN_seq (n:=xs.length+3) (i:=-3) (j:=xs.length) (by unfold ixN; rw [if_neg (by decide),if_pos (by lia)]; congr 1; lia)).1
 exact this
theorem er2 {α:Type} (xs:List α) (z y:α):(xs++[z]++[y]).eraseIdx xs.length=xs++[y]:=by
 rw [List.append_assoc,List.eraseIdx_append_of_length_le (Nat.le_refl _),Nat.sub_self]
 rfl
theorem er3 {α:Type} (xs:List α) (w z y:α):(xs++[w]++[z]++[y]).eraseIdx xs.length=xs++[z]++[y]:=by
 rw [List.append_assoc,List.append_assoc,List.eraseIdx_append_of_length_le (Nat.le_refl _),Nat.sub_self]
 simp
theorem gt2 {α:Type} (xs:List α) (z y:α):(xs++[z]++[y])[xs.length]?=some z:=by simp
theorem gt3 {α:Type} (xs:List α) (w z y:α):(xs++[w]++[z]++[y])[xs.length]?=some w:=by simp
theorem Go.list {p:Addr}{xs ys:List V} (g:Gh K CF CL CD CT M H₀ H) (hm:M p=some .mine) (h:H p=some (.lst xs)):Go K CF CL CD CT (fun a=>a=p) M M H₀ H (upd H p (.lst ys)):=Go.oZ (.refl g) hm rfl (Kt.lst h)
end
end Sw
namespace Sw
open PySem PySem.Spec PyProof.Rows L2
section
variable {K:PySem.W.Frag}{H:Hp}{a:Addr}{xs:List V}{σ:Sg}{js:List Nat}{te:TE}{Q:VK}
theorem afF (J:Addr→Nat→List V→Hp→Prop) (hz:xs.length≤sizeLine) (h0:∀ D,H D=none→J D 0 [] (upd H D (.lst [])))
  (hD:∀ D i ys H',J D i ys H'→H' D=some (.lst ys)∧ys.length=i∧SqT K H' a xs)
  (hte:∀ D i x ys H' (R:VK),xs.reverse[i]?=some x→J D i ys H'→(∀ y H3,H3 D=some (.lst ys)→J D (i+1) (ys++[y]) (upd H3 D (.lst (ys++[y])))→R y H3)→te (some x::frv σ js) H' R)
  (q:∀ D ys H',J D xs.length ys H'→Q (.ref D) H'):yQ (SwR.aaT K a xs.length) js te σ Q H:=by
 intro D hDn
 refine⟨fun i m ys H'=>m=xs.length - i∧i≤xs.length∧J D i ys H',⟨xs.length,by lia,Nat.zero_le _,h0 D hDn⟩,?_⟩
 rintro i m ys H' ⟨rfl,hi,hj⟩
 obtain⟨h1,h2,h3⟩:=hD D i ys H' hj
 refine⟨h1,?_⟩
 by_cases hlt:i<xs.length
 ·refine .inr ⟨⟨xs,xs.reverse[i]'(by simpa using hlt),h3,rfl,List.getElem?_eq_getElem (by simpa using hlt)⟩,fun x H2 y=>?_⟩
  obtain⟨e,y⟩:=y
  subst e
  exact hte D i x ys _ _ (y xs h3) hj fun y H3 g1 g2=>⟨g1,by lia,xs.length - (i+1),by lia,rfl,hlt,g2⟩
 ·have e:i=xs.length:=by lia
  subst e
  exact .inl ⟨⟨xs,h3,rfl,rfl⟩,q D ys H' hj⟩
theorem ac4 {α:Type}{xs:List α}{i:Nat}{x:α} (h:xs[i]?=some x):xs.take (i+1)=xs.take i++[x]:=by
 rw [List.take_add_one,h]
 rfl
end
end Sw
namespace Sw
open PySem PySem.Spec PyProof.Rows L2
section
variable {K:PySem.W.Frag}{CF CL CD CT CG CW:Addr}{M M':Mp}{H₀ H H':Hp}{X:Addr→Prop}{o dx G S N g:Addr}{gs rows gs' rows':List V}{tx s tx' s':List T}{num lB:List Nat}{b:Nat}{w:T}{ws:List T}
theorem Rdy.go (G:Go K CF CL CD CT X M M' H₀ H H') (hX:¬ X g) (g0:Gh K CF CL CD CT M H₀ H) (h:Rdy CG M H g w ws):Rdy CG M' H' g w ws:=by
 obtain⟨dg,a,W,j,tt,wl,h1,h2,h3,h4,h5,h6,h7⟩:=h
 obtain⟨_,_,_,_,h9⟩:=g0.ok a _ h3
 obtain⟨ws',e1,e2⟩:=G.wds W _ wl h9 h4
 exact⟨dg,a,W,j,tt,ws',G.ext _ _ h1,(G.mine g h1 hX).trans h2,G.ext _ _ h3,e1,by lia,h6,h7⟩
theorem Go.amc {p:Addr}{u:HO}{H1:Hp} (a:Go K CF CL CD CT X M M' H₀ H H1) (hm:M' p=some .mine) (hn:M p≠some .mine) (k:Kt H1 (upd H1 p u)):Go K CF CL CD CT X M M' H₀ H (upd H1 p u) :=
 ⟨a.ext,fun q h x=>by rw [upd_ne (fun z:q=p=>hn (by rw [← z]; exact h))]; exact a.mine q h x,a.kt.trans k,a.gh.mut hm k,fun W t ws h1 h2=>by
  obtain⟨ws',e,l⟩:=a.wds W t ws h1 h2
  have nW:W≠p:=fun z=>by have:=a.ext _ _ h1; rw [z,hm] at this; cases this
  exact⟨ws',by rw [upd_ne nW]; exact e,l⟩⟩
theorem pJ.nl {t:T}{x:V}{p:Addr}{l:List V} (h:pJ CG M H t x) (hp:H p=some (.lst l)):∀ g,x=.ref g→¬ g=p:=by
 obtain⟨g,dx,a,W,j,tt,rfl,_,h2,_⟩:=h
 rintro g' e rfl
 cases e
 rw [hp] at h2
 cases h2
theorem WkX.setG (w:WkX K CF CL CD CT CG CW M H₀ H o dx G S N gs rows tx s num b) (h:aW (pJ CG M H) tx'.reverse gs') (nd:gs'.Nodup):WkX K CF CL CD CT CG CW M H₀ (upd H G (.lst gs')) o dx G S N gs' rows tx' s num b:=by
 have g1:Go K CF CL CD CT (fun a=>a=G) M M H₀ H (upd H G (.lst gs')):=.list w.gh w.mG w.hG
 have no:o≠G:=fun z=>by have:=w.ob; rw [z,w.hG] at this; cases this
 exact⟨g1.gh,by rw [upd_ne no]; exact w.ob,w.mo,w.mG,w.mS,w.mN,upd_same,by rw [upd_ne (Ne.symm w.dGS)]; exact w.hS,by rw [upd_ne (Ne.symm w.dGN)]; exact w.hN,h.imp fun _ _ z=>z.go g1 (z.nl w.hG) w.gh,w.sts.imp fun _ _ z=>g1.rv z,w.n15,w.dGS,w.dGN,w.dSN,nd⟩
theorem WkX.adf (w:WkX K CF CL CD CT CG CW M H₀ H o dx G S N gs rows tx s num b) (hl:lB.length=15):WkX K CF CL CD CT CG CW M H₀ (upd H N (.lst (lB.map nv))) o dx G S N gs rows tx s lB b:=by
 have g1:Go K CF CL CD CT (fun a=>a=N) M M H₀ H (upd H N (.lst (lB.map nv))):=.list w.gh w.mN w.hN
 have no:o≠N:=fun z=>by have:=w.ob; rw [z,w.hN] at this; cases this
 exact⟨g1.gh,by rw [upd_ne no]; exact w.ob,w.mo,w.mG,w.mS,w.mN,by rw [upd_ne w.dGN]; exact w.hG,by rw [upd_ne w.dSN]; exact w.hS,upd_same,w.gos.imp fun _ _ z=>z.go g1 (z.nl w.hN) w.gh,w.sts.imp fun _ _ z=>g1.rv z,hl,w.dGS,w.dGN,w.dSN,w.nd⟩
theorem pJ.nw {t:T}{x:V}{A B C:Addr}{c:Nat}{D e:Addr} (h:pJ CG M H t x) (hp:H e=some (.ins D dx (fW A B C c))):∀ g,x=.ref g→¬ g=e:=by
 obtain⟨g,dg,a,W,j,tt,rfl,_,h2,_⟩:=h
 rintro g' e rfl
 cases e
 rw [hp] at h2
 have h3:=HO.ins.inj (Option.some.inj h2)
 have h4:fW A B C c=fG a j:=h3.2.2
 unfold fW fG at h4
 have:=congrArg List.length h4
 simp at this
theorem WkX.aj2 (w:WkX K CF CL CD CT CG CW M H₀ H o dx G S N gs rows tx s num b) (c:Nat):WkX K CF CL CD CT CG CW M H₀ (upd H o (.ins CW dx (fW G S N c))) o dx G S N gs rows tx s num c:=by
 have k:Kt H (upd H o (.ins CW dx (fW G S N c))):=Kt.ins w.ob
 have g1:Go K CF CL CD CT (fun a=>a=o) M M H₀ H (upd H o (.ins CW dx (fW G S N c))):=Go.oZ (.refl w.gh) w.mo rfl k
 have nG:G≠o:=fun z=>by have:=w.ob; rw [← z,w.hG] at this; cases this
 have nS:S≠o:=fun z=>by have:=w.ob; rw [← z,w.hS] at this; cases this
 have nN:N≠o:=fun z=>by have:=w.ob; rw [← z,w.hN] at this; cases this
 exact⟨g1.gh,upd_same,w.mo,w.mG,w.mS,w.mN,by rw [upd_ne nG]; exact w.hG,by rw [upd_ne nS]; exact w.hS,by rw [upd_ne nN]; exact w.hN,w.gos.imp fun _ _ z=>z.go g1 (z.nw w.ob) w.gh,w.sts.imp fun _ _ z=>g1.rv z,w.n15,w.dGS,w.dGN,w.dSN,w.nd⟩
theorem WkX.agh (w:WkX K CF CL CD CT CG CW M H₀ H o dx G S N gs rows tx s num b) (g1:Go K CF CL CD CT (fun a=>a=S) M M' H₀ H H') (h:H' S=some (.lst rows')) (hr:aW (RV K M' H') s'.reverse rows'):WkX K CF CL CD CT CG CW M' H₀ H' o dx G S N gs rows' tx s' num b:=by
 have no:¬ o=S:=fun z=>by have:=w.ob; rw [z,w.hS] at this; cases this
 exact⟨g1.gh,(g1.mine o w.mo no).trans w.ob,g1.ext _ _ w.mo,g1.ext _ _ w.mG,g1.ext _ _ w.mS,g1.ext _ _ w.mN,(g1.mine G w.mG w.dGS).trans w.hG,h,(g1.mine N w.mN (Ne.symm w.dSN)).trans w.hN,w.gos.imp fun _ _ z=>z.go g1 (z.nl w.hS) w.gh,hr,w.n15,w.dGS,w.dGN,w.dSN,w.nd⟩
theorem WkX.onto {gs0:List V}{p:T}{rest:List T} (k:WkX K CF CL CD CT CG CW M H₀ H o dx G S N (gs0++[.ref g]) rows (p::rest) s num b) {dg a W:Addr}{j:Nat}{tt:T}{wl:List V} (h1:M g=some .mine) (h2:H g=some (.ins CG dg (fG a j))) (h3:M a=some (.text tt W)) (h4:H W=some (.lst wl)) (h5:j+1≤wl.length) (h6:tt.kids.drop j=w::ws) (h7:B 389 8000000 tt) :
  WkX K CF CL CD CT CG CW M H₀ (upd H g (.ins CG dg (fG a (j+1)))) o dx G S N (gs0++[.ref g]) rows (.node ws::rest) s num b:=by
 have kt:Kt H (upd H g (.ins CG dg (fG a (j+1)))):=Kt.ins h2
 have g1:Go K CF CL CD CT (fun a=>a=g) M M H₀ H (upd H g (.ins CG dg (fG a (j+1)))):=Go.oZ (.refl k.gh) h1 rfl kt
 have nl:∀ {q:Addr}{l:List V},H q=some (.lst l)→q≠g:=fun e z=>by rw [z,h2] at e; cases e
 have no:o≠g:=fun z=>by
  have:=k.ob
  rw [z,h2] at this
  have h3:=HO.ins.inj (Option.some.inj this)
  have h4:fG a j=fW G S N b:=h3.2.2
  unfold fW fG at h4
  have:=congrArg List.length h4
  simp at this
 have hgo:=k.gos
 rw [List.reverse_cons] at hgo
 obtain⟨gs1,y,e1,hg0,_⟩:=aW.snoc hgo
 obtain⟨rfl,rfl⟩:=List.append_inj' e1 rfl |>.imp id (fun z=>(List.cons.inj z).1)
 have nd:=k.nd
 have ng:(.ref g:V) ∉ gs0:=fun z=>(List.nodup_append.mp nd).2.2 _ z _ (by simp) rfl
 have hjk:j+1≤tt.kids.length:=by
  have:=congrArg List.length h6
  rw [List.length_drop,List.length_cons] at this
  lia
 refine⟨g1.gh,by rw [upd_ne no]; exact k.ob,k.mo,k.mG,k.mS,k.mN,by rw [upd_ne (nl k.hG)]; exact k.hG,by rw [upd_ne (nl k.hS)]; exact k.hS,by rw [upd_ne (nl k.hN)]; exact k.hN,?_,k.sts.imp fun _ _ z=>g1.rv z,k.n15,k.dGS,k.dGN,k.dSN,nd⟩
 rw [List.reverse_cons]
 refine aW.append ?_ (aW.one ⟨g,dg,a,W,j+1,tt,rfl,h1,upd_same,h3,hjk,⟨wl,by rw [upd_ne (nl h4)]; exact h4,h5⟩,?_,h7⟩)
 ·refine aW.of_get (hg0.length.symm ▸ rfl) fun i y hy=>?_
  obtain⟨t,et,hgt⟩:=hg0.get hy
  refine⟨t,et,hgt.go g1 (fun g' e z=>?_) k.gh⟩
  subst z
  exact ng (by rw [← e]; exact List.mem_of_getElem? hy)
 ·have:tt.kids.drop (j+1)=ws:=by rw [← List.drop_drop,h6]; rfl
  rw [this]
theorem WkX.newG (k:WkX K CF CL CD CT CG CW M H₀ H o dx G S N gs rows tx s num b) {a g dg:Addr}{t:T} (ht:vC M a t) (hb:B 389 8000000 t) (hg:H g=none) (hd:H dg=none) (ne:dg≠g) :
  WkX K CF CL CD CT CG CW (setM M g .mine) H₀ (mkO H g dg CG (fG a 0)) o dx G S N gs rows tx s num b∧pJ CG (setM M g .mine) (mkO H g dg CG (fG a 0)) t (.ref g)∧(.ref g:V) ∉ gs:=by
 have g1:Go K CF CL CD CT (fun _=>False) M (setM M g .mine) H₀ H (mkO H g dg CG (fG a 0)):=.made k.gh hg hd ne
 obtain⟨W,hW⟩:=ht
 obtain⟨_,_,_,_,h9⟩:=k.gh.ok a _ hW
 obtain⟨xs,h10,_,_⟩:=k.gh.ok W _ h9
 refine⟨k.go g1,⟨g,dg,a,W,0,t,rfl,dO,iz,g1.ext _ _ hW,Nat.zero_le _,⟨xs,jd (C:=CG) (fs:=fG a 0) hg hd ne _ _ h10,Nat.zero_le _⟩,by cases t; rfl,hb⟩,fun z=>?_⟩
 obtain⟨i,hi⟩:=List.mem_iff_getElem?.mp z
 obtain⟨t',_,g',_,_,_,_,_,e,_,h2,_⟩:=k.gos.get hi
 cases e
 rw [hg] at h2
 cases h2
theorem WkX.push (k:WkX K CF CL CD CT CG CW M H₀ H o dx G S N gs rows tx s num b) {t:T}{x:V} (h:pJ CG M H t x) (hn:x ∉ gs):WkX K CF CL CD CT CG CW M H₀ (upd H G (.lst (gs++[x]))) o dx G S N (gs++[x]) rows (t::tx) s num b:=by
 refine k.setG ?_ ?_
 ·rw [List.reverse_cons]
  exact aW.append k.gos (aW.one h)
 ·refine List.nodup_append.mpr ⟨k.nd,by simp,fun a ha c hc=>?_⟩
  rw [List.mem_singleton.mp hc]
  exact fun z=>hn (z ▸ ha)
theorem pJ.new {a g dg:Addr}{t:T} (g0:Gh K CF CL CD CT M H₀ H) (ht:vC M a t) (hb:B 389 8000000 t) (hg:H g=none) (hd:H dg=none) (ne:dg≠g):pJ CG (setM M g .mine) (mkO H g dg CG (fG a 0)) t (.ref g):=by
 have g1:Go K CF CL CD CT (fun _=>False) M (setM M g .mine) H₀ H (mkO H g dg CG (fG a 0)):=.made g0 hg hd ne
 obtain⟨W,hW⟩:=ht
 obtain⟨_,_,_,_,h9⟩:=g0.ok a _ hW
 obtain⟨xs,h10,_,_⟩:=g0.ok W _ h9
 exact⟨g,dg,a,W,0,t,rfl,dO,iz,g1.ext _ _ hW,Nat.zero_le _,⟨xs,jd (C:=CG) (fs:=fG a 0) hg hd ne _ _ h10,Nat.zero_le _⟩,by cases t; rfl,hb⟩
def w1 (G:Addr):List (Str×V):=[("goings",.ref G)]
def w2 (G S:Addr):List (Str×V):=[("goings",.ref G),("stack",.ref S)]
def w3 (G S N:Addr):List (Str×V):=[("goings",.ref G),("stack",.ref S),("numbers",.ref N)]
theorem pw1 (G:Addr):putF "goings" (.ref G) []=w1 G:=rfl
theorem pw2 (G S:Addr):putF "stack" (.ref S) (w1 G)=w2 G S:=by unfold w1 w2; rw [bQ (by decide +kernel)]; rfl
theorem pw3 (G S N:Addr):putF "numbers" (.ref N) (w2 G S)=w3 G S N:=by unfold w2 w3; rw [bQ (by decide +kernel),bQ (by decide +kernel)]; rfl
theorem pw4 (G S N:Addr) (b:Nat):putF "left" (.int (b:Int)) (w3 G S N)=fW G S N b:=by unfold w3 fW; rw [bQ (by decide +kernel),bQ (by decide +kernel),bQ (by decide +kernel)]; rfl
theorem ae2 {ts:List T}{ys:List V}{i:Nat}{x:V} (h:TRs K H ts ys) (hx:ys.reverse[i]?=some x):∃ t,ts.reverse[i]?=some t∧TR K H t x:=by
 obtain⟨hi,hx'⟩:=SwR.abC hx
 obtain⟨t,et,ht⟩:=h.get hx'
 have hl:=h.length
 refine⟨t,?_,ht⟩
 rw [List.getElem?_reverse (by lia),← hl]
 exact et
end
theorem bump {num:List Nat}{k:Nat} (h:num.length=15) (hk:k<15):dF num (ev0 k)=num.set k (num.getD k 0+1):=by
 unfold dF ev0
 refine List.ext_getElem? fun i=>?_
 rw [List.getElem?_zipWith,List.getElem?_set,List.getElem?_set,List.getElem?_replicate,List.length_replicate]
 by_cases e:k=i
 ·subst e
  rw [if_pos rfl,if_pos hk,if_pos rfl,if_pos (by lia),List.getElem?_eq_getElem (by lia),List.getD_eq_getElem?_getD,List.getElem?_eq_getElem (by lia)]
  rfl
 ·rw [if_neg e,if_neg e]
  by_cases hi:i<15
  ·rw [if_pos hi,List.getElem?_eq_getElem (by lia)]
   rfl
  ·rw [if_neg hi,List.getElem?_eq_none (by lia)]
theorem aeJ {num:List Nat}{k j c:Nat} (h:num.length=15) (hk:k<15) (hj:j<15) (hkj:k≠j):dF num ((ev0 k).set j c)=(num.set k (num.getD k 0+1)).set j ((num.set k (num.getD k 0+1)).getD j 0+c):=by
 unfold dF ev0
 refine List.ext_getElem? fun i=>?_
 have hg:(num.set k (num.getD k 0+1)).getD j 0=num.getD j 0:=by
  rw [List.getD_eq_getElem?_getD,List.getElem?_set,if_neg hkj,← List.getD_eq_getElem?_getD]
 rw [hg,List.getElem?_zipWith,List.getElem?_set,List.getElem?_set,List.getElem?_set,List.getElem?_set,List.getElem?_replicate,List.length_set,List.length_set,List.length_replicate]
 by_cases e:j=i
 ·subst e
  rw [if_pos rfl,if_pos hj,if_pos rfl,if_pos (by lia),List.getElem?_eq_getElem (by lia),List.getD_eq_getElem?_getD,List.getElem?_eq_getElem (by lia)]
  rfl
 ·rw [if_neg e,if_neg e]
  by_cases e2:k=i
  ·subst e2
   rw [if_pos rfl,if_pos hk,if_pos rfl,if_pos (by lia),List.getElem?_eq_getElem (by lia),List.getD_eq_getElem?_getD,List.getElem?_eq_getElem (by lia)]
   rfl
  ·rw [if_neg e2,if_neg e2]
   by_cases hi:i<15
   ·rw [if_pos hi,List.getElem?_eq_getElem (by lia)]
    rfl
   ·rw [if_neg hi,List.getElem?_eq_none (by lia)]
end Sw
namespace Sw
open PySem PySem.Spec PyProof.Rows L2
theorem aaO {num:List Nat}{k:Nat} (h:num.length=15) (hk:k<15):atI (num.map nv) (k:Int)=some (nv (num.getD k 0)):=by
 refine atI_nat ?_
 rw [List.getElem?_map,List.getElem?_eq_getElem (by lia),List.getD_eq_getElem?_getD,List.getElem?_eq_getElem (by lia)]
 rfl
theorem Zq {p:T}{rest s:List T}{w:T}{ws:List T} (h:p.kids=w::ws):stepT (p::rest) s=rT (aH w) (ats s 0):=by
 have hk:(ats (p::rest) 0).kids=w::ws:=h
 unfold stepT rT
 have h9:=Ai w
 by_cases e7:aH w=7
 ·rw [if_pos e7]
  by_cases d:(ats s 0).kids=[]
  ·rw [if_pos d,ZK hk e7 d]
  ·rw [if_neg d,Uo hk e7 d]
 rw [if_neg e7]
 by_cases e8:aH w=8
 ·rw [if_pos e8]
  by_cases d:(ats s 0).kids=[]
  ·rw [if_pos d,PK hk e8 d]
  ·rw [if_neg d,PN hk e8 d]
 rw [if_neg e8]
 by_cases e9:aH w=9
 ·rw [if_pos e9,PL hk e9]
 ·rw [if_neg e9,PJ hk (by lia)]
def BZ (k c:Nat) (num:List Nat):List Nat:=if k=2 then (num.set 2 (num.getD 2 0+1)).set 13 ((num.set 2 (num.getD 2 0+1)).getD 13 0+c) else num.set k (num.getD k 0+1)
theorem vV {tx s:List T}{num:List Nat} (h:num.length=15) (h9:stepT tx s≠9):dF num (lF tx s)=BZ (stepT tx s) (bC tx s) num:=by
 have h12:=Ah (tx:=tx) (s:=s)
 unfold lF BZ bC
 by_cases h2:stepT tx s=2
 ·rw [if_pos h2,if_pos h2,if_pos h2,aeJ h (by lia) (by lia) (by lia)]
 ·rw [if_neg h2,if_neg h9,if_neg h2,bump h (by lia)]
theorem ajb {p:T}{rest s:List T}{w:T}{ws:List T}{num:List Nat} (h:p=.node (w::ws)) (hn:num.length=15) :
  MvT (stepT (p::rest) s) w ws rest (pad s (looks (stepT (p::rest) s))) (BZ (stepT (p::rest) s) (bC (p::rest) s) num) (onward (p::rest) s).1 (onward (p::rest) s).2.1 (dF num (lF (p::rest) s)):=by
 subst h
 have hk:(ats (T.node (w::ws)::rest) 0).kids=w::ws:=rfl
 have h9:=Ai w
 by_cases e7:aH w=7
 ·by_cases d:(ats s 0).kids=[]
  ·have o:=ZK hk e7 d
   have hs:stepT (T.node (w::ws)::rest) s=8:=by unfold stepT; rw [o]
   refine .inr (.inr (.inl ⟨hs,e7,?_,?_,?_⟩))
   ·rw [o]
    show T.node (w.kids.drop 2)::_=T.node ((w.kids.drop 1).drop 1)::_
    rw [List.drop_drop]
    rfl
   ·rw [o,hs]; rfl
   ·exact vV hn (by lia)
  ·have o:=Uo hk e7 d
   have hs:stepT (T.node (w::ws)::rest) s=7:=by unfold stepT; rw [o]
   refine .inr (.inl ⟨hs,e7,?_,?_,?_⟩)
   ·rw [o]; rfl
   ·rw [o,hs]; rfl
   ·exact vV hn (by lia)
 by_cases e8:aH w=8
 ·by_cases d:(ats s 0).kids=[]
  ·have o:=PK hk e8 d
   have hs:stepT (T.node (w::ws)::rest) s=10:=by unfold stepT; rw [o]
   refine .inr (.inr (.inr ⟨.inr (.inl hs),?_,?_,?_⟩))
   ·rw [o]; rfl
   ·rw [hs,Oa (by lia),o]; rfl
   ·exact vV hn (by lia)
  ·have o:=PN hk e8 d
   have hs:stepT (T.node (w::ws)::rest) s=9:=by unfold stepT; rw [o]
   refine .inl ⟨hs,e8,?_,?_,?_⟩
   ·rw [o]
   ·rw [o,hs]; rfl
   ·unfold lF
    rw [hs,if_neg (by decide),if_pos rfl,aeJ hn (by lia) (by lia) (by lia)]
    rfl
 by_cases e9:aH w=9
 ·have o:=PL (s:=s) hk e9
  have hs:stepT (T.node (w::ws)::rest) s=11:=by unfold stepT; rw [o]
  refine .inr (.inr (.inr ⟨.inr (.inr hs),?_,?_,?_⟩))
  ·rw [o]; rfl
  ·rw [hs,Oa (by lia),o]; rfl
  ·exact vV hn (by lia)
 ·have o:=PJ (s:=s) hk (show aH w≤6 by lia)
  have hs:stepT (T.node (w::ws)::rest) s=aH w:=by unfold stepT; rw [o]
  refine .inr (.inr (.inr ⟨.inl (by lia),?_,?_,?_⟩))
  ·rw [o]; rfl
  ·rw [hs,o]
  ·exact vV hn (by lia)
theorem afp {s:List T}{n m:Nat} (h:∀ t∈s,t.kids.length≤m):∀ t∈pad s n,t.kids.length≤m:=fun t ht=>by
 rcases List.mem_append.mp ht with z | z
 ·exact h t z
 ·rw [List.eq_of_mem_replicate z]
  exact Nat.zero_le _
theorem afK {s:List T}{m:Nat} (h:T.aD s≤m):∀ t∈s,t.kids.length≤m:=fun t ht=>by
 have h1:=T.lW ht
 have h2:=T.dH t
 have h3:=T.cV t.kids
 lia
theorem adQ {k:Nat} (h:k≤12):atI ([.int 0,.int 1,.int 1,.int 2,.int 2,.int 1,.int 3,.int 1,.int 1,.int 1,.int 1,.int 0,.int 0]:List V) (k:Int)=some (.int (looks k:Nat)):=by
 have:∀ k,k≤12→([V.int 0,.int 1,.int 1,.int 2,.int 2,.int 1,.int 3,.int 1,.int 1,.int 1,.int 1,.int 0,.int 0]:List V)[k]?=some (.int (looks k:Nat)):=by decide
 exact atI_nat (this k h)
theorem agQ {s:List T}{i n:Nat} (h1:s.length+i≤max n s.length) (h2:n≤s.length+i):s++List.replicate i leaf=pad s n:=by
 unfold pad
 have:i=n - s.length:=by lia
 rw [this]
theorem Oz (num:List Nat) (k c:Nat):(num.map nv).set k (.int ((num.getD k 0:Int)+(c:Int)))=(num.set k (num.getD k 0+c)).map nv:=by
 rw [← U3]
 congr 1
theorem drop_cons {α:Type}{xs:List α}{j:Nat}{x:α} (h:xs[j]?=some x):xs.drop j=x::xs.drop (j+1):=by
 have hj:=(List.getElem?_eq_some_iff.mp h).1
 rw [List.drop_eq_getElem_cons hj]
 rw [List.getElem?_eq_getElem hj] at h
 rw [Option.some.inj h]
end Sw
namespace Sw
open PySem PySem.Spec PyProof.Rows L2
def JK (K:PySem.W.Frag) (CF CL CD CT CG CW:Addr):Sp:=fun vs H Q _=>∃ (x:V) (tx s:List T) (b:Nat),vs=[x,.int (b:Int)]∧TR K H (ZJ tx s) x∧Sane b tx s ∧
 ∀ o M' H' b',Wk K CF CL CD CT CG CW M' H H' o (goT b tx s).1 (goT b tx s).2.1 (goT b tx s).2.2 b'→Q (.ref o) H'
end Sw
namespace d7
open PySem PySem.Spec PyProof.Rows L2 Sw
def top (i:Nat):Stmt:=PySem.Challenge.pw_selfword_k73_a_knots_tally.main.body.getD i (.Pass ⟨0,0,0,0⟩)
abbrev nD:Stmt:=top 1
abbrev uQ:Stmt:=top 2
abbrev rC:Stmt:=top 3
abbrev oJ:Stmt:=top 16
abbrev oN:Stmt:=top 17
abbrev uF:Stmt:=top 18
abbrev tO:Stmt:=top 19
abbrev qy:Stmt:=top 20
abbrev wD:Stmt:=top 21
abbrev dR:Stmt:=top 22
abbrev jj:Stmt:=top 32
abbrev oM:Stmt:=top 33
abbrev j8:Stmt:=top 34
abbrev oH:Stmt:=top 35
abbrev oR:Stmt:=top 36
abbrev oO:Stmt:=top 37
abbrev ji:Stmt:=top 38
abbrev gb:Stmt:=top 39
abbrev rD:Stmt:=top 51
abbrev jO:Stmt:=top 52
abbrev wG:Stmt:=top 53
abbrev pL:Stmt:=top 54
abbrev oG:Stmt:=top 58
abbrev mj:Stmt:=top 61
abbrev j7:Stmt:=top 62
abbrev mq:Stmt:=top 63
abbrev wF:Stmt:=top 64
abbrev iM:Stmt:=top 65
abbrev mF:Stmt:=top 66
abbrev jk:Stmt:=top 67
abbrev mC:Stmt:=top 71
abbrev oK:Stmt:=top 72
abbrev tQ:Stmt:=top 73
abbrev iK:Stmt:=top 74
abbrev gM:Stmt:=top 75
abbrev oU:Stmt:=top 76
abbrev BJ:Stmt:=top 78
abbrev lZ:Stmt:=top 79
abbrev oF:Stmt:=top 80
abbrev wC:Stmt:=top 85
abbrev iR:Stmt:=top 87
abbrev gU:Stmt:=top 88
abbrev gR:Stmt:=top 89
abbrev eV:Stmt:=top 90
abbrev nF:Stmt:=top 91
abbrev iQ:Stmt:=top 92
abbrev jl:Stmt:=top 93
abbrev mH:Stmt:=top 94
abbrev jm:Stmt:=top 95
abbrev jo:Stmt:=top 96
abbrev rP:Stmt:=top 97
theorem adi:FnScope ["tree"] ["tree"] (defScope nD):=⟨rfl,rfl,rfl,by decide +kernel,rfl,by decide +kernel,by decide +kernel⟩
theorem aeX:FnScope ["tree"] ["tree"] (defScope uQ):=⟨rfl,rfl,rfl,by decide +kernel,rfl,by decide +kernel,by decide +kernel⟩
theorem wz:FnScope ["tree","waiting","counted","part"] ["tree"] (defScope rC):=⟨rfl,rfl,rfl,by decide +kernel,rfl,by decide +kernel,by decide +kernel⟩
theorem Zu:FnScope ["word"] ["word"] (defScope oJ):=⟨rfl,rfl,rfl,by decide +kernel,rfl,by decide +kernel,by decide +kernel⟩
theorem Zw:FnScope ["word"] ["word"] (defScope oN):=⟨rfl,rfl,rfl,by decide +kernel,rfl,by decide +kernel,by decide +kernel⟩
theorem agi:FnScope ["tree"] ["tree"] (defScope uF):=⟨rfl,rfl,rfl,by decide +kernel,rfl,by decide +kernel,by decide +kernel⟩
theorem adg:FnScope ["sort"] ["sort"] (defScope tO):=⟨rfl,rfl,rfl,by decide +kernel,rfl,by decide +kernel,by decide +kernel⟩
theorem ae0:FnScope ["yes","no"] ["yes","no"] (defScope qy):=⟨rfl,rfl,rfl,by decide +kernel,rfl,by decide +kernel,by decide +kernel⟩
theorem aeY:FnScope ["body"] ["body"] (defScope wD):=⟨rfl,rfl,rfl,by decide +kernel,rfl,by decide +kernel,by decide +kernel⟩
theorem abx:FnScope ["names"] ["names"] (defScope dR):=⟨rfl,rfl,rfl,by decide +kernel,rfl,by decide +kernel,by decide +kernel⟩
theorem RK:FnScope [] [] (defScope jj):=⟨rfl,rfl,rfl,by decide +kernel,rfl,by decide +kernel,by decide +kernel⟩
theorem Mw:FnScope ["wrapped"] [] (defScope oM):=⟨rfl,rfl,rfl,by decide +kernel,rfl,by decide +kernel,by decide +kernel⟩
theorem T9:FnScope [] [] (defScope j8):=⟨rfl,rfl,rfl,by decide +kernel,rfl,by decide +kernel,by decide +kernel⟩
theorem Bv:FnScope ["word_gone","shut"] [] (defScope oH):=⟨rfl,rfl,rfl,by decide +kernel,rfl,by decide +kernel,by decide +kernel⟩
theorem vK:FnScope ["text","sort"] [] (defScope oR):=⟨rfl,rfl,rfl,by decide +kernel,rfl,by decide +kernel,by decide +kernel⟩
theorem Mx:FnScope ["sort","cleared"] ["sort"] (defScope oO):=⟨rfl,rfl,rfl,by decide +kernel,rfl,by decide +kernel,by decide +kernel⟩
theorem DP:FnScope ["word_whole"] [] (defScope ji):=⟨rfl,rfl,rfl,by decide +kernel,rfl,by decide +kernel,by decide +kernel⟩
theorem JV:FnScope [] [] (defScope gb):=⟨rfl,rfl,rfl,by decide +kernel,rfl,by decide +kernel,by decide +kernel⟩
theorem adk:FnScope ["text","tree"] ["text","tree"] (defScope rD):=⟨rfl,rfl,rfl,by decide +kernel,rfl,by decide +kernel,by decide +kernel⟩
theorem W4:FnScope ["sort","top"] ["sort","top"] (defScope jO):=⟨rfl,rfl,rfl,by decide +kernel,rfl,by decide +kernel,by decide +kernel⟩
theorem ae1:FnScope ["tally"] ["tally"] (defScope wG):=⟨rfl,rfl,rfl,by decide +kernel,rfl,by decide +kernel,by decide +kernel⟩
theorem adl:FnScope ["one","other"] ["one","other"] (defScope pL):=⟨rfl,rfl,rfl,by decide +kernel,rfl,by decide +kernel,by decide +kernel⟩
theorem uP:FnScope ["tally","taken","times","numbers"] ["tally"] (defScope oG):=⟨rfl,rfl,rfl,by decide +kernel,rfl,by decide +kernel,by decide +kernel⟩
theorem W3:FnScope ["body"] ["body"] (defScope mj):=⟨rfl,rfl,rfl,by decide +kernel,rfl,by decide +kernel,by decide +kernel⟩
theorem T5:FnScope [] [] (defScope j7):=⟨rfl,rfl,rfl,by decide +kernel,rfl,by decide +kernel,by decide +kernel⟩
theorem W5:FnScope [] [] (defScope mq):=⟨rfl,rfl,rfl,by decide +kernel,rfl,by decide +kernel,by decide +kernel⟩
theorem aeZ:FnScope ["text"] ["text"] (defScope wF):=⟨rfl,rfl,rfl,by decide +kernel,rfl,by decide +kernel,by decide +kernel⟩
theorem T7:FnScope ["text"] ["text"] (defScope iM):=⟨rfl,rfl,rfl,by decide +kernel,rfl,by decide +kernel,by decide +kernel⟩
theorem W_:FnScope ["own_made"] ["own_made"] (defScope mF):=⟨rfl,rfl,rfl,by decide +kernel,rfl,by decide +kernel,by decide +kernel⟩
theorem DQ:FnScope ["text","one","other","numbers"] ["text","one","other"] (defScope jk):=⟨rfl,rfl,rfl,by decide +kernel,rfl,by decide +kernel,by decide +kernel⟩
theorem W6:FnScope ["row"] ["row"] (defScope mC):=⟨rfl,rfl,rfl,by decide +kernel,rfl,by decide +kernel,by decide +kernel⟩
theorem Zv:FnScope ["row"] ["row"] (defScope oK):=⟨rfl,rfl,rfl,by decide +kernel,rfl,by decide +kernel,by decide +kernel⟩
theorem adh:FnScope ["tree","place"] ["tree","place"] (defScope tQ):=⟨rfl,rfl,rfl,by decide +kernel,rfl,by decide +kernel,by decide +kernel⟩
theorem T4:FnScope ["row"] ["row"] (defScope iK):=⟨rfl,rfl,rfl,by decide +kernel,rfl,by decide +kernel,by decide +kernel⟩
theorem jN:FnScope ["row","most","waiting","counted","part"] ["row","most"] (defScope gM):=⟨rfl,rfl,rfl,by decide +kernel,rfl,by decide +kernel,by decide +kernel⟩
theorem rO:FnScope ["row","ahead","taken","part","tree"] ["row"] (defScope oU):=⟨rfl,rfl,rfl,by decide +kernel,rfl,by decide +kernel,by decide +kernel⟩
theorem T6:FnScope ["text","tree","budget","walk","steps"] ["text","tree","budget"] (defScope BJ):=⟨rfl,rfl,rfl,by decide +kernel,rfl,by decide +kernel,by decide +kernel⟩
theorem W0:FnScope ["text","tree","budget"] ["text","tree","budget"] (defScope lZ):=⟨rfl,rfl,rfl,by decide +kernel,rfl,by decide +kernel,by decide +kernel⟩
theorem Rq:FnScope ["stand","budget","walk"] ["stand","budget"] (defScope oF):=⟨rfl,rfl,rfl,by decide +kernel,rfl,by decide +kernel,by decide +kernel⟩
theorem OD:FnScope ["step","load","stack","item","row"] ["step","load","stack"] (defScope wC):=⟨rfl,rfl,rfl,by decide +kernel,rfl,by decide +kernel,by decide +kernel⟩
theorem lg:FnScope ["_law_script","_law_cells","_law_deck_here","_law_k","_law_cell"] ["_law_script"] (defScope iR):=⟨rfl,rfl,rfl,by decide +kernel,rfl,by decide +kernel,by decide +kernel⟩
theorem T_:FnScope ["_law_deck_here","_law_many"] ["_law_deck_here","_law_many"] (defScope gU):=⟨rfl,rfl,rfl,by decide +kernel,rfl,by decide +kernel,by decide +kernel⟩
theorem Ey:FnScope ["_law_deck_here","_law_deep"] ["_law_deck_here","_law_deep"] (defScope gR):=⟨rfl,rfl,rfl,by decide +kernel,rfl,by decide +kernel,by decide +kernel⟩
theorem OJ:FnScope ["_law_many"] ["_law_many"] (defScope eV):=⟨rfl,rfl,rfl,by decide +kernel,rfl,by decide +kernel,by decide +kernel⟩
theorem wB:FnScope ["_law_deck_here","_law_deep","_law_way"] ["_law_deck_here","_law_deep"] (defScope nF):=⟨rfl,rfl,rfl,by decide +kernel,rfl,by decide +kernel,by decide +kernel⟩
theorem Ez:FnScope ["_law_deck_here","_law_deep"] ["_law_deck_here","_law_deep"] (defScope iQ):=⟨rfl,rfl,rfl,by decide +kernel,rfl,by decide +kernel,by decide +kernel⟩
theorem RL:FnScope ["_law_found"] ["_law_found"] (defScope jl):=⟨rfl,rfl,rfl,by decide +kernel,rfl,by decide +kernel,by decide +kernel⟩
theorem Xa:FnScope ["_law_tree_here"] ["_law_tree_here"] (defScope mH):=⟨rfl,rfl,rfl,by decide +kernel,rfl,by decide +kernel,by decide +kernel⟩
theorem RM:FnScope ["_law_sort"] ["_law_sort"] (defScope jm):=⟨rfl,rfl,rfl,by decide +kernel,rfl,by decide +kernel,by decide +kernel⟩
theorem qM:FnScope ["_law_deck_here","_law_way","_law_text_here","_law_laid"] ["_law_deck_here"] (defScope jo):=⟨rfl,rfl,rfl,by decide +kernel,rfl,by decide +kernel,by decide +kernel⟩
theorem wA:FnScope ["_law_script","_law_deck_here","_law_text_here","_law_tree_here","_law_made","_law_told","_law_due"] ["_law_script"] (defScope rP):=⟨rfl,rfl,rfl,by decide +kernel,rfl,by decide +kernel,by decide +kernel⟩
end d7
namespace d7
open PySem PySem.Spec PyProof.Rows L2 Sw
section
variable {P:Program}{w:World}{K:PySem.W.Frag}{mg:Str→Option Value}{base:Heap}{f:Addr}{fd:FuncData}
theorem aiX (n:Nat):((List.replicate n (List.map W [1])).flatten).length=n:=by
 induction n with
 | zero=>rfl
 | succ n ih=>rw [List.replicate_succ,List.flatten_cons,List.length_append,ih]; show 1+n=n+1; lia
theorem agf:∀ i:Nat,i≤8→(T.node ([5,3].map W++cu i)).deep≤400∧(T.node ([5,3].map W++cu i)).parts≤1000000:=by decide +kernel
theorem ahw:∀ i:Nat,i≤7→(T.node (nZ i)).deep≤400∧(T.node (nZ i)).parts≤1000000:=by decide +kernel
def aev:List T:=[W 5,cI 0 [],W 6,W 4,cI 0 [],W 6,W 4]
def Ng:List Str:=[PySem.Str.ofString "lay",PySem.Str.ofString "drop",PySem.Str.ofString "twin",PySem.Str.ofString "swap",PySem.Str.ofString "front",PySem.Str.ofString "part",PySem.Str.ofString "turn",PySem.Str.ofString "fork",PySem.Str.ofString "while"]
def Z0 (k:Nat):Str:=Ng.getD k (PySem.Str.ofString "")
theorem afD:∀ k:Nat,k≤8→Ng[k]?=some (Z0 k)∧∀ m,m<k→Ng[m]?≠some (Z0 k):=by decide +kernel
def jC (K:PySem.W.Frag) (t:List T):Sp:=fun vs H Q _=>vs=[]∧∀ y H',Same H H'→TR K H' (.node t) y→Q y H'
def jh (K:PySem.W.Frag):Sp:=fun vs H Q _=>∃ (z:Str) (ks:List Nat),vs=[.str z]∧z.length≤1000∧((Builtin.Str.spaceWords z (z.length+1)).length≤1000∧(Txt.words z).length≤1000)∧Txt.words z=ks.map Z0∧(∀ k∈ks,1≤k∧k≤6)∧∀ y H',Same H H'→TR K H' (.node (ks.map W)) y→Q y H'
def TJ (K:PySem.W.Frag):Sp:=fun vs H Q _=>∃ k:Nat,vs=[.int (k:Int)]∧k≤7∧∀ y H',Same H H'→TR K H' (.node (nZ k)) y→Q y H'
theorem Sy {K:PySem.W.Frag}{H:Hp}{Q:VK}{x y:V}{k:Int}{ts:List T} (n:Nat) (hx:TR K H (.node ts) x) (hy:y=.int k) (hk:k=(n:Int)) (hn:n≤100) (q:∀ z H',Same H H'→TR K H' (.node (List.replicate n ts).flatten) z→Q z H') (hl:ts.length≤100:=by decide):Fi K x y H Q:=by
 obtain⟨a,xs,rfl,ha,ra⟩:=cQ.mp hx
 have hlen:=ra.length
 refine⟨a,k,xs,rfl,hy,ha,by lia,by lia,small (by rw [hk,Int.toNat_natCast,hlen]; exact Nat.le_trans (Nat.mul_le_mul hl hn) (by decide)),fun p H' S hp=>q _ _ S (vO hp ?_)⟩
 have r2:TRs K H' ts xs:=ra.mono (.of S)
 unfold rQ
 rw [hk,Int.toNat_natCast]
 clear hp hn hk hy q
 induction n with
 | zero=>exact bM.mpr rfl
 | succ n ih =>
  rw [List.replicate_succ,List.flatten_cons,List.replicate_succ,List.flatten_cons]
  exact TRs.append r2 ih
theorem ag6 {K:PySem.W.Frag}{H:Hp}{Q:VK}{σ:L2.St}{x y:V}{k:Int}{ts:List T} (n:Nat) (hx:TR K H (.node ts) x) (hy:y=.int k) (hk:k=(n:Int)) (hn:n≤100) (q:∀ z H',Same H H'→TR K H' (.node (List.replicate n ts).flatten) z→Q z H') (hl:ts.length≤100:=by decide):tC y σ H (fun y H2=>Fi K x y H2 Q):=Sy n hx hy hk hn q hl
def bothW (m:List T):List T:=W 3::(m++(W 3::W 4::(eU++(W 4::eU))))
def Mr (K:PySem.W.Frag):Sp:=fun vs H Q _=>∃ x b,vs=[x]∧TR K H (.node b) x∧B 390 900000 (.node b)∧∀ y H',Same H H'→TR K H' (.node (cI 0 b::b)) y→Q y H'
def Rp (K:PySem.W.Frag):Sp:=fun vs H Q _=>∃ x m,vs=[x]∧TR K H (.node m) x∧m.length≤1000∧∀ y H',Same H H'→TR K H' (.node (bothW m)) y→Q y H'
def Oq (K:PySem.W.Frag):Sp:=fun vs H Q _=>∃ x f,vs=[x]∧TR K H (.node f) x∧B 300 800000 (.node f)∧∀ y H',Same H H'→TR K H' (.node (eE f)) y→Q y H'
def abt (K:PySem.W.Frag):Sp:=fun vs H Q _=>∃ x f,vs=[x]∧TR K H (.node f) x∧B 300 800000 (.node f)∧∀ y H',Same H H'→TR K H' (.node (cB f)) y→Q y H'
theorem acW {f:List T} (h:B 300 800000 (.node f)):B 390 900000 (.node (eE f)):=by
 obtain⟨h1,h2⟩:=h
 obtain⟨p1,p2⟩:=aaC
 rw [T.aP] at h1
 rw [T.aM] at h2
 refine⟨?_,by rw [body_parts]; lia⟩
 unfold eE cI nP
 rw [T.aP,T.aO,T.aP,T.aO,List.replicate_zero,T.aP,T.bV]
 lia
def aeL (K:PySem.W.Frag) (H:Hp) (a:Addr) (rows:List (List Nat)):Prop:=∃ ys,SqT K H a ys∧aW (fun r y=>∃ b,y=V.ref b∧SqT K H b (List.map nv r)) rows ys
def Tq (K:PySem.W.Frag):Sp:=fun vs H Q _=>∃ a ns,vs=[.ref a]∧SqT K H a (List.map nv ns)∧ns.length=15∧∀ p H',Same H H'→SqT K H' p ((turnT ns).map nv)→Q (.ref p) H'
theorem afO {K:PySem.W.Frag}{a b:Addr}{xs ys:List V}{tb:TS}{D:Ends}{σ:Sg}{H:Hp}{g:TG} (Pv:Nat→Sg→Hp→Prop) (h0:Pv 0 σ H) (he:xs.length=ys.length) (hl:∀ i σ H,i≤xs.length→Pv i σ H→SqT K H a xs∧SqT K H b ys)
  (hs:∀ i x y σ H p,xs[i]?=some x→ys[i]?=some y→Pv i σ H→H p=none→g (.ref p) σ (upd H p (.tup [x,y])) fun σ2 H2=>tb { D with nx:=Pv (i+1),ct:=Pv (i+1),bk:=D.nx } σ2 H2) (hd:∀ σ H,Pv xs.length σ H→D.nx σ H) :
  ∃ W:Nat→Nat→Sg→Hp→Prop,(∃ m,W 0 m σ H)∧∀ i m σ H,W i m σ H →
   ((Itz K a b).stop i H∧D.nx σ H)∨((Itz K a b).go i H∧∃ N:Sg→Hp→Prop,(∀ σ' H',N σ' H'→∃ m',m'<m∧W (i+1) m' σ' H')∧∀ x H',(Itz K a b).yld i H x H'→g x σ H' fun σ2 H2=>tb { D with nx:=N,ct:=N,bk:=D.nx } σ2 H2):=by
 refine⟨fun i m σ H=>m=xs.length - i∧i≤xs.length∧Pv i σ H,⟨xs.length,rfl,Nat.zero_le _,h0⟩,?_⟩
 rintro i m σ H ⟨rfl,hi,p⟩
 obtain⟨qa,qb⟩:=hl i σ H hi p
 by_cases hlt:i<xs.length
 ·have ex:xs[i]?=some xs[i]:=List.getElem?_eq_getElem hlt
  have ey:ys[i]?=some ys[i]:=List.getElem?_eq_getElem (by lia)
  refine .inr ⟨⟨_,_,_,_,qa,qb,ex,ey⟩,Pv (i+1),fun σ' H' p'=>⟨xs.length - (i+1),by lia,rfl,hlt,p'⟩,fun v H' y=>?_⟩
  obtain⟨q,x,y,rfl,hq,rfl,hx,hy⟩:=y
  exact hs i x y σ _ q (hx _ qa) (hy _ qb) p hq
 ·have e:i=xs.length:=by lia
  subst e
  exact .inl ⟨⟨_,qa,Nat.le_refl _⟩,hd σ H p⟩
theorem ahf {K:PySem.W.Frag}{a:Addr}{H1:Hp}{ns:List Nat}{f:Nat→Nat}{σ:Sg}{js:List Nat}{te:TE}{Q:VK} (hn:ns.length≤1000) (ha:SqT K H1 a (ns.map nv))
  (hte:∀ (i:Nat) (H':Hp) (R:VK),i∈ns→R (nv (f i)) H'→te (some (nv i)::frv σ js) H' R)
  (q:∀ D H',Same H1 H'→H' D=some (.lst ((ns.map f).map nv))→Q (.ref D) H'):yQ (Itt K a) js te σ Q H1:=by
 refine YH (K:=K) (xs:=ns.map nv) (fun D i ys H'=>H1 D=none∧Same H1 H'∧H' D=some (.lst ys)∧ys=((ns.take i).map f).map nv∧i≤ns.length) (small (by rw [List.length_map]; lia)) (fun D hD=>⟨hD,same_new hD _,upd_same,rfl,Nat.zero_le _⟩) (fun D i ys H' j=>⟨j.2.2.1,?_,cO (.of j.2.1) ha⟩) (fun D i x ys H' R hx j hR=>?_) (fun D ys H' j=>?_)
 ·rw [j.2.2.2.1,List.length_map,List.length_map,List.length_take]
  exact Nat.min_eq_left j.2.2.2.2
 ·obtain⟨hD,S,h1,h2,_⟩:=j
  rw [List.getElem?_map] at hx
  cases hh:ns[i]? with
  | none=>rw [hh] at hx; cases hx
  | some m =>
   rw [hh] at hx
   cases hx
   refine hte m _ _ (List.mem_of_getElem? hh) (hR _ _ h1 ⟨hD,cY S hD,upd_same,?_,(List.getElem?_eq_some_iff.mp hh).1⟩)
   rw [h2,List.take_succ,hh,List.map_append,List.map_append]
   rfl
 ·obtain⟨hD,S,h1,h2,_⟩:=j
  rw [List.length_map,List.take_of_length_le (Nat.le_refl _)] at h2
  exact q D H' S (by rw [h1,h2])
def TF (K:PySem.W.Frag):Sp:=fun vs H Q _=>∃ (x:V) (a1 a2:Addr) (ft:List T) (n1 n2:List Nat),vs=[x,.ref a1,.ref a2]∧TR K H (.node ft) x∧B 300 800000 (.node ft)∧SqT K H a1 (List.map nv n1)∧SqT K H a2 (List.map nv n2)∧n1.length=15∧n2.length=15 ∧
 ∀ p H',Same H H'→SqT K H' p ((cX ft n1 n2).map nv)→Q (.ref p) H'
theorem abS (cF:mg "tuple"=none) {p8:Addr} (Qj:mg "NAMES"=some (.ref p8)) (Pj:∀ H,SqT K H p8 [.str (PySem.Str.ofString "lay"),.str (PySem.Str.ofString "drop"),.str (PySem.Str.ofString "twin"),.str (PySem.Str.ofString "swap"),.str (PySem.Str.ofString "front"),.str (PySem.Str.ofString "part"),.str (PySem.Str.ofString "turn"),.str (PySem.Str.ofString "fork"),.str (PySem.Str.ofString "while")])
  {Q0:Addr}{QD:FuncData} (af5:Fun K "plain" "plain" tO Q0 QD) (af4:FnOk P w K mg base CX0 31 Q0 QD ["sort"] (Yk K)) (afZ:Binds K QD ["sort"] []) (afE:mg "plain"=some (.ref Q0))
  (Og:∃ ob,K.lookup p8=some ob∧ob.cls=.type "tuple"∧ob.dict=none)
  (F:Fun K "plains" "plains" dR f fd):FnOk P w K mg base CX0 32 f fd ["names"] (jh K):=by
 refine okQ F abx (fun vs H Q E h=>?_) (fun cdv A outer s H vs Q E hr h=>?_)
 ·obtain⟨z,ks,rfl,_⟩:=h
  rfl
 obtain⟨z,ks,rfl,hz1,hz2,hw,hk,q⟩:=h
 refine⟨_,(aB (aQ (jT gJ rfl cF mQ (aj (HY rfl (rH (fr:=[]) (js:=[]) (sc:=defScope dR) rfl rfl rfl (by decide +kernel) (by decide +kernel) (by decide +kernel) (by decide +kernel) (by exact trivial) (by decide +kernel) (fun y hy=>cell_has hy)) (Yv (qF PySem.F.plainAttrs_str PySem.F.slot_str_split PySem.F.type_str_split abY (qv 0))) (fun _ _ _ _ _=>(aG af4 hr rfl afE af5.kp afZ .nil pass0 (aj (agv (K:=K) rfl (fK PySem.F.plainAttrs_tuple PySem.F.slot_tuple_index PySem.F.type_tuple_index (Z2 (K:=K) rfl) (aU (v:=.ref p8) rfl Qj rfl) (aj (qv 0) ak))) ak)))) ak)))),?_⟩
 have hwl:(Txt.words z).length=ks.length:=by rw [hw,List.length_map]
 have hwn:(Txt.words z).length≤1000:=hz2.2
 refine⟨_,rfl,rfl,z,rfl,rfl,hz1,hz2.1,hz2.2,fun D0 g0=>?_⟩
 refine⟨D0,rfl,⟨_,SqL.of upd_same⟩,?_⟩
 have S0:=same_new g0 (.lst ((Txt.words z).map V.str))
 refine adR (K:=K) (xs:=(Txt.words z).map V.str) (fun D i ys H'=>D≠D0∧H D=none∧Same H H'∧H' D0=some (.lst ((Txt.words z).map V.str))∧H' D=some (.lst ys)∧TRs K H' ((ks.take i).map W) ys∧i≤ks.length) (small (by rw [List.length_map]; lia)) (fun D hD=>?_) (fun D i ys H' j=>⟨j.2.2.2.2.1,?_,SqL.of j.2.2.2.1⟩) (fun D i x ys H' R hx j hR=>?_) (fun D ys H' j=>?_)
 ·have hne:D≠D0:=fun e=>by rw [e,upd_same] at hD; cases hD
  exact⟨hne,S0.free hD,S0.trans (same_new hD _),by rw [upd_ne hne.symm]; exact upd_same,upd_same,bM.mpr rfl,Nat.zero_le _⟩
 ·rw [j.2.2.2.2.2.1.length,List.length_map,List.length_take]
  exact Nat.min_eq_left j.2.2.2.2.2.2
 ·obtain⟨hne,hD,S,h0,h1,ht,hi⟩:=j
  rw [hw,List.map_map,List.getElem?_map] at hx
  cases hh:ks[i]? with
  | none=>rw [hh] at hx; cases hx
  | some k =>
   rw [hh] at hx
   cases hx
   have hk1:=hk k (List.mem_of_getElem? hh)
   obtain⟨e1,e2⟩:=afD k (by lia)
   refine⟨.inr (.inl ⟨rfl,Og⟩),_,rfl,p8,Ng,_,k,rfl,rfl,Pj _,e1,e2,k,rfl,hk1.1,hk1.2,fun y H3 S3 t3=>?_⟩
   refine hR _ _ (S3 _ _ h1) ⟨hne,hD,cY (S.trans S3) hD,by rw [upd_ne hne.symm]; exact S3 _ _ h0,upd_same,?_,(List.getElem?_eq_some_iff.mp hh).1⟩
   rw [List.take_succ,hh,List.map_append]
   exact TRs.append ((ht.mono (.of S3)).mono (Kt.lst (S3 _ _ h1))) (cL.mpr ⟨y,[],rfl,t3.mono (Kt.lst (S3 _ _ h1)),bM.mpr rfl⟩)
 ·obtain⟨hne,hD,S,h0,h1,ht,hi⟩:=j
  rw [List.length_map,hwl,List.take_of_length_le (Nat.le_refl _)] at ht
  refine⟨D,ys,rfl,.inl ⟨SqL.of h1,fun p hp=>?_⟩⟩
  obtain⟨S5,t5⟩:=cA (K:=K) hp ht
  exact q _ _ (S.trans S5) t5
theorem ZQ
  {mV:Addr}{mO:FuncData} (DN:Fun K "lay" "lay" uF mV mO) (Dz:FnOk P w K mg base CX0 32 mV mO ["tree"] (Mt K)) (Di:Binds K mO ["tree"] []) (Ce:mg "lay"=some (.ref mV))
  {bF:Addr}{bD:FuncData} (bL:Fun K "plains" "plains" dR bF bD) (bK:FnOk P w K mg base CX0 32 bF bD ["names"] (jh K)) (bJ:Binds K bD ["names"] []) (bH:mg "plains"=some (.ref bF))
  (F:Fun K "opening" "opening" oM f fd):FnOk P w K mg base CX0 33 f fd [] (jC K aev):=by
 refine okQ F Mw (fun vs H Q E h=>?_) (fun cdv A outer s H vs Q E hr h=>?_)
 ·obtain⟨rfl,_⟩:=h
  rfl
 obtain⟨rfl,q⟩:=h
 refine⟨_,(aA (bY (i:=0) Mw.nd rfl (Or.inl rfl) (aX bB (bh (aj (aG Dz hr rfl Ce DN.kp Di .nil pass0 (aj (bh ak) ak)) ak)) (aG bK hr rfl bH bL.kp bJ .nil pass0 (aj dU ak))))
   (aB (aQ (aX bB (aX bB (aG bK hr rfl bH bL.kp bJ .nil pass0 (aj dU ak)) (qv 0)) (qv 0))))),?_⟩
 refine⟨Nat.zero_le _,fun p1 g1=>?_⟩
 obtain⟨S1,t1⟩:=cA (K:=K) (ts:=[]) g1 (bM.mpr rfl)
 refine⟨_,leaf,rfl,t1,by decide,by decide,fun y2 H2 S2 t2=>⟨(by show 1≤sizeLine; decide),fun p3 g3=>?_⟩⟩
 obtain⟨S3,t3⟩:=cA (K:=K) g3 (fQ t2)
 refine⟨_,[6,4],rfl,by decide +kernel,by decide +kernel,by decide +kernel,by decide,fun y4 H4 S4 t4=>cD (t3.mono (.of S4)) t4 (small (by decide)) (fun y5 H5 S5 t5=>?_)⟩
 have S15:=S1.trans (S2.trans (S3.trans (S4.trans S5)))
 refine⟨_,[5],rfl,by decide +kernel,by decide +kernel,by decide +kernel,by decide,fun y6 H6 S6 t6=>⟨_,rfl,cD t6 (t5.mono (.of S6)) (small (by decide)) (fun y7 H7 S7 t7=>⟨_,rfl,cD t7 (t5.mono (.of (S6.trans S7))) (small (by decide)) (fun y8 H8 S8 t8=>?_)⟩)⟩⟩
 exact q _ _ (S15.trans (S6.trans (S7.trans S8))) t8
theorem Ke {dJ:Value} (eG:mg "WHILE"=some dJ) (dM:RelV (.int 8) dJ)
  {bF:Addr}{bD:FuncData} (bL:Fun K "plains" "plains" dR bF bD) (bK:FnOk P w K mg base CX0 32 bF bD ["names"] (jh K)) (bJ:Binds K bD ["names"] []) (bH:mg "plains"=some (.ref bF))
  (F:Fun K "nameless_gone" "nameless_gone" gb f fd):FnOk P w K mg base CX0 33 f fd [] (jC K Er):=by
 refine okQ F JV (fun vs H Q E h=>?_) (fun cdv A outer s H vs Q E hr h=>?_)
 ·obtain⟨rfl,_⟩:=h
  rfl
 obtain⟨rfl,q⟩:=h
 refine⟨_,(aB (aQ (aX bB (aX oY (aG bK hr rfl bH bL.kp bJ .nil pass0 (aj dU ak)) (aX op_add (aU (v:=.int 8) rfl eG dM) aN)) (aG bK hr rfl bH bL.kp bJ .nil pass0 (aj dU ak))))),?_⟩
 refine⟨_,[1],rfl,by decide +kernel,by decide +kernel,by decide +kernel,by decide,fun y1 H1 S1 t1=>⟨8,2,rfl,rfl,Sy 10 t1 rfl rfl (by decide) (fun y2 H2 S2 t2=>?_)⟩⟩
 refine⟨_,[4],rfl,by decide +kernel,by decide +kernel,by decide +kernel,by decide,fun y3 H3 S3 t3=>cD (t2.mono (.of S3)) t3 (small (by decide)) (fun y4 H4 S4 t4=>?_)⟩
 exact q _ _ (S1.trans (S2.trans (S3.trans S4))) t4
theorem RT {dJ:Value} (eG:mg "WHILE"=some dJ) (dM:RelV (.int 8) dJ) {gG:Value} (jF:mg "TOP_REACHED"=some gG) (gH:RelV (.str (PySem.Str.ofString "turn turn front turn part")) gG) {qw:Value} (zx:mg "PAST_BODY"=some qw) (qz:RelV (.str (PySem.Str.ofString "front turn drop swap")) qw) {qx:Value} (zy:mg "INTO_BODY"=some qx) (qC:RelV (.str (PySem.Str.ofString "front swap turn part swap twin turn front turn part turn front front swap front")) qx)
  {bF:Addr}{bD:FuncData} (bL:Fun K "plains" "plains" dR bF bD) (bK:FnOk P w K mg base CX0 32 bF bD ["names"] (jh K)) (bJ:Binds K bD ["names"] []) (bH:mg "plains"=some (.ref bF))
  {jy:Addr}{ju:FuncData} (vd:Fun K "fork" "fork" qy jy ju) (u_:FnOk P w K mg base CX0 32 jy ju ["yes","no"] (Eu K)) (uZ:Binds K ju ["yes","no"] []) (uV:mg "fork"=some (.ref jy))
  (F:Fun K "while_gone" "while_gone" ji f fd):FnOk P w K mg base CX0 33 f fd [] (jC K uO):=by
 refine okQ F DP (fun vs H Q E h=>?_) (fun cdv A outer s H vs Q E hr h=>?_)
 ·obtain⟨rfl,_⟩:=h
  rfl
 obtain⟨rfl,q⟩:=h
 refine⟨_,(aA (bY (i:=0) DP.nd rfl (Or.inl rfl) (aX bB (aX oY (aG bK hr rfl bH bL.kp bJ .nil pass0 (aj dU ak)) (aU (v:=.int 8) rfl eG dM)) (aG bK hr rfl bH bL.kp bJ .nil pass0 (aj dU ak))))
   (aB (aQ (aX bB (aX bB (qv 0) (aG bK hr rfl bH bL.kp bJ .nil pass0 (aj (aU (v:=.str (PySem.Str.ofString "turn turn front turn part")) rfl jF gH) ak))) (bh (aj (aG u_ hr rfl uV vd.kp uZ .nil pass0 (aj (aG bK hr rfl bH bL.kp bJ .nil pass0 (aj (aU (v:=.str (PySem.Str.ofString "front swap turn part swap twin turn front turn part turn front front swap front")) rfl zy qC) ak)) (aj (aG bK hr rfl bH bL.kp bJ .nil pass0 (aj (aU (v:=.str (PySem.Str.ofString "front turn drop swap")) rfl zx qz) ak)) ak))) ak)))))),?_⟩
 refine⟨_,[3,4],rfl,by decide +kernel,by decide +kernel,by decide +kernel,by decide,fun y1 H1 S1 t1=>ag6 (k:=8) 8 t1 rfl rfl (by decide) (fun y2 H2 S2 t2=>?_)⟩
 refine⟨_,[4],rfl,by decide +kernel,by decide +kernel,by decide +kernel,by decide,fun y3 H3 S3 t3=>cD (t2.mono (.of S3)) t3 (small (by decide)) (fun y4 H4 S4 t4=>?_)⟩
 have S14:=S1.trans (S2.trans (S3.trans S4))
 refine⟨_,rfl,_,[6,6,4,6,5],rfl,by decide +kernel,by decide +kernel,by decide +kernel,by decide,fun y5 H5 S5 t5=>cD (t4.mono (.of S5)) t5 (small (by decide)) (fun y6 H6 S6 t6=>?_)⟩
 refine⟨_,[4,3,6,5,3,2,6,4,6,5,6,4,4,3,4],rfl,by decide +kernel,by decide +kernel,by decide +kernel,by decide,fun y7 H7 S7 t7=>?_⟩
 refine⟨_,[4,6,1,3],rfl,by decide +kernel,by decide +kernel,by decide +kernel,by decide,fun y8 H8 S8 t8=>⟨_,_,_,_,rfl,t7.mono (.of S8),t8,⟨by decide,by decide⟩,⟨by decide,by decide⟩,fun y9 H9 S9 t9=>⟨(by show 1≤sizeLine; decide),fun p10 g10=>?_⟩⟩⟩
 obtain⟨S10,t10⟩:=cA (K:=K) g10 (fQ t9)
 have Wq:=S7.trans (S8.trans (S9.trans S10))
 exact cD (t6.mono (.of Wq)) t10 (small (by decide)) (fun y11 H11 S11 t11=>q _ _ (S14.trans (S5.trans (S6.trans (Wq.trans S11)))) t11)
theorem ZS {yG:Value} (Ii:mg "LAY"=some yG) (yH:RelV (.int 0) yG) {Eo:Value} (Vg:mg "LAID"=some Eo) (Fe:RelV (.str (PySem.Str.ofString "turn turn front turn turn front swap")) Eo) {jM:Value} (m_:mg "FORK"=some jM) (jR:RelV (.int 7) jM) {gG:Value} (jF:mg "TOP_REACHED"=some gG) (gH:RelV (.str (PySem.Str.ofString "turn turn front turn part")) gG) {uM:Value} (FW:mg "INTO_NO"=some uM) (uT:RelV (.str (PySem.Str.ofString "front swap turn part drop front")) uM) {rN:Value} (Cg:mg "INTO_YES"=some rN) (rR:RelV (.str (PySem.Str.ofString "front swap turn part swap drop front")) rN) {k_:Value} (tW:mg "STACK_PARTED"=some k_) (lu:RelV (.str (PySem.Str.ofString "drop front swap part")) k_) {iH:Addr} (KD:mg "WORKED"=some (.ref iH)) (oX:∀ H,SqT K H iH [.str (PySem.Str.ofString ""),.str (PySem.Str.ofString "drop"),.str (PySem.Str.ofString "twin turn swap front swap front"),.str (PySem.Str.ofString "swap part swap turn front swap front"),.str (PySem.Str.ofString "swap part turn front front"),.str (PySem.Str.ofString "part turn turn front swap front"),.str (PySem.Str.ofString "swap part swap part swap turn front turn front swap front")])
  {bF:Addr}{bD:FuncData} (bL:Fun K "plains" "plains" dR bF bD) (bK:FnOk P w K mg base CX0 33 bF bD ["names"] (jh K)) (bJ:Binds K bD ["names"] []) (bH:mg "plains"=some (.ref bF))
  {jy:Addr}{ju:FuncData} (vd:Fun K "fork" "fork" qy jy ju) (u_:FnOk P w K mg base CX0 33 jy ju ["yes","no"] (Eu K)) (uZ:Binds K ju ["yes","no"] []) (uV:mg "fork"=some (.ref jy))
  (F:Fun K "gone_of" "gone_of" oO f fd):FnOk P w K mg base CX0 34 f fd ["sort"] (TJ K):=by
 refine okQ F Mx (fun vs H Q E h=>?_) (fun cdv A outer s H vs Q E hr h=>?_)
 ·obtain⟨k,rfl,_⟩:=h
  rfl
 obtain⟨k,rfl,h7,q⟩:=h
 refine⟨_,(aA (bY (i:=1) Mx.nd rfl (Or.inl rfl) (aX oY (aG bK hr rfl bH bL.kp bJ .nil pass0 (aj dU ak)) (aX op_add (qv 0) aN)))
   (aA (cg (bA op_eq (qv 0) (aU (v:=.int 0) rfl Ii yH) (nomark _)) (aB (aQ (aX bB (qv 1) (aG bK hr rfl bH bL.kp bJ .nil pass0 (aj (aU (v:=.str (PySem.Str.ofString "turn turn front turn turn front swap")) rfl Vg Fe) ak))))) bR)
   (aA (cg (bA op_eq (qv 0) (aU (v:=.int 7) rfl m_ jR) (nomark _)) (aB (aQ (aX bB (aX bB (qv 1) (aG bK hr rfl bH bL.kp bJ .nil pass0 (aj (aU (v:=.str (PySem.Str.ofString "turn turn front turn part")) rfl jF gH) ak))) (bh (aj (aG u_ hr rfl uV vd.kp uZ .nil pass0 (aj (aG bK hr rfl bH bL.kp bJ .nil pass0 (aj (aU (v:=.str (PySem.Str.ofString "front swap turn part swap drop front")) rfl Cg rR) ak)) (aj (aG bK hr rfl bH bL.kp bJ .nil pass0 (aj (aU (v:=.str (PySem.Str.ofString "front swap turn part drop front")) rfl FW uT) ak)) ak))) ak))))) bR)
   (aB (aQ (aX bB (aX bB (aX bB (qv 1) (aG bK hr rfl bH bL.kp bJ .nil pass0 (aj (aU (v:=.str (PySem.Str.ofString "drop front swap part")) rfl tW lu) ak))) (aG bK hr rfl bH bL.kp bJ .nil pass0 (aj (gk jq (aU (v:=.ref iH) rfl KD rfl) (qv 0) (fun _ _=>rfl)) ak))) (aG bK hr rfl bH bL.kp bJ .nil pass0 (aj dU ak)))))))),?_⟩
 refine⟨_,[1],rfl,by decide +kernel,by decide +kernel,by decide +kernel,by decide,fun y1 H1 S1 t1=>⟨_,rfl,_,_,rfl,rfl,Sy (k+1) t1 rfl rfl (by lia) (fun y2 H2 S2 t2=>?_)⟩⟩
 have S12:=S1.trans S2
 refine⟨_,rfl,rfl,_,rfl,ite2 (fun h0=>?_) (fun h0=>?_)⟩
 ·obtain rfl:k=0:=by have:=V.int.inj (of_decide_eq_true h0); lia
  refine⟨_,rfl,_,[6,6,4,6,6,4,3],rfl,by decide +kernel,by decide +kernel,by decide +kernel,by decide,fun y3 H3 S3 t3=>cD (t2.mono (.of S3)) t3 (small (by decide)) (fun y4 H4 S4 t4=>q _ _ (S12.trans (S3.trans S4)) t4)⟩
 refine⟨_,rfl,rfl,_,rfl,ite2 (fun h7=>?_) (fun h7=>?_)⟩
 ·obtain rfl:k=7:=by have:=V.int.inj (of_decide_eq_true h7); lia
  refine⟨_,rfl,_,[6,6,4,6,5],rfl,by decide +kernel,by decide +kernel,by decide +kernel,by decide,fun y5 H5 S5 t5=>cD (t2.mono (.of S5)) t5 (small (by decide)) (fun y6 H6 S6 t6=>?_)⟩
  refine⟨_,[4,3,6,5,3,1,4],rfl,by decide +kernel,by decide +kernel,by decide +kernel,by decide,fun y7 H7 S7 t7=>?_⟩
  refine⟨_,[4,3,6,5,1,4],rfl,by decide +kernel,by decide +kernel,by decide +kernel,by decide,fun y8 H8 S8 t8=>⟨_,_,_,_,rfl,t7.mono (.of S8),t8,⟨by decide,by decide⟩,⟨by decide,by decide⟩,fun y9 H9 S9 t9=>⟨(by show 1≤sizeLine; decide),fun p10 g10=>?_⟩⟩⟩
  obtain⟨S10,t10⟩:=cA (K:=K) g10 (fQ t9)
  have Wq:=S7.trans (S8.trans (S9.trans S10))
  exact cD (t6.mono (.of Wq)) t10 (small (by decide)) (fun y11 H11 S11 t11=>q _ _ (S12.trans (S5.trans (S6.trans (Wq.trans S11)))) t11)
 have h0:k≠0:=fun z=>h0 (by subst z; exact decide_eq_true rfl)
 have h7:k≠7:=fun z=>h7 (by subst z; exact decide_eq_true rfl)
 refine⟨_,rfl,_,[1,4,3,5],rfl,by decide +kernel,by decide +kernel,by decide +kernel,by decide,fun y3 H3 S3 t3=>cD (t2.mono (.of S3)) t3 (small (by rw [aiX]; show _+4≤_; lia)) (fun y4 H4 S4 t4=>?_)⟩
 have S14:=S12.trans (S3.trans S4)
 rcases (by lia:k=1∨k=2∨k=3∨k=4∨k=5∨k=6) with rfl | rfl | rfl | rfl | rfl | rfl
 ·refine⟨_,rfl,iH,_,_,_,rfl,rfl,oX _,rfl,_,[1],rfl,by decide +kernel,by decide +kernel,by decide +kernel,by decide,fun y5 H5 S5 t5=>cD (t4.mono (.of S5)) t5 (small (by decide)) (fun y6 H6 S6 t6=>?_)⟩
  refine⟨_,[3],rfl,by decide +kernel,by decide +kernel,by decide +kernel,by decide,fun y7 H7 S7 t7=>cD (t6.mono (.of S7)) t7 (small (by decide)) (fun y8 H8 S8 t8=>q _ _ (S14.trans (S5.trans (S6.trans (S7.trans S8)))) t8)⟩
 ·refine⟨_,rfl,iH,_,_,_,rfl,rfl,oX _,rfl,_,[2,6,3,4,3,4],rfl,by decide +kernel,by decide +kernel,by decide +kernel,by decide,fun y5 H5 S5 t5=>cD (t4.mono (.of S5)) t5 (small (by decide)) (fun y6 H6 S6 t6=>?_)⟩
  refine⟨_,[3],rfl,by decide +kernel,by decide +kernel,by decide +kernel,by decide,fun y7 H7 S7 t7=>cD (t6.mono (.of S7)) t7 (small (by decide)) (fun y8 H8 S8 t8=>q _ _ (S14.trans (S5.trans (S6.trans (S7.trans S8)))) t8)⟩
 ·refine⟨_,rfl,iH,_,_,_,rfl,rfl,oX _,rfl,_,[3,5,3,6,4,3,4],rfl,by decide +kernel,by decide +kernel,by decide +kernel,by decide,fun y5 H5 S5 t5=>cD (t4.mono (.of S5)) t5 (small (by decide)) (fun y6 H6 S6 t6=>?_)⟩
  refine⟨_,[3],rfl,by decide +kernel,by decide +kernel,by decide +kernel,by decide,fun y7 H7 S7 t7=>cD (t6.mono (.of S7)) t7 (small (by decide)) (fun y8 H8 S8 t8=>q _ _ (S14.trans (S5.trans (S6.trans (S7.trans S8)))) t8)⟩
 ·refine⟨_,rfl,iH,_,_,_,rfl,rfl,oX _,rfl,_,[3,5,6,4,4],rfl,by decide +kernel,by decide +kernel,by decide +kernel,by decide,fun y5 H5 S5 t5=>cD (t4.mono (.of S5)) t5 (small (by decide)) (fun y6 H6 S6 t6=>?_)⟩
  refine⟨_,[3],rfl,by decide +kernel,by decide +kernel,by decide +kernel,by decide,fun y7 H7 S7 t7=>cD (t6.mono (.of S7)) t7 (small (by decide)) (fun y8 H8 S8 t8=>q _ _ (S14.trans (S5.trans (S6.trans (S7.trans S8)))) t8)⟩
 ·refine⟨_,rfl,iH,_,_,_,rfl,rfl,oX _,rfl,_,[5,6,6,4,3,4],rfl,by decide +kernel,by decide +kernel,by decide +kernel,by decide,fun y5 H5 S5 t5=>cD (t4.mono (.of S5)) t5 (small (by decide)) (fun y6 H6 S6 t6=>?_)⟩
  refine⟨_,[3],rfl,by decide +kernel,by decide +kernel,by decide +kernel,by decide,fun y7 H7 S7 t7=>cD (t6.mono (.of S7)) t7 (small (by decide)) (fun y8 H8 S8 t8=>q _ _ (S14.trans (S5.trans (S6.trans (S7.trans S8)))) t8)⟩
 ·refine⟨_,rfl,iH,_,_,_,rfl,rfl,oX _,rfl,_,[3,5,3,5,3,6,4,6,4,3,4],rfl,by decide +kernel,by decide +kernel,by decide +kernel,by decide,fun y5 H5 S5 t5=>cD (t4.mono (.of S5)) t5 (small (by decide)) (fun y6 H6 S6 t6=>?_)⟩
  refine⟨_,[3],rfl,by decide +kernel,by decide +kernel,by decide +kernel,by decide,fun y7 H7 S7 t7=>cD (t6.mono (.of S7)) t7 (small (by decide)) (fun y8 H8 S8 t8=>q _ _ (S14.trans (S5.trans (S6.trans (S7.trans S8)))) t8)⟩
theorem ZV (je:mg "range"=none) (mK:mg "reversed"=none) {dJ:Value} (eG:mg "WHILE"=some dJ) (dM:RelV (.int 8) dJ)
  {jy:Addr}{ju:FuncData} (vd:Fun K "fork" "fork" qy jy ju) (u_:FnOk P w K mg base CX0 34 jy ju ["yes","no"] (Eu K)) (uZ:Binds K ju ["yes","no"] []) (uV:mg "fork"=some (.ref jy))
  {yd:Addr}{xM:FuncData} (WK:Fun K "while_gone" "while_gone" ji yd xM) (Wu:FnOk P w K mg base CX0 34 yd xM [] (jC K uO)) (V9:Binds K xM [] []) (U5:mg "while_gone"=some (.ref yd))
  {tH:Addr}{sW:FuncData} (NQ:Fun K "nameless_gone" "nameless_gone" gb tH sW) (Nz:FnOk P w K mg base CX0 34 tH sW [] (jC K Er)) (Nr:Binds K sW [] []) (Nh:mg "nameless_gone"=some (.ref tH))
  {Hj:Addr}{Gv:FuncData} (acT:Fun K "gone_of" "gone_of" oO Hj Gv) (acL:FnOk P w K mg base CX0 34 Hj Gv ["sort"] (TJ K)) (acy:Binds K Gv ["sort"] []) (ab6:mg "gone_of"=some (.ref Hj))
  {bF:Addr}{bD:FuncData} (bL:Fun K "plains" "plains" dR bF bD) (bK:FnOk P w K mg base CX0 34 bF bD ["names"] (jh K)) (bJ:Binds K bD ["names"] []) (bH:mg "plains"=some (.ref bF))
  (F:Fun K "by_sort" "by_sort" oR f fd):FnOk P w K mg base CX0 35 f fd [] (jC K (cu 8)):=by
 refine okQ F vK (fun vs H Q E h=>?_) (fun cdv A outer s H vs Q E hr h=>?_)
 ·obtain⟨rfl,_⟩:=h
  rfl
 obtain⟨rfl,q⟩:=h
 refine⟨_,(aA (bY (i:=0) vK.nd rfl (Or.inl rfl) (bh (aj (aG u_ hr rfl uV vd.kp uZ .nil pass0 (aj (j9 Nz hr rfl Nh NQ.kp Nr .nil pass0) (aj (j9 Wu hr rfl U5 WK.kp V9 .nil pass0) ak))) ak)))
   (aA (Ug PassesOwn.never rfl (ae9 rfl je rfl mK (aj (aU (v:=.int 8) rfl eG dM) ak)) (HX (i:=1) vK.nd rfl (Or.inl rfl)) (aB (bY (i:=0) vK.nd rfl (Or.inl rfl) (bh (aj (aG u_ hr rfl uV vd.kp uZ .nil pass0 (aj (aX bB (aG bK hr rfl bH bL.kp bJ .nil pass0 (aj dU ak)) (qv 0)) (aj (aG acL hr rfl ab6 acT.kp acy .nil pass0 (aj (qv 1) ak)) ak))) ak)))))
   (aB (aQ (qv 0))))),?_⟩
 refine⟨rfl,fun y1 H1 S1 t1=>⟨rfl,fun y2 H2 S2 t2=>⟨_,_,_,_,rfl,t1.mono (.of S2),t2,⟨by decide,by decide⟩,⟨by decide,by decide⟩,fun y3 H3 S3 t3=>⟨(by show 1≤sizeLine; decide),fun p4 g4=>?_⟩⟩⟩⟩
 obtain⟨S4,t4⟩:=cA (K:=K) g4 (fQ t3)
 refine⟨rfl,?_⟩
 refine ad8 (fun i σ' H'=>∃ v o,σ'=[some v,o]∧Same H H'∧TR K H' (.node (cu i)) v) ?_ ?_ ?_
 ·exact⟨_,_,rfl,S1.trans (S2.trans (S3.trans S4)),t4⟩
 ·rintro i σ' H' hi ⟨v,o,rfl,S,ht⟩
  dsimp only [gName]
  have hl1:(cu i).length=1:=by cases i <;> rfl
  refine⟨_,[5,3],rfl,by decide +kernel,by decide +kernel,by decide +kernel,by decide,fun y5 H5 S5 t5=>⟨_,rfl,cD t5 (ht.mono (.of S5)) (small (by rw [hl1]; decide)) (fun y6 H6 S6 t6=>?_)⟩⟩
  refine⟨_,rfl,7 - i,(by show [V.int (7 - (i:Int))]=_; rw [show (((7 - i:Nat):Int))=7 - (i:Int) by lia]),by lia,fun y7 H7 S7 t7=>?_⟩
  have bi:=agf i (by lia)
  have bg:=ahw (7 - i) (by lia)
  refine⟨_,_,_,_,rfl,t6.mono (.of S7),t7,bi,bg,fun y8 H8 S8 t8=>⟨(by show 1≤sizeLine; decide),fun p9 g9=>?_⟩⟩
  obtain⟨S9,t9⟩:=cA (K:=K) g9 (fQ t8)
  exact⟨_,_,rfl,S.trans (S5.trans (S6.trans (S7.trans (S8.trans S9)))),t9⟩
 ·rintro σ' H' ⟨v,o,rfl,S,ht⟩
  exact⟨_,rfl,q _ _ S ht⟩
theorem ZL
  {bF:Addr}{bD:FuncData} (bL:Fun K "plains" "plains" dR bF bD) (bK:FnOk P w K mg base CX0 35 bF bD ["names"] (jh K)) (bJ:Binds K bD ["names"] []) (bH:mg "plains"=some (.ref bF))
  {Hl:Addr}{Gw:FuncData} (acU:Fun K "by_sort" "by_sort" oR Hl Gw) (acM:FnOk P w K mg base CX0 35 Hl Gw [] (jC K (cu 8))) (acz:Binds K Gw [] []) (ab7:mg "by_sort"=some (.ref Hl))
  {jy:Addr}{ju:FuncData} (vd:Fun K "fork" "fork" qy jy ju) (u_:FnOk P w K mg base CX0 35 jy ju ["yes","no"] (Eu K)) (uZ:Binds K ju ["yes","no"] []) (uV:mg "fork"=some (.ref jy))
  (F:Fun K "stepped" "stepped" oH f fd):FnOk P w K mg base CX0 36 f fd [] (jC K fZ):=by
 refine okQ F Bv (fun vs H Q E h=>?_) (fun cdv A outer s H vs Q E hr h=>?_)
 ·obtain⟨rfl,_⟩:=h
  rfl
 obtain⟨rfl,q⟩:=h
 refine⟨_,(aA (bY (i:=0) Bv.nd rfl (Or.inl rfl) (aX bB (aG bK hr rfl bH bL.kp bJ .nil pass0 (aj dU ak)) (j9 acM hr rfl ab7 acU.kp acz .nil pass0)))
   (aA (bY (i:=1) Bv.nd rfl (Or.inl rfl) (aG bK hr rfl bH bL.kp bJ .nil pass0 (aj dU ak)))
   (aB (aQ (aX bB (aG bK hr rfl bH bL.kp bJ .nil pass0 (aj dU ak)) (bh (aj (aG u_ hr rfl uV vd.kp uZ .nil pass0 (aj (qv 0) (aj (qv 1) ak))) ak))))))),?_⟩
 refine⟨_,[5,5],rfl,by decide +kernel,by decide +kernel,by decide +kernel,by decide,fun y1 H1 S1 t1=>⟨rfl,fun y2 H2 S2 t2=>cD (t1.mono (.of S2)) t2 (small (by decide)) (fun y3 H3 S3 t3=>?_)⟩⟩
 have S13:=S1.trans (S2.trans S3)
 refine⟨_,[1],rfl,by decide +kernel,by decide +kernel,by decide +kernel,by decide,fun y4 H4 S4 t4=>?_⟩
 refine⟨_,[5],rfl,by decide +kernel,by decide +kernel,by decide +kernel,by decide,fun y5 H5 S5 t5=>⟨_,rfl,_,rfl,_,_,_,_,rfl,t3.mono (.of (S4.trans S5)),t4.mono (.of S5),⟨by decide +kernel,by decide +kernel⟩,⟨by decide,by decide⟩,fun y6 H6 S6 t6=>⟨(by show 1≤sizeLine; decide),fun p7 g7=>?_⟩⟩⟩
 obtain⟨S7,t7⟩:=cA (K:=K) g7 (fQ t6)
 exact cD (t5.mono (.of (S6.trans S7))) t7 (small (by decide)) (fun y8 H8 S8 t8=>q _ _ (S13.trans (S4.trans (S5.trans (S6.trans (S7.trans S8))))) t8)
theorem Ut
  {Wi:Addr}{VP:FuncData} (aiC:Fun K "loop" "loop" wD Wi VP) (aix:FnOk P w K mg base CX0 36 Wi VP ["body"] (abq K)) (air:Binds K VP ["body"] []) (aha:mg "loop"=some (.ref Wi))
  {G_:Addr}{Gk:FuncData} (acO:Fun K "stepped" "stepped" oH G_ Gk) (acG:FnOk P w K mg base CX0 36 G_ Gk [] (jC K fZ)) (acr:Binds K Gk [] []) (ab1:mg "stepped"=some (.ref G_))
  {bF:Addr}{bD:FuncData} (bL:Fun K "plains" "plains" dR bF bD) (bK:FnOk P w K mg base CX0 36 bF bD ["names"] (jh K)) (bJ:Binds K bD ["names"] []) (bH:mg "plains"=some (.ref bF))
  (F:Fun K "from_head" "from_head" j8 f fd):FnOk P w K mg base CX0 37 f fd [] (jC K bU):=by
 refine okQ F T9 (fun vs H Q E h=>?_) (fun cdv A outer s H vs Q E hr h=>?_)
 ·obtain⟨rfl,_⟩:=h
  rfl
 obtain⟨rfl,q⟩:=h
 refine⟨_,(aB (aQ (aX bB (bh (aj (aG aix hr rfl aha aiC.kp air .nil pass0 (aj (j9 acG hr rfl ab1 acO.kp acr .nil pass0) ak)) ak)) (aG bK hr rfl bH bL.kp bJ .nil pass0 (aj dU ak))))),?_⟩
 refine⟨rfl,fun y1 H1 S1 t1=>⟨_,_,rfl,t1,by decide +kernel,by decide +kernel,fun y2 H2 S2 t2=>⟨(by show 1≤sizeLine; decide),fun p3 g3=>?_⟩⟩⟩
 obtain⟨S3,t3⟩:=cA (K:=K) g3 (fQ t2)
 refine⟨_,[1,5,3,1],rfl,by decide +kernel,by decide +kernel,by decide +kernel,by decide,fun y4 H4 S4 t4=>cD (t3.mono (.of S4)) t4 (small (by decide)) (fun y5 H5 S5 t5=>q _ _ (S1.trans (S2.trans (S3.trans (S4.trans S5)))) t5)⟩
theorem RW
  {Hh:Addr}{Gp:FuncData} (acR:Fun K "opening" "opening" oM Hh Gp) (acJ:FnOk P w K mg base CX0 37 Hh Gp [] (jC K aev)) (acv:Binds K Gp [] []) (ab4:mg "opening"=some (.ref Hh))
  {zW:Addr}{zK:FuncData} (X_:Fun K "from_head" "from_head" j8 zW zK) (X3:FnOk P w K mg base CX0 37 zW zK [] (jC K bU)) (XF:Binds K zK [] []) (Xq:mg "from_head"=some (.ref zW))
  (F:Fun K "selfrunner" "selfrunner" jj f fd):FnOk P w K mg base CX0 38 f fd [] (jC K eU):=by
 refine okQ F RK (fun vs H Q E h=>?_) (fun cdv A outer s H vs Q E hr h=>?_)
 ·obtain⟨rfl,_⟩:=h
  rfl
 obtain⟨rfl,q⟩:=h
 refine⟨_,(aB (aQ (aX bB (j9 acJ hr rfl ab4 acR.kp acv .nil pass0) (j9 X3 hr rfl Xq X_.kp XF .nil pass0)))),?_⟩
 exact⟨rfl,fun y1 H1 S1 t1=>⟨rfl,fun y2 H2 S2 t2=>cD (t1.mono (.of S2)) t2 (small (by decide)) (fun y3 H3 S3 t3=>q _ _ (S1.trans (S2.trans S3)) t3)⟩⟩
theorem Xi
  {mV:Addr}{mO:FuncData} (DN:Fun K "lay" "lay" uF mV mO) (Dz:FnOk P w K mg base CX0 32 mV mO ["tree"] (Mt K)) (Di:Binds K mO ["tree"] []) (Ce:mg "lay"=some (.ref mV))
  {bF:Addr}{bD:FuncData} (bL:Fun K "plains" "plains" dR bF bD) (bK:FnOk P w K mg base CX0 32 bF bD ["names"] (jh K)) (bJ:Binds K bD ["names"] []) (bH:mg "plains"=some (.ref bF))
  (F:Fun K "lay_made" "lay_made" mq f fd):FnOk P w K mg base CX0 33 f fd [] (jC K (Bs [])):=by
 refine okQ F W5 (fun vs H Q E h=>?_) (fun cdv A outer s H vs Q E hr h=>?_)
 ·obtain⟨rfl,_⟩:=h
  rfl
 obtain⟨rfl,q⟩:=h
 refine⟨_,(aB (aQ (aX bB (bh (aj (aG Dz hr rfl Ce DN.kp Di .nil pass0 (aj (bh ak) ak)) ak)) (aG bK hr rfl bH bL.kp bJ .nil pass0 (aj dU ak))))),?_⟩
 refine⟨Nat.zero_le _,fun p1 g1=>?_⟩
 obtain⟨S1,t1⟩:=cA (K:=K) (ts:=[]) g1 (bM.mpr rfl)
 refine⟨_,leaf,rfl,t1,by decide,by decide,fun y2 H2 S2 t2=>⟨(by show 1≤sizeLine; decide),fun p3 g3=>?_⟩⟩
 obtain⟨S3,t3⟩:=cA (K:=K) g3 (fQ t2)
 refine⟨_,[4],rfl,by decide +kernel,by decide +kernel,by decide +kernel,by decide,fun y4 H4 S4 t4=>cD (t3.mono (.of S4)) t4 (small (by decide)) (fun y5 H5 S5 t5=>q _ _ (S1.trans (S2.trans (S3.trans (S4.trans S5)))) t5)⟩
theorem Ur
  {bF:Addr}{bD:FuncData} (bL:Fun K "plains" "plains" dR bF bD) (bK:FnOk P w K mg base CX0 33 bF bD ["names"] (jh K)) (bJ:Binds K bD ["names"] []) (bH:mg "plains"=some (.ref bF))
  {Dm:Addr}{CP:FuncData} (aa2:Fun K "lay_made" "lay_made" mq Dm CP) (aaX:FnOk P w K mg base CX0 33 Dm CP [] (jC K (Bs []))) (aaL:Binds K CP [] []) (Z8:mg "lay_made"=some (.ref Dm))
  (F:Fun K "selfmaker" "selfmaker" j7 f fd):FnOk P w K mg base CX0 34 f fd [] (jC K (wj [])):=by
 refine okQ F T5 (fun vs H Q E h=>?_) (fun cdv A outer s H vs Q E hr h=>?_)
 ·obtain⟨rfl,_⟩:=h
  rfl
 obtain⟨rfl,q⟩:=h
 refine⟨_,(aB (aQ (aX bB (aX bB (aG bK hr rfl bH bL.kp bJ .nil pass0 (aj dU ak)) (j9 aaX hr rfl Z8 aa2.kp aaL .nil pass0)) (aG bK hr rfl bH bL.kp bJ .nil pass0 (aj dU ak))))),?_⟩
 refine⟨_,[2],rfl,by decide +kernel,by decide +kernel,by decide +kernel,by decide,fun y1 H1 S1 t1=>⟨rfl,fun y2 H2 S2 t2=>cD (t1.mono (.of S2)) t2 (small (by decide)) (fun y3 H3 S3 t3=>?_)⟩⟩
 refine⟨_,[4],rfl,by decide +kernel,by decide +kernel,by decide +kernel,by decide,fun y4 H4 S4 t4=>cD (t3.mono (.of S4)) t4 (small (by decide)) (fun y5 H5 S5 t5=>q _ _ (S1.trans (S2.trans (S3.trans (S4.trans S5)))) t5)⟩
theorem Xg
  {mV:Addr}{mO:FuncData} (DN:Fun K "lay" "lay" uF mV mO) (Dz:FnOk P w K mg base CX0 31 mV mO ["tree"] (Mt K)) (Di:Binds K mO ["tree"] []) (Ce:mg "lay"=some (.ref mV))
  (F:Fun K "selfmade" "selfmade" mj f fd):FnOk P w K mg base CX0 32 f fd ["body"] (Mr K):=by
 refine okQ F W3 (fun vs H Q E h=>?_) (fun cdv A outer s H vs Q E hr h=>?_)
 ·obtain⟨x,b,rfl,_⟩:=h
  rfl
 obtain⟨x,b,rfl,hx,hb,q⟩:=h
 refine⟨_,(aB (aQ (aX bB (bh (aj (aG Dz hr rfl Ce DN.kp Di .nil pass0 (aj (qv 0) ak)) ak)) (qv 0)))),?_⟩
 have hl:=hb.len
 refine⟨_,rfl,x,.node b,rfl,hx,by have:=hb.1; lia,by have:=hb.2; lia,fun y1 H1 S1 t1=>⟨(by show 1≤sizeLine; decide),fun p2 g2=>?_⟩⟩
 obtain⟨S2,t2⟩:=cA (K:=K) g2 (fQ t1)
 exact⟨_,rfl,cD t2 (hx.mono (.of (S1.trans S2))) (small (by rw [List.length_singleton]; lia)) (fun y3 H3 S3 t3=>q _ _ (S1.trans (S2.trans S3)) t3)⟩
theorem Xk
  {bF:Addr}{bD:FuncData} (bL:Fun K "plains" "plains" dR bF bD) (bK:FnOk P w K mg base CX0 38 bF bD ["names"] (jh K)) (bJ:Binds K bD ["names"] []) (bH:mg "plains"=some (.ref bF))
  {yg:Addr}{xO:FuncData} (Hv:Fun K "selfrunner" "selfrunner" jj yg xO) (Ht:FnOk P w K mg base CX0 38 yg xO [] (jC K eU)) (GX:Binds K xO [] []) (FN:mg "selfrunner"=some (.ref yg))
  (F:Fun K "both_run" "both_run" mF f fd):FnOk P w K mg base CX0 39 f fd ["own_made"] (Rp K):=by
 refine okQ F W_ (fun vs H Q E h=>?_) (fun cdv A outer s H vs Q E hr h=>?_)
 ·obtain⟨x,m,rfl,_⟩:=h
  rfl
 obtain⟨x,m,rfl,hx,hm,q⟩:=h
 refine⟨_,(aB (aQ (aX bB (aX bB (aX bB (aX bB (aX bB (aG bK hr rfl bH bL.kp bJ .nil pass0 (aj dU ak)) (qv 0)) (aG bK hr rfl bH bL.kp bJ .nil pass0 (aj dU ak))) (j9 Ht hr rfl FN Hv.kp GX .nil pass0)) (aG bK hr rfl bH bL.kp bJ .nil pass0 (aj dU ak))) (j9 Ht hr rfl FN Hv.kp GX .nil pass0)))),?_⟩
 have e1:(eU:List T).length=12:=by decide
 refine⟨_,[3],rfl,by decide +kernel,by decide +kernel,by decide +kernel,by decide,fun y1 H1 S1 t1=>⟨_,rfl,cD t1 (hx.mono (.of S1)) (small (by show 1+_≤_; lia)) (fun y2 H2 S2 t2=>?_)⟩⟩
 refine⟨_,[3,4],rfl,by decide +kernel,by decide +kernel,by decide +kernel,by decide,fun y3 H3 S3 t3=>cD (t2.mono (.of S3)) t3 (small (by rw [List.length_append]; show 1+_+2≤_; lia)) (fun y4 H4 S4 t4=>?_)⟩
 refine⟨rfl,fun y5 H5 S5 t5=>cD (t4.mono (.of S5)) t5 (small (by rw [List.length_append,List.length_append,e1]; show 1+_+2+_≤_; lia)) (fun y6 H6 S6 t6=>?_)⟩
 refine⟨_,[4],rfl,by decide +kernel,by decide +kernel,by decide +kernel,by decide,fun y7 H7 S7 t7=>cD (t6.mono (.of S7)) t7 (small (by rw [List.length_append,List.length_append,List.length_append,e1]; show 1+_+2+_+1≤_; lia)) (fun y8 H8 S8 t8=>?_)⟩
 refine⟨rfl,fun y9 H9 S9 t9=>cD (t8.mono (.of S9)) t9 (small (by rw [List.length_append,List.length_append,List.length_append,List.length_append,e1]; show 1+_+2+_+1+_≤_; lia)) (fun y10 H10 S10 t10=>?_)⟩
 refine q _ _ (S1.trans (S2.trans (S3.trans (S4.trans (S5.trans (S6.trans (S7.trans (S8.trans (S9.trans S10))))))))) ?_
 rw [List.append_assoc,List.append_assoc,List.append_assoc,List.append_assoc] at t10
 exact t10
theorem Us
  {mV:Addr}{mO:FuncData} (DN:Fun K "lay" "lay" uF mV mO) (Dz:FnOk P w K mg base CX0 39 mV mO ["tree"] (Mt K)) (Di:Binds K mO ["tree"] []) (Ce:mg "lay"=some (.ref mV))
  {Dq:Addr}{CV:FuncData} (aa4:Fun K "both_run" "both_run" mF Dq CV) (aaZ:FnOk P w K mg base CX0 39 Dq CV ["own_made"] (Rp K)) (aaN:Binds K CV ["own_made"] []) (aac:mg "both_run"=some (.ref Dq))
  {zV:Addr}{zJ:FuncData} (X8:Fun K "selfmaker" "selfmaker" j7 zV zJ) (XS:FnOk P w K mg base CX0 39 zV zJ [] (jC K (wj []))) (XD:Binds K zJ [] []) (Xp:mg "selfmaker"=some (.ref zV))
  (F:Fun K "knot_body" "knot_body" iM f fd):FnOk P w K mg base CX0 40 f fd ["text"] (Oq K):=by
 refine okQ F T7 (fun vs H Q E h=>?_) (fun cdv A outer s H vs Q E hr h=>?_)
 ·obtain⟨x,f,rfl,_⟩:=h
  rfl
 obtain⟨x,f,rfl,hx,hf,q⟩:=h
 refine⟨_,(aB (aQ (aX bB (bh (aj (aG Dz hr rfl Ce DN.kp Di .nil pass0 (aj (qv 0) ak)) ak)) (aG aaZ hr rfl aac aa4.kp aaN .nil pass0 (aj (j9 XS hr rfl Xp X8.kp XD .nil pass0) ak))))),?_⟩
 refine⟨_,rfl,x,.node f,rfl,hx,by have:=hf.1; lia,by have:=hf.2; lia,fun y1 H1 S1 t1=>⟨(by show 1≤sizeLine; decide),fun p2 g2=>?_⟩⟩
 obtain⟨S2,t2⟩:=cA (K:=K) g2 (fQ t1)
 refine⟨rfl,fun y3 H3 S3 t3=>⟨y3,wj [],rfl,t3,by decide,fun y4 H4 S4 t4=>?_⟩⟩
 have S24:=S3.trans S4
 exact cD (t2.mono (.of S24)) t4 (small (by show 1+(bothW (wj [])).length≤_; decide)) (fun y5 H5 S5 t5=>q _ _ (S1.trans (S2.trans (S24.trans S5))) t5)
theorem afv
  {Dk:Addr}{CK:FuncData} (aa0:Fun K "selfmade" "selfmade" mj Dk CK) (aaV:FnOk P w K mg base CX0 40 Dk CK ["body"] (Mr K)) (aaJ:Binds K CK ["body"] []) (Z5:mg "selfmade"=some (.ref Dk))
  {kO:Addr}{kj:FuncData} (Ad:Fun K "knot_body" "knot_body" iM kO kj) (Ab:FnOk P w K mg base CX0 40 kO kj ["text"] (Oq K)) (zR:Binds K kj ["text"] []) (zu:mg "knot_body"=some (.ref kO))
  (F:Fun K "knot" "knot" wF f fd):FnOk P w K mg base CX0 41 f fd ["text"] (abt K):=by
 refine okQ F aeZ (fun vs H Q E h=>?_) (fun cdv A outer s H vs Q E hr h=>?_)
 ·obtain⟨x,f,rfl,_⟩:=h
  rfl
 obtain⟨x,f,rfl,hx,hf,q⟩:=h
 refine⟨_,(aB (aQ (aG aaV hr rfl Z5 aa0.kp aaJ .nil pass0 (aj (aG Ab hr rfl zu Ad.kp zR .nil pass0 (aj (qv 0) ak)) ak)))),?_⟩
 exact⟨_,rfl,x,f,rfl,hx,hf,fun y1 H1 S1 t1=>⟨y1,eE f,rfl,t1,acW hf,fun y2 H2 S2 t2=>q _ _ (S1.trans S2) t2⟩⟩
theorem adK (cF:mg "tuple"=none) (Ie:mg "zip"=none)
  (F:Fun K "added" "added" pL f fd):FnOk P w K mg base CX0 31 f fd ["one","other"] (Ov K):=by
 refine okQ F adl (fun vs H Q E h=>?_) (fun cdv A outer s H vs Q E hr h=>?_)
 ·obtain⟨a,b,ns,ms,rfl,_⟩:=h
  rfl
 obtain⟨a,b,ns,ms,rfl,ha,hb,hn,hm,q⟩:=h
 refine⟨_,(aB (aQ (jT gJ rfl cF mQ (aj (agu rfl (rH (fr:=[]) (js:=[]) (sc:=defScope pL) rfl rfl rfl (by decide +kernel) (by decide +kernel) (by decide +kernel) (by decide +kernel) (by exact trivial) (by decide +kernel) (fun y hy=>cell_has hy)) rfl (by decide) (abH rfl Ie (aj (qv 0) (aj (qv 1) ak))) (fun _ _ _ _ _=>(aX op_add (qv 0) (qv 1)))) ak)))),?_⟩
 refine⟨_,rfl,_,rfl,a,b,_,_,rfl,ha,hb,ahg (K:=K) (by lia) (by lia) ha hb (fun i j H' R r=>⟨_,rfl,_,rfl,_,_,rfl,rfl,r⟩) (fun D H' S hD=>?_)⟩
 exact⟨D,_,rfl,.inl ⟨SqL.of hD,fun l hl=>q _ _ (S.trans (same_new hl _)) (SqT.of upd_same)⟩⟩
theorem abR (Ie:mg "zip"=none) (cF:mg "tuple"=none) {pH:Addr} (KN:mg "ALWAYS"=some (.ref pH)) (J3:∀ H,SqT K H pH [.int 2,.int 2,.int 0,.int 1,.int 2,.int 2,.int 2,.int 0,.int 0,.int 0,.int 1,.int 0,.int 1,.int 0,.int 0]) {u9:Addr} (Vh:mg "EACH"=some (.ref u9)) (Fl:∀ H,aeL K H u9 vN)
  {uy:Addr}{ug:FuncData} (Ir:Fun K "added" "added" pL uy ug) (Ip:FnOk P w K mg base CX0 31 uy ug ["one","other"] (Ov K)) (Im:Binds K ug ["one","other"] []) (Ih:mg "added"=some (.ref uy))
  (F:Fun K "turned" "turned" oG f fd):FnOk P w K mg base CX0 32 f fd ["tally"] (Tq K):=by
 refine okQ F uP (fun vs H Q E h=>?_) (fun cdv A outer s H vs Q E hr h=>?_)
 ·obtain⟨a,ns,rfl,_⟩:=h
  rfl
 obtain⟨a,ns,rfl,ha,hn,q⟩:=h
 refine⟨_,(aA (bY (i:=1) uP.nd rfl (Or.inl rfl) (aU (v:=.ref pH) rfl KN rfl))
   (aA (Ug PassesOwn.never rfl (abH rfl Ie (aj (qv 0) (aj (aU (v:=.ref u9) rfl Vh rfl) ak))) (agq rfl (Uh (HX (i:=2) uP.nd rfl (Or.inr rfl)) (Uh (HX (i:=3) uP.nd rfl (Or.inl rfl)) ae_))) (aB (bY (i:=1) uP.nd rfl (Or.inl rfl) (aG Ip hr rfl Ih Ir.kp Im .nil pass0 (aj (qv 1) (aj (jT gJ rfl cF mQ (aj (HY rfl (rH (fr:=["times"]) (js:=[2]) (sc:=defScope oG) rfl rfl rfl (by decide +kernel) (by decide +kernel) (by decide +kernel) (by decide +kernel) (by exact⟨⟨rfl,rfl,rfl⟩,trivial⟩) (by decide +kernel) (fun y hy=>cell_has hy)) (abI (qv 3)) (fun _ _ _ _ _=>(aX uU (qv 1) (qv 0)))) ak)) ak))))))
   (aB (aQ (qv 1))))),?_⟩
 obtain⟨ys,hy,hr2⟩:=Fl H
 have hyl:=hr2.length
 have e15:vN.length=15:=rfl
 refine⟨_,rfl,a,u9,_,_,rfl,ha,hy,?_⟩
 refine afO (K:=K) (xs:=ns.map nv) (ys:=ys) (fun i σ' H'=>∃ p o2 o3,σ'=[some (.ref a),some (.ref p),o2,o3]∧Same H H'∧SqT K H' p ((yW (ns.take i) vN vW).map nv)) ?_ (by rw [List.length_map]; lia) ?_ ?_ ?_
 ·exact⟨pH,_,_,rfl,Same.refl _,(show SqT K H pH (vW.map nv) from J3 _)⟩
 ·rintro i σ' H' _ ⟨p,o2,o3,rfl,S,hp⟩
  exact⟨cO (.of S) ha,cO (.of S) hy⟩
 ·rintro i x y σ' H' p2 hx hyi ⟨p,o2,o3,rfl,S,hp⟩ g2
  have S2:=same_new g2 (.tup [x,y])
  have hi:i<ns.length:=by have:=(List.getElem?_eq_some_iff.mp hx).1; rw [List.length_map] at this; exact this
  have en:ns[i]?=some ns[i]:=List.getElem?_eq_getElem hi
  rw [List.getElem?_map,en] at hx
  cases hx
  obtain⟨r,er,b,rfl,hb⟩:=hr2.get hyi
  refine⟨p2,_,rfl,SqT.of upd_same,rfl,_,_,rfl,_,_,rfl,rfl,?_⟩
  have hrl:=Cu r (List.mem_of_getElem? er)
  have hb':=cO (.of (S.trans S2)) hb
  refine⟨_,rfl,_,rfl,b,rfl,⟨_,hb'⟩,ahf (K:=K) (ns:=r) (f:=(ns[i] * ·)) (by lia) hb' (fun j H3 R hj r1=>?_) (fun D H3 S3 hD=>?_)⟩
  ·have hle:=afT r (List.mem_of_getElem? er) j hj
   have big:(2 ^ 64:Int)=18446744073709551616:=by decide
   refine⟨_,rfl,_,rfl,_,_,rfl,rfl,.inr ⟨by lia,by lia⟩,?_⟩
   show R (V.int ((ns[i]:Int) * (j:Int))) H3
   rw [show V.int ((ns[i]:Int) * (j:Int))=nv (ns[i] * j) from congrArg V.int (Int.natCast_mul _ _).symm]
   exact r1
  ·refine⟨D,_,rfl,.inl ⟨SqL.of hD,fun l hl=>⟨p,l,_,_,rfl,cO (.of (S2.trans (S3.trans (same_new hl _)))) hp,SqT.of upd_same,JH Cu rfl,by rw [List.length_map]; exact hrl,fun p4 H4 S4 hp4=>?_⟩⟩⟩
   exact⟨p4,_,_,rfl,S.trans (S2.trans (S3.trans ((same_new hl _).trans S4))),by rw [Rm en er]; exact hp4⟩
 ·rintro σ' H' ⟨p,o2,o3,rfl,S,hp⟩
  rw [List.length_map,List.take_of_length_le (Nat.le_refl _)] at hp
  exact⟨_,rfl,q p H' S hp⟩
theorem RX (Ax:mg "list"=none) (cF:mg "tuple"=none) {jz:Addr} (wY:mg "KNOT_WORDS"=some (.ref jz)) (wO:∀ H,SqT K H jz [.int 3,.int 0,.int 1,.int 2,.int 4,.int 0,.int 0,.int 0,.int 0,.int 0,.int 0,.int 0,.int 0,.int 0,.int 0]) {jg:Value} (j_:mg "COPIED"=some jg) (iG:RelV (.int 13) jg) {ou:Value} (rY:mg "SHUT"=some ou) (oW:RelV (.int 12) ou)
  {uy:Addr}{ug:FuncData} (Ir:Fun K "added" "added" pL uy ug) (Ip:FnOk P w K mg base CX0 41 uy ug ["one","other"] (Ov K)) (Im:Binds K ug ["one","other"] []) (Ih:mg "added"=some (.ref uy))
  {LC:Addr}{Li:FuncData} (WL:Fun K "turned" "turned" oG LC Li) (Wv:FnOk P w K mg base CX0 41 LC Li ["tally"] (Tq K)) (V_:Binds K Li ["tally"] []) (U6:mg "turned"=some (.ref LC))
  {uw:Addr}{ud:FuncData} (Rj:Fun K "parts" "parts" rC uw ud) (Rc:FnOk P w K mg base CX0 41 uw ud ["tree"] (JM K)) (QV:Binds K ud ["tree"] []) (Qh:mg "parts"=some (.ref uw))
  {kO:Addr}{kj:FuncData} (Ad:Fun K "knot_body" "knot_body" iM kO kj) (Ab:FnOk P w K mg base CX0 41 kO kj ["text"] (Oq K)) (zR:Binds K kj ["text"] []) (zu:mg "knot_body"=some (.ref kO))
  (F:Fun K "knot_tally" "knot_tally" jk f fd):FnOk P w K mg base CX0 42 f fd ["text","one","other"] (TF K):=by
 refine okQ F DQ (fun vs H Q E h=>?_) (fun cdv A outer s H vs Q E hr h=>?_)
 ·obtain⟨x,a1,a2,ft,n1,n2,rfl,_⟩:=h
  rfl
 obtain⟨x,a1,a2,ft,n1,n2,rfl,hx,bf,h1,h2,l1,l2,q⟩:=h
 refine⟨_,(aA (bY (i:=3) DQ.nd rfl (Or.inl rfl) (jT V6 rfl Ax afX (aj (aG Ip hr rfl Ih Ir.kp Im .nil pass0 (aj (aU (v:=.ref jz) rfl wY rfl) (aj (aG Ip hr rfl Ih Ir.kp Im .nil pass0 (aj (aG Wv hr rfl U6 WL.kp V_ .nil pass0 (aj (qv 1) ak)) (aj (aG Wv hr rfl U6 WL.kp V_ .nil pass0 (aj (qv 2) ak)) ak))) ak))) ak)))
   (aA (Am (qv 3) (aU (v:=.int 13) rfl j_ iG) xu (aG Rc hr rfl Qh Rj.kp QV .nil pass0 (aj (aG Ab hr rfl zu Ad.kp zR .nil pass0 (aj (qv 0) ak)) ak)) Ba set_list)
   (aA (Am (qv 3) (aU (v:=.int 12) rfl rY oW) xu aN ahj set_list)
   (aB (aQ (jT gJ rfl cF mQ (aj (qv 3) ak))))))),?_⟩
 refine oA (fun v=>[some x,some (.ref a1),some (.ref a2),some v]) (fun _=>rfl) (fun v H'=>∃ l,v=.ref l∧Same H H'∧H l=none∧H' l=some (.lst ((nQ n1 n2).map nv))) (fun R r=>⟨_,rfl,a1,n1,rfl,h1,l1,fun p3 H3 S3 hp3=>⟨_,rfl,a2,n2,rfl,cO (.of S3) h2,l2,fun p4 H4 S4 hp4=>?_⟩⟩) (fun v1 H1 h1'=>?_)
 ·refine⟨p3,p4,_,_,rfl,cO (.of S4) hp3,hp4,fY n1,fY n2,fun p5 H5 S5 hp5=>⟨jz,p5,yK,_,rfl,wO _,hp5,rfl,rA (fY n1) (fY n2),fun p6 H6 S6 hp6=>⟨p6,_,rfl,.inr hp6,fun l hl=>?_⟩⟩⟩
  have S36:=S3.trans (S4.trans (S5.trans S6))
  exact r _ _ ⟨l,rfl,S36.trans (same_new hl _),S36.free hl,upd_same⟩
 obtain⟨l,rfl,S1,hlH,hl1⟩:=h1'
 refine⟨_,rfl,l,_,_,_,rfl,rfl,SqL.of hl1,Nf (k:=13) (by rw [xq]; decide),_,rfl,x,ft,rfl,hx.mono (.of S1),bf,fun y2 H2 S2 t2=>⟨y2,.node (eE ft),rfl,t2,by have:=(acW bf).2; lia,fun H3 S3=>?_⟩⟩
 have S23:=S2.trans S3
 have hl3:=S23 _ _ hl1
 refine⟨_,_,rfl,rfl,l,_,_,_,rfl,rfl,hl3,A_ (j:=13) (by rw [List.length_map,xq]; decide),?_⟩
 rw [show V.int ((((nQ n1 n2).getD 13 0:Nat):Int)+(((T.node (eE ft)).parts:Nat):Int))=nv ((nQ n1 n2).getD 13 0+(T.node (eE ft)).parts) from congrArg V.int (Int.natCast_add _ _).symm,U3]
 have S4:Same H (upd H3 l (.lst ((iB ft n1 n2).map nv))):=cY (S1.trans S23) hlH
 have hl4:=upd_same (H:=H3) (a:=l) (o:=.lst ((iB ft n1 n2).map nv))
 rw [show (nQ n1 n2).set 13 ((nQ n1 n2).getD 13 0+(T.node (eE ft)).parts)=iB ft n1 n2 from rfl]
 generalize upd H3 l (.lst ((iB ft n1 n2).map nv))=H4 at S4 hl4
 have h12:=YJ ft l1 l2
 dsimp only
 refine⟨_,rfl,l,_,_,_,rfl,rfl,SqL.of hl4,Nf (k:=12) (by rw [Ck]; decide),_,_,rfl,rfl,l,_,_,_,rfl,rfl,hl4,A_ (j:=12) (by rw [List.length_map,Ck]; decide),?_⟩
 rw [show V.int ((((iB ft n1 n2).getD 12 0:Nat):Int) - 1)=nv ((iB ft n1 n2).getD 12 0 - 1) from congrArg V.int (by lia),U3]
 refine⟨_,rfl,l,_,rfl,.inl ⟨SqL.of upd_same,fun p5 g5=>q p5 _ ((cY S4 hlH).trans (same_new g5 _)) (SqT.of upd_same)⟩⟩
end
end d7
namespace d7
open PySem PySem.Spec PyProof.Rows L2 Sw
section
variable {P:Program}{w:World}{K:PySem.W.Frag}{mg:Str→Option Value}{base:Heap}{f:Addr}{fd:FuncData}
theorem adZ {c:Bool}{A B:Prop} (h:c=false) (k:B):if c=true then A else B:=by subst h; exact k
theorem ahi {c:Bool}{A B:Prop} (h:c=true) (k:A):if c=true then A else B:=by subst h; exact k
def Yh:Sp:=fun vs H Q _=>∃ i:Int,vs=[.int i]∧∀ H',Same H H'→Q (.bl true) H'
def abr (K:PySem.W.Frag):Sp:=fun vs H Q _=>∃ x us,vs=[x]∧TR K H (.node us) x∧us.length≤100000∧∀ y H',Same H H'→TR K H' (cI 0 us) y→Q y H'
def Tv (K:PySem.W.Frag):Sp:=fun vs H Q _=>∃ n:Nat,vs=[.int (n:Int)]∧n≤100∧∀ y H',Same H H'→TR K H' (W n) y→Q y H'
def Ym (K:PySem.W.Frag):Sp:=fun vs H Q _=>∃ p:Addr,vs=[.ref p]∧yE H p∧∀ y ts H',Dr p H H'→TR K H' (.node ts) y→B 12 4500 (.node ts)→Q y H'
theorem aiI {t u:TT}{σ:Sg}{H:Hp}{Q:Bool→Hp→Prop}{b1 b2:Bool} (h1:∀ R:Bool→Hp→Prop,R b1 H→t σ H R) (h2:∀ R:Bool→Hp→Prop,R b2 H→u σ H R) (q:∀ b,Q b H):tOr t u σ H Q:=by
 refine h1 _ ?_
 cases b1 with
 | true=>exact iteT (q _)
 | false=>exact iteF (h2 _ (q _))
theorem N5 {a b:Nat}{us:List T} (h:B a b (.node us)):B (max 2 a) (1+b) (cI 0 us):=(cM (pK 0) h).le (by lia) (by lia)
theorem B_W (n:Nat):B 2 (2+n) (W n):=(j5 (pK n)).le (by lia) (by lia)
theorem Uv (je:mg "range"=none) (fM:mg "len"=none)
  (F:Fun K "_law_deck" "_law_deck" iR f fd):FnOk P w K mg base CX0 32 f fd ["_law_script"] (abu K):=by
 refine okQ F lg (fun vs H Q E h=>?_) (fun cdv A outer s H vs Q E hr h=>?_)
 ·obtain⟨a,ns,rfl,_⟩:=h
  rfl
 obtain⟨a,ns,rfl,hl,h63,q⟩:=h
 refine⟨_,(aA (adq (i:=1) lg.nd rfl (Or.inl rfl) rfl (rH (fr:=[]) (js:=[]) (sc:=defScope iR) rfl rfl rfl (by decide +kernel) (by decide +kernel) (by decide +kernel) (by decide +kernel) (by exact trivial) (by decide +kernel) (fun y hy=>cell_has hy)) (Yv (wM aeV (qv 0) Aq (Ao aN))) (fun _ _ _ _ _=>(aX op_mod (qv 0) aN)))
   (aA (bY (i:=2) lg.nd rfl (Or.inl rfl) (qD ak))
   (aA (Ug PassesOwn.never rfl (Fj rfl je (aj aN ak)) (HX (i:=3) lg.nd rfl (Or.inl rfl)) (aA (bY (i:=4) lg.nd rfl (Or.inl rfl) (aX op_add (aX uU aN (qv 3)) aN))
   (aA (cg (bA Sv (cG call_len_seq rfl fM qL (aj (qv 1) ak)) aN (nomark _)) (aB (bY (i:=4) lg.nd rfl (Or.inl rfl) (aX op_add (aX uU (gk ix_list (qv 1) (aX op_mod (qv 3) (cG call_len_seq rfl fM qL (aj (qv 1) ak))) (fun _ _=>rfl)) (aX op_add aN (aX uU aN (aX op_fdiv (qv 3) (cG call_len_seq rfl fM qL (aj (qv 1) ak)))))) (aX uU aN (qv 3))))) bR)
   (aB (cP (fK PySem.F.plainAttrs_list PySem.F.slot_list_append PySem.F.type_list_append cN (qv 2) (aj (aX op_fdiv (aX op_mod (aX op_add (aX op_add (aX uU (qv 4) aN) (aX uU (aX uU aN (qv 3)) (qv 3))) aN) aN) aN) ak)))))))
   (aB (aQ (qv 2)))))),?_⟩
 have amX:(ns.take 63).length≤63:=by rw [List.length_take]; lia
 have ahA:pC (ns.map V.int) none (some 63)=(ns.take 63).map V.int:=by
  rw [show (some (63:Int))=some ((63:Nat):Int) from rfl,V1,List.map_take]
 generalize ns.take 63=ms at amX ahA
 have big:(2 ^ 64:Int)=18446744073709551616:=by decide
 refine⟨_,rfl,63,rfl,a,_,rfl,hl,fun p1 hp1=>?_⟩
 have h1:upd H p1 (.lst (pC (ns.map V.int) none (some 63))) p1=some (.lst (ms.map V.int)):=by rw [upd_same,ahA]
 have S1:Same H (upd H p1 (.lst (pC (ns.map V.int) none (some 63)))):=same_new hp1 _
 generalize upd H p1 (.lst (pC (ns.map V.int) none (some 63)))=H1 at h1 S1
 refine⟨p1,rfl,⟨_,SqL.of h1⟩,afG (fun i y=>∃ n:Int,y=.int n∧0≤n∧n<2147483647) (SqL.of h1) (small (by rw [List.length_map]; lia)) (fun i x H' R hx S hR=>?_) (fun D ys hD ly py=>?_)⟩
 ·obtain⟨z,rfl⟩:∃ z,x=.int z:=by
   rw [List.getElem?_map] at hx
   cases hh:ms[i]? with
   | none=>rw [hh] at hx; cases hx
   | some z=>rw [hh] at hx; exact⟨z,(Option.some.inj hx).symm⟩
  exact⟨_,rfl,_,_,rfl,rfl,(by show (0:Int)<1000000007; decide),hR _ ⟨_,rfl,Int.emod_nonneg _ (by decide),Int.lt_trans (Int.emod_lt_of_pos _ (by decide)) (by decide)⟩⟩
 obtain⟨cs,rfl,hcs⟩:=YK py
 rw [List.length_map,List.length_map] at ly
 have hDl:upd H1 D (.lst (cs.map V.int)) D=some (.lst (cs.map V.int)):=upd_same
 have S2:=S1.trans (same_new hD (.lst (cs.map V.int)))
 generalize upd H1 D (.lst (cs.map V.int))=H2 at hDl S2
 refine⟨Nat.zero_le _,fun p3 hp3=>?_⟩
 have ahs:H p3=none:=S2.free hp3
 have n3:D≠p3:=ne_of_none hDl hp3
 refine⟨140,rfl,by decide,by decide,?_⟩
 refine acd (n:=140) (fun i σ' H'=>∃ (ds:List Int) (o3 o4:Option V),σ'=[some (.ref a),some (.ref D),some (.ref p3),o3,o4]∧Same H H'∧H' D=some (.lst (cs.map V.int))∧H' p3=some (.lst (ds.map V.int))∧ds.length=i) ?_ ?_ ?_
 ·exact⟨[],_,_,rfl,S2.trans (same_new hp3 _),by rw [upd_ne n3]; exact hDl,upd_same,rfl⟩
 ·rintro i σ' H' hi ⟨ds,o3,o4,rfl,S,hd,h3,hlen⟩
  have hi2:(0:Int)+(i:Int)<140:=by lia
  have app:∀ z:Int,∃ (es:List Int) (o3 o4:Option V),[some (.ref a),some (.ref D),some (.ref p3),some (.int (0+(i:Int))),some (.int z)]=[some (.ref a),some (.ref D),some (.ref p3),o3,o4]∧Same H (upd H' p3 (.lst (ds.map V.int++[.int ((z * 16807+7907 * (0+(i:Int)) * (0+(i:Int))+29) % 2147483647 / 3)]))) ∧
    upd H' p3 (.lst (ds.map V.int++[.int ((z * 16807+7907 * (0+(i:Int)) * (0+(i:Int))+29) % 2147483647 / 3)])) D=some (.lst (cs.map V.int))∧upd H' p3 (.lst (ds.map V.int++[.int ((z * 16807+7907 * (0+(i:Int)) * (0+(i:Int))+29) % 2147483647 / 3)])) p3=some (.lst (es.map V.int))∧es.length=i+1:=fun z =>
   ⟨ds++[(z * 16807+7907 * (0+(i:Int)) * (0+(i:Int))+29) % 2147483647 / 3],_,_,rfl,cY S ahs,by rw [upd_ne n3]; exact hd,by rw [upd_same,List.map_append]; rfl,by rw [List.length_append,hlen]; rfl⟩
  have tail:∀ z:Int,-(2 ^ 60)<z→z<2 ^ 60→∀ R:Prop,((-(2 ^ 64)<z∧z<2 ^ 64)→(-(2 ^ 64)<(7907:Int)∧(7907:Int)<2 ^ 64)→(-(2 ^ 64)<7907 * (0+(i:Int))∧7907 * (0+(i:Int))<2 ^ 64)→R)→R:=fun z h1 h2 R k =>
   k ⟨by have:(2:Int) ^ 60=1152921504606846976:=(by decide); lia,by have:(2:Int) ^ 60=1152921504606846976:=(by decide); lia⟩ ⟨by decide,by decide⟩ ⟨by lia,by lia⟩
  refine⟨_,rfl,_,_,rfl,rfl,.inl ⟨by decide,by decide⟩,_,_,rfl,rfl,?_⟩
  refine⟨_,rfl,D,_,rfl,.inl (SqL.of hd),_,_,rfl,rfl,_,rfl,?_⟩
  refine ite2 (fun hb=>?_) (fun _=>?_)
  ·have hpos:0<cs.length:=by
    have:=of_decide_eq_true hb
    rw [List.length_map] at this
    lia
   have hpos':(0:Int)<((cs.map V.int).length:Int):=by rw [List.length_map]; lia
   have hj0:0≤(0+(i:Int)) % ((cs.map V.int).length:Int):=Int.emod_nonneg _ (by lia)
   have hj1:(0+(i:Int)) % ((cs.map V.int).length:Int)<((cs.map V.int).length:Int):=Int.emod_lt_of_pos _ hpos'
   obtain⟨c,hc,ec⟩:∃ c∈cs,atI (cs.map V.int) ((0+(i:Int)) % ((cs.map V.int).length:Int))=some (.int c):=by
    generalize (0+(i:Int)) % ((cs.map V.int).length:Int)=j at hj0 hj1
    have hk:j.toNat<cs.length:=by rw [List.length_map] at hj1; lia
    have e:(cs.map V.int)[j.toNat]?=some (.int cs[j.toNat]):=by rw [List.getElem?_map,List.getElem?_eq_getElem hk]; rfl
    have:=atI_nat e
    rw [show ((j.toNat:Nat):Int)=j by lia] at this
    exact⟨_,List.getElem_mem hk,this⟩
   obtain⟨c0,c1⟩:=hcs c hc
   refine⟨_,rfl,_,rfl,_,rfl,D,_,rfl,.inl (SqL.of hd),_,_,rfl,rfl,hpos',D,_,_,_,rfl,rfl,SqL.of hd,ec,?_⟩
   refine⟨_,rfl,_,rfl,D,_,rfl,.inl (SqL.of hd),_,_,rfl,rfl,⟨hpos',by rw [List.length_map]; lia⟩,_,_,rfl,rfl,.inl ⟨by decide,by decide⟩,_,_,rfl,rfl,_,_,rfl,rfl,.inl ⟨by lia,by lia⟩,_,rfl,_,_,rfl,rfl,.inl ⟨by decide,by decide⟩,_,_,rfl,rfl,?_⟩
   have hq0:0≤(0+(i:Int)) / ((cs.map V.int).length:Int):=Int.ediv_nonneg (by lia) (by lia)
   have hq1:(0+(i:Int)) / ((cs.map V.int).length:Int)≤0+(i:Int):=Int.ediv_le_self _ (by lia)
   have hz0:0≤c * (1+2 * ((0+(i:Int)) / ((cs.map V.int).length:Int))):=Int.mul_nonneg c0 (by lia)
   have hz1:c * (1+2 * ((0+(i:Int)) / ((cs.map V.int).length:Int)))≤2147483647 * 281:=Int.mul_le_mul (by lia) (by lia) (by lia) (by decide)
   have z60:(2:Int) ^ 60=1152921504606846976:=by decide
   generalize ez:c * (1+2 * ((0+(i:Int)) / ((cs.map V.int).length:Int)))=zc at hz0 hz1
   have hz2:-(2 ^ 60)<zc+17 * (0+(i:Int)):=by lia
   have hz3:zc+17 * (0+(i:Int))<2 ^ 60:=by lia
   refine tail (zc+17 * (0+(i:Int))) hz2 hz3 _ fun t1 t2 t3=>?_
   refine⟨_,rfl,.inl ⟨rfl,_,SqL.of h3⟩,_,rfl,_,_,rfl,rfl,.inl t1,_,rfl,_,_,rfl,rfl,.inl t2,_,rfl,_,_,rfl,rfl,.inl t3,_,_,rfl,rfl,_,_,rfl,rfl,_,_,rfl,rfl,(by show (0:Int)<2147483647; decide),_,_,rfl,rfl,⟨by decide,by decide⟩,p3,_,_,rfl,rfl,h3,abw (by rw [List.length_map]; lia),?_⟩
   exact app (zc+17 * (0+(i:Int)))
  ·have z60:(2:Int) ^ 60=1152921504606846976:=by decide
   refine tail (41 * (0+(i:Int))+3) (by lia) (by lia) _ fun t1 t2 t3=>?_
   refine⟨_,rfl,.inl ⟨rfl,_,SqL.of h3⟩,_,rfl,_,_,rfl,rfl,.inl t1,_,rfl,_,_,rfl,rfl,.inl t2,_,rfl,_,_,rfl,rfl,.inl t3,_,_,rfl,rfl,_,_,rfl,rfl,_,_,rfl,rfl,(by show (0:Int)<2147483647; decide),_,_,rfl,rfl,⟨by decide,by decide⟩,p3,_,_,rfl,rfl,h3,abw (by rw [List.length_map]; lia),?_⟩
   exact app (41 * (0+(i:Int))+3)
 ·rintro σ' H' ⟨ds,o3,o4,rfl,S,hd,h3,hlen⟩
  exact⟨_,rfl,q p3 H' S ahs ⟨ds,h3⟩⟩
theorem Uu (fM:mg "len"=none)
  (F:Fun K "_law_next" "_law_next" gU f fd):FnOk P w K mg base CX0 31 f fd ["_law_deck_here","_law_many"] Ms:=by
 refine okQ F T_ (fun vs H Q E h=>?_) (fun cdv A outer s H vs Q E hr h=>?_)
 ·obtain⟨p,m,rfl,_⟩:=h
  rfl
 obtain⟨p,m,rfl,hm,hd,q⟩:=h
 refine⟨_,(aA (cg (bA op_eq (cG call_len_seq rfl fM qL (aj (qv 0) ak)) aN (nomark _)) (aB (aQ aN)) bR)
   (aB (aQ (aX op_mod (fK PySem.F.plainAttrs_list PySem.F.slot_list_pop PySem.F.type_list_pop Kw (qv 0) (aj aN ak)) (qv 1))))),?_⟩
 obtain⟨ns,hp⟩:=hd
 refine⟨_,rfl,p,_,rfl,.inl (SqL.of hp),rfl,_,rfl,?_⟩
 refine ite2 (fun _=>?_) (fun hb=>?_)
 ·exact q 0 H (by lia) hm (Dr.refl ⟨ns,hp⟩)
 ·cases ns with
  | nil=>exact absurd (decide_eq_true rfl) hb
  | cons n ns =>
   refine⟨_,rfl,.inl ⟨rfl,_,SqL.of hp⟩,p,_,0,0,_,rfl,rfl,hp,by decide,by decide,?_,rfl,?_⟩
   ·rw [seqIndex_of (by decide) (by rw [List.length_map,List.length_cons]; lia)]
    rfl
   ·refine⟨_,rfl,_,_,rfl,rfl,hm,q _ _ (Int.emod_nonneg _ (by lia)) (Int.emod_lt_of_pos _ hm) ⟨fun b o nb e=>?_,⟨ns,?_⟩⟩⟩
    ·rw [upd_ne nb]; exact e
    ·rw [upd_same]; rfl
theorem PX
  (F:Fun K "_law_leaves" "_law_leaves" eV f fd):FnOk P w K mg base CX0 31 f fd ["_law_many"] (Bu K):=by
 refine okQ F OJ (fun vs H Q E h=>?_) (fun cdv A outer s H vs Q E hr h=>?_)
 ·obtain⟨n,rfl,_⟩:=h
  rfl
 obtain⟨n,rfl,hn,q⟩:=h
 refine⟨_,(aB (aQ (aX oY (bh (aj (bh ak) ak)) (qv 0)))),?_⟩
 refine⟨Nat.zero_le _,fun p1 hp1=>⟨(by show 1≤sizeLine; decide),fun p2 hp2=>?_⟩⟩
 have k1:upd (upd H p1 (.tup [])) p2 (.tup [.ref p1]) p1=some (.tup []):=(same_new hp2 _) _ _ upd_same
 have hbig:(2:Int) ^ 62=4611686018427387904:=by decide
 refine⟨_,rfl,p2,_,_,rfl,rfl,SqT.of upd_same,by lia,by lia,?_,fun p3 H3 S3 h3=>?_⟩
 ·rw [Int.toNat_natCast,List.length_singleton]
  exact small (by lia)
 ·rw [ae3] at h3
  exact q _ _ (((same_new hp1 _).trans (same_new hp2 _)).trans S3) (vO h3 (Oc (Az (S3 _ _ k1)) n))
theorem adL (cF:mg "tuple"=none) (je:mg "range"=none)
  {eO:Addr}{eN:FuncData} (i_:Fun K "_law_next" "_law_next" gU eO eN) (tK:FnOk P w K mg base CX0 31 eO eN ["_law_deck_here","_law_many"] Ms) (iW:Binds K eN ["_law_deck_here","_law_many"] []) (iU:mg "_law_next"=some (.ref eO))
  {a_t:Addr}{d_t:FuncData} (fV:Fun K "_law_tree" "_law_tree" gR a_t d_t) (iV:Binds K d_t ["_law_deck_here","_law_deep"] []) (iT:mg "_law_tree"=some (.ref a_t)) :
  ∀ n:Nat,FnOk P w K mg base CX0 (32+n) a_t d_t ["_law_deck_here","_law_deep"] (Tr K n):=by
 intro n
 induction n with
 | zero =>
  refine okQ (k:=31) fV Ey (fun vs H Q E h=>?_) (fun cdv A outer s H vs Q E hr h=>?_)
  ·obtain⟨p,d,rfl,_⟩:=h
   rfl
  obtain⟨p,d,rfl,hd,hk,q⟩:=h
  refine⟨_,aA (cg (bA op_eq (qv 1) aN (nomark _)) (aB (aQ (bh ak))) bR) (aB adt),?_⟩
  have e:d=0:=by lia
  subst e
  refine⟨_,rfl,rfl,_,rfl,ite2 (fun _=>⟨Nat.zero_le _,fun p1 hp1=>?_⟩) (fun hb=>absurd (decide_eq_true rfl) hb)⟩
  exact q _ _ _ ((Dr.refl hk).same (same_new hp1 _)) (Az upd_same) ⟨by rw [T.aP,T.bV]; lia,by rw [T.aM,T.aR]; decide⟩
 | succ n ih =>
  have iY:=ih
  have gW:=tK.mono (show 31≤32+n by lia)
  refine okQ (k:=32+n) fV Ey (fun vs H Q E h=>?_) (fun cdv A outer s H vs Q E hr h=>?_)
  ·obtain⟨p,d,rfl,_⟩:=h
   rfl
  obtain⟨p,d,rfl,hd,hk,q⟩:=h
  refine⟨_,(aA (cg (bA op_eq (qv 1) aN (nomark _)) (aB (aQ (bh ak))) bR)
   (aB (aQ (jT gJ rfl cF mQ (aj (HY rfl (rH (fr:=["_law_deck_here","_law_deep"]) (js:=[0,1]) (sc:=defScope gR) rfl rfl rfl (by decide +kernel) (by decide +kernel) (by decide +kernel) (by decide +kernel) (by exact⟨⟨rfl,rfl,rfl⟩,⟨⟨rfl,rfl,rfl⟩,trivial⟩⟩) (by decide +kernel) (fun y hy=>cell_has hy)) (Fj rfl je (aj (aG gW hr rfl iU i_.kp iW .nil pass0 (aj (qv 0) (aj aN ak))) ak)) (fun _ _ _ _ _=>(aG iY hr rfl iT fV.kp iV .nil pass0 (aj (qv 1) (aj (aX op_sub (qv 2) aN) ak))))) ak))))),?_⟩
  refine⟨_,rfl,rfl,_,rfl,ite2 (fun hb=>?_) (fun hb=>?_)⟩
  ·have e:d=0:=by
    have:=of_decide_eq_true hb
    have:=V.int.inj this
    lia
   subst e
   refine⟨Nat.zero_le _,fun p1 hp1=>?_⟩
   exact q _ _ _ ((Dr.refl hk).same (same_new hp1 _)) (Az upd_same) ⟨by rw [T.aP,T.bV]; lia,by rw [T.aM,T.aR]; decide⟩
  ·have hd0:d≠0:=fun z=>hb (by subst z; exact decide_eq_true rfl)
   obtain⟨e,rfl⟩:∃ e,d=e+1:=⟨d - 1,by lia⟩
   refine⟨_,rfl,p,4,rfl,by decide,hk,fun m H1 hm0 hm1 D1=>?_⟩
   refine⟨m,rfl,by lia,by lia,?_⟩
   have hk1:=D1.gA
   refine Rv (fun D i ys H'=>D≠p∧H1 D=none∧Dr p H1 H'∧H' D=some (.lst ys)∧ys.length=i∧∃ ts,TRs K H' ts ys∧∀ t∈ts,ShT e t) (small (by lia)) (fun D hD=>?_) (fun D i ys H' j=>⟨j.2.2.2.1,j.2.2.2.2.1⟩) (fun D i ys H' R hi j hR=>?_) (fun D ys H' j=>?_)
   ·have hne:D≠p:=fun z=>by
     obtain⟨ns,e1⟩:=hk1
     rw [z,e1] at hD; cases hD
    exact⟨hne,hD,(Dr.refl hk1).upd hD hne,upd_same,rfl,[],bM.mpr rfl,fun _ h=>by simp at h⟩
   ·obtain⟨hne,hD,Dh,h1,hl,ts,htr,hsh⟩:=j
    refine⟨_,rfl,_,rfl,_,_,rfl,rfl,p,e,(by show [V.ref p,V.int (((e+1:Nat):Int) - 1)]=_; rw [show ((e+1:Nat):Int) - 1=(e:Int) by lia]),by lia,Dh.gA,fun y t H3 D3 ht hs=>?_⟩
    have h3:=D3.keep D _ hne h1
    refine hR y H3 h3 ⟨hne,hD,(Dh.trans D3).upd hD hne,upd_same,by rw [List.length_append,hl]; rfl,ts++[t],?_,fun u hu=>?_⟩
    ·exact TRs.append ((htr.mono (D3.kt Dh.gA)).mono (Kt.lst h3)) (cL.mpr ⟨y,[],rfl,ht.mono (Kt.lst h3),bM.mpr rfl⟩)
    ·rcases List.mem_append.mp hu with z | z
     ·exact hsh u z
     ·rw [List.mem_singleton.mp z]; exact hs
   ·obtain⟨hne,hD,Dh,h1,hl,ts,htr,hsh⟩:=j
    refine⟨D,ys,rfl,.inl ⟨SqL.of h1,fun p5 hp5=>?_⟩⟩
    have hlt:ts.length≤3:=by rw [← htr.length,hl]; lia
    refine q _ (.node ts) _ ((D1.trans Dh).same (same_new hp5 _)) (vO (SqT.of upd_same) (htr.mono (Kt.new hp5))) ⟨?_,?_⟩
    ·rw [T.aP]
     exact T.Jt fun u hu=>by have:=(hsh u hu).1; lia
    ·rw [T.aM]
     have:=abN (b:=pbT e) hlt fun u hu=>(hsh u hu).2
     show _≤1+3 * pbT e
     lia
theorem abT (je:mg "range"=none) (cF:mg "tuple"=none)
  {eO:Addr}{eN:FuncData} (i_:Fun K "_law_next" "_law_next" gU eO eN) (tK:FnOk P w K mg base CX0 31 eO eN ["_law_deck_here","_law_many"] Ms) (iW:Binds K eN ["_law_deck_here","_law_many"] []) (iU:mg "_law_next"=some (.ref eO))
  {kW:Addr}{kI:FuncData} (fV:Fun K "_law_tree" "_law_tree" gR kW kI) (WD:FnOk P w K mg base CX0 35 kW kI ["_law_deck_here","_law_deep"] (Tr K 3)) (iV:Binds K kI ["_law_deck_here","_law_deep"] []) (iT:mg "_law_tree"=some (.ref kW))
  {dD:Addr}{dB:FuncData} (fu:Fun K "_law_leaves" "_law_leaves" eV dD dB) (Rh:FnOk P w K mg base CX0 35 dD dB ["_law_many"] (Bu K)) (eY:Binds K dB ["_law_many"] []) (eX:mg "_law_leaves"=some (.ref dD))
  {a_w:Addr}{d_w:FuncData} (Ae:Fun K "_law_word" "_law_word" nF a_w d_w) (XH:Binds K d_w ["_law_deck_here","_law_deep"] []) (Xr:mg "_law_word"=some (.ref a_w))
  {a_x:Addr}{d_x:FuncData} (iZ:Fun K "_law_text" "_law_text" iQ a_x d_x) (nR:Binds K d_x ["_law_deck_here","_law_deep"] []) (nO:mg "_law_text"=some (.ref a_x)) :
  ∀ n:Nat,n≤4→FnOk P w K mg base CX0 (2 * n+36) a_w d_w ["_law_deck_here","_law_deep"] (abn K n)∧FnOk P w K mg base CX0 (2 * n+37) a_x d_x ["_law_deck_here","_law_deep"] (abo K n):=by
 intro n
 induction n with
 | zero =>
  intro _
  refine⟨okQ (k:=35) Ae wB (fun vs H Q E h=>?_) (fun cdv A outer s H vs Q E hr h=>?_),okQ (k:=36) iZ Ez (fun vs H Q E h=>?_) (fun cdv A outer s H vs Q E hr h=>?_)⟩
  ·obtain⟨p,d,rfl,_⟩:=h
   rfl
  ·obtain⟨p,d,rfl,hd,_⟩:=h
   exact absurd hd (Nat.not_lt_zero _)
  ·obtain⟨p,d,rfl,_⟩:=h
   rfl
  ·obtain⟨p,d,rfl,hd,_⟩:=h
   exact absurd hd (Nat.not_lt_zero _)
 | succ n ih =>
  intro hn4
  obtain⟨_,nY⟩:=ih (by lia)
  have p1:pbT 1=4:=rfl
  have p2:pbT 2=13:=rfl
  have p3:pbT 3=40:=rfl
  have wd:FnOk P w K mg base CX0 (2 * n+38) a_w d_w ["_law_deck_here","_law_deep"] (abn K (n+1)):=by
   have gW:=tK.mono (show 31≤2 * n+37 by lia)
   have iY:=WD.mono (show 35≤2 * n+37 by lia)
   have fj:=Rh.mono (show 35≤2 * n+37 by lia)
   refine okQ (k:=2 * n+37) Ae wB (fun vs H Q E h=>?_) (fun cdv A outer s H vs Q E hr h=>?_)
   ·obtain⟨p,d,rfl,_⟩:=h
    rfl
   obtain⟨p,d,rfl,hd,hk,q⟩:=h
   refine⟨_,(aA (bY (i:=2) wB.nd rfl (Or.inl rfl) (aG gW hr rfl iU i_.kp iW .nil pass0 (aj (qv 0) (aj aN ak))))
   (aA (cg (bA Ss (qv 2) aN (nomark _)) (aB (aQ (aX bB (bh (aj (bh ak) ak)) (aG iY hr rfl iT fV.kp iV .nil pass0 (aj (qv 0) (aj aN ak)))))) bR)
   (aA (cg (bA Ss (qv 2) aN (nomark _)) (aB (aQ (aX bB (bh (aj (aG fj hr rfl eX fu.kp eY .nil pass0 (aj (gk ix_list (qD (aj aN (aj aN (aj aN (aj aN (aj aN (aj aN (aj aN (aj aN ak))))))))) (aX op_sub (qv 2) aN) (fun _ _=>rfl)) ak)) ak)) (aX oY (aG iY hr rfl iT fV.kp iV .nil pass0 (aj (qv 0) (aj aN ak))) (aX op_fdiv (aG gW hr rfl iU i_.kp iW .nil pass0 (aj (qv 0) (aj aN ak))) aN))))) bR)
   (aA (cg (QW.pt (MF (bA op_eq (qv 2) aN (nomark _)) (HW (bA Sv (qv 1) aN (nomark _))))) (aB (aQ (aX bB (bh (aj (aG fj hr rfl eX fu.kp eY .nil pass0 (aj aN ak)) (aj (aG nY hr rfl nO iZ.kp nR .nil pass0 (aj (qv 0) (aj (aX op_sub (qv 1) aN) ak))) ak))) (aG nY hr rfl nO iZ.kp nR .nil pass0 (aj (qv 0) (aj (aX op_sub (qv 1) aN) ak)))))) bR)
   (aA (cg (QW.pt (MF (bA op_eq (qv 2) aN (nomark _)) (HW (bA Sv (qv 1) aN (nomark _))))) (aB (aQ (aX bB (bh (aj (aG fj hr rfl eX fu.kp eY .nil pass0 (aj aN ak)) (aj (bh (aj (aG fj hr rfl eX fu.kp eY .nil pass0 (aj aN ak)) ak)) ak))) (aG nY hr rfl nO iZ.kp nR .nil pass0 (aj (qv 0) (aj (aX op_sub (qv 1) aN) ak)))))) bR)
   (aA (cg (bA op_eq (qv 2) aN (nomark _)) (aB (aQ (aX bB (bh (aj (aG fj hr rfl eX fu.kp eY .nil pass0 (aj (aX op_add aN (aG gW hr rfl iU i_.kp iW .nil pass0 (aj (qv 0) (aj aN ak)))) ak)) ak)) (aG iY hr rfl iT fV.kp iV .nil pass0 (aj (qv 0) (aj aN ak)))))) bR)
   (aB (aQ (aG iY hr rfl iT fV.kp iV .nil pass0 (aj (qv 0) (aj aN ak))))))))))),?_⟩
   have pw:=agP d
   refine⟨_,rfl,p,17,rfl,by decide,hk,fun m H1 hm0 hm1 D1=>?_⟩
   have hk1:=D1.gA
   refine⟨_,rfl,_,_,rfl,rfl,_,rfl,ite2 (fun hb=>?_) (fun hb4=>?_)⟩
   ·refine⟨Nat.zero_le _,fun p1 hp1=>⟨(by show 1≤sizeLine; decide),fun p2' hp2=>?_⟩⟩
    obtain⟨S1,t1⟩:=cA (K:=K) (ts:=[]) hp1 (bM.mpr rfl)
    obtain⟨S2,t2⟩:=cA (K:=K) hp2 (fQ t1)
    have D2:=(D1.same S1).same S2
    refine⟨_,rfl,p,2,rfl,by decide,D2.gA,fun y t H3 D3 ht hs=>?_⟩
    cases t with
    | node us =>
     have b:=uJ hs.b (j5 yV)
     refine cD (t2.mono (D3.kt D2.gA)) ht (small (by have:=hs.b.len; rw [List.length_singleton]; lia)) (fun z H4 S4 t4=>?_)
     exact q _ _ _ ((D2.trans D3).same S4) t4 (b.le (by lia) (by lia))
   refine⟨_,rfl,_,_,rfl,rfl,_,rfl,ite2 (fun hb=>?_) (fun aps=>?_)⟩
   ·have hm4:4≤m:=by
     have:¬ m<4:=fun z=>hb4 (decide_eq_true z)
     lia
    have apr:m<12:=of_decide_eq_true hb
    refine⟨(by show 8≤sizeLine; decide),fun p3' hp3=>?_⟩
    obtain⟨c,hc,ec⟩:=ahe (ns:=[1,2,3,4,4,5,6,6]) (k:=(m - 4).toNat) (by show _<8; lia)
    rw [show (((m - 4).toNat:Nat):Int)=m - 4 by lia] at ec
    have hc6:c≤6:=(by decide:∀ c∈([1,2,3,4,4,5,6,6]:List Nat),c≤6) c hc
    refine⟨_,rfl,_,_,rfl,rfl,p3',_,_,_,rfl,rfl,SqL.of upd_same,ec,c,rfl,by lia,fun y H4 S4 t4=>⟨(by show 1≤sizeLine; decide),fun p5 hp5=>?_⟩⟩
    obtain⟨S5,t5⟩:=cA (K:=K) hp5 (fQ t4)
    have D5:=((D1.same (same_new hp3 _)).same S4).same S5
    refine⟨_,rfl,p,1,rfl,by decide,D5.gA,fun y6 u6 H6 D6 t6 s6=>?_⟩
    refine⟨_,rfl,p,5,rfl,by decide,D6.gA,fun i7 H7 i70 i71 D7=>⟨_,_,rfl,rfl,⟨by decide,by decide⟩,?_⟩⟩
    have D67:=D6.trans D7
    cases u6 with
    | node us =>
     have b6:B 1 4 (.node us):=s6.b.le (by lia) (by lia)
     have hul:=b6.len
     obtain⟨j,ej,hj⟩:∃ j:Nat,i7 / 4=(j:Int)∧j≤1:=⟨(i7 / 4).toNat,by lia,by lia⟩
     refine Sy j (t6.mono (D7.kt D6.gA)) rfl ej (by lia) (fun z8 H8 S8 t8=>?_) (by lia)
     have b8:B 1 4 (.node (List.replicate j us).flatten):=by
      rcases (by lia:j=0∨j=1) with rfl | rfl
      ·exact yV.le (by lia) (by lia)
      ·rw [show (List.replicate 1 us).flatten=us by simp]; exact b6
     have b:=uJ b8 (j5 (pK c))
     refine cD (t5.mono ((D67.kt D5.gA).trans (.of S8))) t8 (small (by have:=b8.len; rw [List.length_singleton]; lia)) (fun z H9 S9 t9=>?_)
     exact q _ _ _ (((D5.trans D67).same S8).same S9) t9 (b.le (by lia) (by lia))
   try dsimp only [tNext,tSeq,tIfS]
   refine abk (fun R r=>⟨_,rfl,rfl,_,rfl,r⟩) (fun R r=>⟨_,rfl,_,_,rfl,rfl,_,rfl,r⟩) ?_
   refine ite2 (fun hb=>?_) (fun _=>?_)
   ·have hd0:0<d:=by
     have:=of_decide_eq_true (Bool.and_eq_true _ _ ▸ hb).2
     lia
    obtain⟨e,rfl⟩:∃ e,d=e+1:=⟨d - 1,by lia⟩
    have pe:pbW (e+1)=60+2 * (1+4 * pbW e):=rfl
    refine⟨7,rfl,by decide,fun y1 H2 S2 t2=>?_⟩
    have D2:=D1.same S2
    refine⟨_,rfl,_,rfl,_,_,rfl,rfl,p,e,VH p e,by lia,D2.gA,fun y3 u3 H3 D3 t3 s3=>⟨(by show 2≤sizeLine; decide),fun p4 hp4=>?_⟩⟩
    obtain⟨S4,t4⟩:=cA (K:=K) hp4 (Oe (t2.mono (D3.kt D2.gA)) t3)
    have D4:=(D2.trans D3).same S4
    refine⟨_,rfl,_,rfl,_,_,rfl,rfl,p,e,VH p e,by lia,D4.gA,fun y5 u5 H5 D5 t5 s5=>?_⟩
    cases u5 with
    | node us =>
     have b:=uJ s5.1 (cM (pK 7) (j5 s3.1))
     have hl:us.length≤4:=s5.2
     refine cD (t4.mono (D5.kt D4.gA)) t5 (small (by show 2+us.length≤_; lia)) (fun z H6 S6 t6=>?_)
     exact q _ _ _ ((D4.trans D5).same S6) t6 (b.le (by lia) (by lia))
   try dsimp only [tNext,tSeq,tIfS]
   refine abk (fun R r=>⟨_,rfl,rfl,_,rfl,r⟩) (fun R r=>⟨_,rfl,_,_,rfl,rfl,_,rfl,r⟩) ?_
   refine ite2 (fun hb=>?_) (fun _=>?_)
   ·have hd0:0<d:=by
     have:=of_decide_eq_true (Bool.and_eq_true _ _ ▸ hb).2
     lia
    obtain⟨e,rfl⟩:∃ e,d=e+1:=⟨d - 1,by lia⟩
    have pe:pbW (e+1)=60+2 * (1+4 * pbW e):=rfl
    refine⟨8,rfl,by decide,fun y1 H2 S2 t2=>⟨1,rfl,by decide,fun y3 H3 S3 t3=>⟨(by show 1≤sizeLine; decide),fun p4 hp4=>⟨(by show 2≤sizeLine; decide),fun p5 hp5=>?_⟩⟩⟩⟩
    obtain⟨S4,t4⟩:=cA (K:=K) hp4 (fQ t3)
    obtain⟨S5,t5⟩:=cA (K:=K) hp5 (Oe (t2.mono (.of (S3.trans S4))) t4)
    have D5:=(((D1.same S2).same S3).same S4).same S5
    refine⟨_,rfl,_,rfl,_,_,rfl,rfl,p,e,VH p e,by lia,D5.gA,fun y6 u6 H6 D6 t6 s6=>?_⟩
    cases u6 with
    | node us =>
     have b:=uJ s6.1 (cM (pK 8) (j5 (j5 (pK 1))))
     have hl:us.length≤4:=s6.2
     refine cD (t5.mono (D6.kt D5.gA)) t6 (small (by show 2+us.length≤_; lia)) (fun z H7 S7 t7=>?_)
     exact q _ _ _ ((D5.trans D6).same S7) t7 (b.le (by lia) (by lia))
   refine⟨_,rfl,rfl,_,rfl,ite2 (fun hb=>?_) (fun _=>?_)⟩
   ·refine⟨_,rfl,p,4,rfl,by decide,hk1,fun i2 H2 i20 i21 D2=>⟨_,_,rfl,rfl,?_⟩⟩
    obtain⟨j,ej,hj⟩:∃ j:Nat,(9:Int)+i2=(j:Int)∧j≤12:=⟨(9+i2).toNat,by lia,by lia⟩
    refine⟨j,(by show [V.int ((9:Int)+i2)]=_; rw [ej]),by lia,fun y3 H3 S3 t3=>⟨(by show 1≤sizeLine; decide),fun p4 hp4=>?_⟩⟩
    obtain⟨S4,t4⟩:=cA (K:=K) hp4 (fQ t3)
    have D4:=((D1.trans D2).same S3).same S4
    refine⟨_,rfl,p,1,rfl,by decide,D4.gA,fun y5 u5 H5 D5 t5 s5=>?_⟩
    cases u5 with
    | node us =>
     have b:=uJ s5.b (j5 (pK j))
     refine cD (t4.mono (D5.kt D4.gA)) t5 (small (by have:=s5.b.len; rw [List.length_singleton]; lia)) (fun z H6 S6 t6=>?_)
     exact q _ _ _ ((D4.trans D5).same S6) t6 (b.le (by lia) (by lia))
   exact⟨_,rfl,p,3,rfl,by decide,hk1,fun y t H3 D3 ht hs=>q _ _ _ (D1.trans D3) ht (hs.b.le (by lia) (by lia))⟩
  refine⟨wd,?_⟩
  have X4:=wd
  have gW:=tK.mono (show 31≤2 * n+38 by lia)
  refine okQ (k:=2 * n+38) iZ Ez (fun vs H Q E h=>?_) (fun cdv A outer s H vs Q E hr h=>?_)
  ·obtain⟨p,d,rfl,_⟩:=h
   rfl
  obtain⟨p,d,rfl,hd,hk,q⟩:=h
  refine⟨_,(aB (aQ (jT gJ rfl cF mQ (aj (HY rfl (rH (fr:=["_law_deck_here","_law_deep"]) (js:=[0,1]) (sc:=defScope iQ) rfl rfl rfl (by decide +kernel) (by decide +kernel) (by decide +kernel) (by decide +kernel) (by exact⟨⟨rfl,rfl,rfl⟩,⟨⟨rfl,rfl,rfl⟩,trivial⟩⟩) (by decide +kernel) (fun y hy=>cell_has hy)) (Fj rfl je (aj (aG gW hr rfl iU i_.kp iW .nil pass0 (aj (qv 0) (aj aN ak))) ak)) (fun _ _ _ _ _=>(aG X4 hr rfl Xr Ae.kp XH .nil pass0 (aj (qv 1) (aj (qv 2) ak))))) ak)))),?_⟩
  refine⟨_,rfl,p,5,rfl,by decide,hk,fun m H1 hm0 hm1 D1=>⟨m,rfl,by lia,by lia,?_⟩⟩
  refine afH (K:=K) (ShW d) D1.gA (small (by lia)) (fun i H' R hi Dh hR=>?_) (fun D ys ts H' Dh hl hlen htr hsh=>?_)
  ·exact⟨_,rfl,_,rfl,p,d,rfl,hd,Dh.gA,fun y t H3 D3 ht hs=>hR y t H3 D3 ht hs⟩
  refine⟨D,ys,rfl,.inl ⟨SqL.of hl,fun p5 hp5=>?_⟩⟩
  obtain⟨S5,t5⟩:=cA (K:=K) hp5 htr
  exact q _ _ _ ((D1.trans Dh).same S5) t5 ⟨(SX (n:=4) hsh (by lia)).le (by lia) (by lia),by show ts.length≤4; lia⟩
theorem RZ (bO:mg "isinstance"=none) (U9:mg "bool"=none) (Z9:mg "int"=none)
  (F:Fun K "_law_whole" "_law_whole" jl f fd):FnOk P w K mg base CX0 31 f fd ["_law_found"] Yh:=by
 refine okQ F RL (fun vs H Q E h=>?_) (fun cdv A outer s H vs Q E hr h=>?_)
 ·obtain⟨i,rfl,_⟩:=h
  rfl
 obtain⟨i,rfl,q⟩:=h
 refine⟨_,(aB (aQ (agw (cG GQ rfl bO dY (aj (qv 0) (aj (Ph (v:=.ty "int") rfl Z9 aio rfl) ak))) (ags (agt (cG GQ rfl bO dY (aj (qv 0) (aj (Ph (v:=.ty "bool") rfl U9 afY rfl) ak)))))))),?_⟩
 refine⟨_,rfl,.inl ⟨.int i,"int",.type "int",true,rfl,TyOf.int _,by rfl,_,rfl,iteT ?_⟩⟩
 exact⟨_,rfl,.inl ⟨.int i,"bool",.type "int",false,rfl,TyOf.int _,by rfl,_,rfl,q _ (Same.refl _)⟩⟩
theorem Xl
  (F:Fun K "_law_lay" "_law_lay" mH f fd):FnOk P w K mg base CX0 31 f fd ["_law_tree_here"] (abr K):=by
 refine okQ F Xa (fun vs H Q E h=>?_) (fun cdv A outer s H vs Q E hr h=>?_)
 ·obtain⟨x,us,rfl,_⟩:=h
  rfl
 obtain⟨x,us,rfl,hx,hu,q⟩:=h
 refine⟨_,(aB (aQ (aX bB (bh (aj (bh ak) ak)) (qv 0)))),?_⟩
 refine⟨Nat.zero_le _,fun p1 g1=>⟨(by show 1≤sizeLine; decide),fun p2 g2=>?_⟩⟩
 obtain⟨S1,t1⟩:=cA (K:=K) (ts:=[]) g1 (bM.mpr rfl)
 obtain⟨S2,t2⟩:=cA (K:=K) g2 (fQ t1)
 exact⟨_,rfl,cD t2 (hx.mono (.of (S1.trans S2))) (small (by show 1+us.length≤_; lia)) (fun z H3 S3 t3=>q _ _ (S1.trans (S2.trans S3)) t3)⟩
theorem R0
  {dD:Addr}{dB:FuncData} (fu:Fun K "_law_leaves" "_law_leaves" eV dD dB) (fj:FnOk P w K mg base CX0 31 dD dB ["_law_many"] (Bu K)) (eY:Binds K dB ["_law_many"] []) (eX:mg "_law_leaves"=some (.ref dD))
  (F:Fun K "_law_plain" "_law_plain" jm f fd):FnOk P w K mg base CX0 32 f fd ["_law_sort"] (Tv K):=by
 refine okQ F RM (fun vs H Q E h=>?_) (fun cdv A outer s H vs Q E hr h=>?_)
 ·obtain⟨n,rfl,_⟩:=h
  rfl
 obtain⟨n,rfl,hn,q⟩:=h
 refine⟨_,(aB (aQ (bh (aj (aG fj hr rfl eX fu.kp eY .nil pass0 (aj (qv 0) ak)) ak)))),?_⟩
 refine⟨_,rfl,n,rfl,by lia,fun y1 H1 S1 t1=>⟨(by show 1≤sizeLine; decide),fun p2 g2=>?_⟩⟩
 obtain⟨S2,t2⟩:=cA (K:=K) g2 (fQ t1)
 exact q _ _ (S1.trans S2) t2
theorem R3
  {eO:Addr}{eN:FuncData} (i_:Fun K "_law_next" "_law_next" gU eO eN) (gW:FnOk P w K mg base CX0 44 eO eN ["_law_deck_here","_law_many"] Ms) (iW:Binds K eN ["_law_deck_here","_law_many"] []) (iU:mg "_law_next"=some (.ref eO))
  {zX:Addr}{zL:FuncData} (iZ:Fun K "_law_text" "_law_text" iQ zX zL) (nY:FnOk P w K mg base CX0 44 zX zL ["_law_deck_here","_law_deep"] (abo K 3)) (nR:Binds K zL ["_law_deck_here","_law_deep"] []) (nO:mg "_law_text"=some (.ref zX))
  {yq:Addr}{xT:FuncData} (lR:Fun K "_law_plain" "_law_plain" jm yq xT) (lQ:FnOk P w K mg base CX0 44 yq xT ["_law_sort"] (Tv K)) (lJ:Binds K xT ["_law_sort"] []) (lC:mg "_law_plain"=some (.ref yq))
  {Ds:Addr}{CZ:FuncData} (qe:Fun K "_law_lay" "_law_lay" mH Ds CZ) (qd:FnOk P w K mg base CX0 44 Ds CZ ["_law_tree_here"] (abr K)) (pZ:Binds K CZ ["_law_tree_here"] []) (pP:mg "_law_lay"=some (.ref Ds))
  {dD:Addr}{dB:FuncData} (fu:Fun K "_law_leaves" "_law_leaves" eV dD dB) (fj:FnOk P w K mg base CX0 44 dD dB ["_law_many"] (Bu K)) (eY:Binds K dB ["_law_many"] []) (eX:mg "_law_leaves"=some (.ref dD))
  (F:Fun K "_law_maker" "_law_maker" jo f fd):FnOk P w K mg base CX0 45 f fd ["_law_deck_here"] (Ym K):=by
 refine okQ F qM (fun vs H Q E h=>?_) (fun cdv A outer s H vs Q E hr h=>?_)
 ·obtain⟨p,rfl,_⟩:=h
  rfl
 obtain⟨p,rfl,hk,q⟩:=h
 refine⟨_,(aA (bY (i:=1) qM.nd rfl (Or.inl rfl) (aG gW hr rfl iU i_.kp iW .nil pass0 (aj (qv 0) (aj aN ak))))
   (aA (bY (i:=2) qM.nd rfl (Or.inl rfl) (aG nY hr rfl nO iZ.kp nR .nil pass0 (aj (qv 0) (aj aN ak))))
   (aA (bY (i:=3) qM.nd rfl (Or.inl rfl) (bh (aj (aG qd hr rfl pP qe.kp pZ .nil pass0 (aj (bh ak) ak)) (aj (aG lQ hr rfl lC lR.kp lJ .nil pass0 (aj aN ak)) ak))))
   (aA (cg (QW.pt (ZC (bA op_eq (qv 1) aN (nomark _)) (abF (bA op_eq (qv 1) aN (nomark _))))) (aB (aQ (aX bB (qv 3) (bh (aj (aG qd hr rfl pP qe.kp pZ .nil pass0 (aj (aX bB (bh (aj (aG lQ hr rfl lC lR.kp lJ .nil pass0 (aj aN ak)) ak)) (qv 2)) ak)) (aj (aG lQ hr rfl lC lR.kp lJ .nil pass0 (aj aN ak)) (aj (aG lQ hr rfl lC lR.kp lJ .nil pass0 (aj aN ak)) ak))))))) bR)
   (aA (cg (bA op_eq (qv 1) aN (nomark _)) (aB (aQ (aX bB (qv 3) (bh (aj (aG qd hr rfl pP qe.kp pZ .nil pass0 (aj (bh ak) ak)) (aj (aG lQ hr rfl lC lR.kp lJ .nil pass0 (aj aN ak)) (aj (aG lQ hr rfl lC lR.kp lJ .nil pass0 (aj aN ak)) ak))))))) bR)
   (aA (cg (bA op_eq (qv 1) aN (nomark _)) (aB (aQ (bh (aj (bh (aj (aG fj hr rfl eX fu.kp eY .nil pass0 (aj aN ak)) (aj (bh (aj (aG qd hr rfl pP qe.kp pZ .nil pass0 (aj (qv 2) ak)) ak)) (aj (aG qd hr rfl pP qe.kp pZ .nil pass0 (aj (aG nY hr rfl nO iZ.kp nR .nil pass0 (aj (qv 0) (aj aN ak))) ak)) ak)))) ak)))) bR)
   (aA (cg (bA op_eq (qv 1) aN (nomark _)) (aB (aQ (qv 2))) bR)
   (aB (aQ (bh (aj (aG qd hr rfl pP qe.kp pZ .nil pass0 (aj (qv 2) ak)) ak))))))))))),?_⟩
 refine oA (fun v=>[some (.ref p),some v,none,none]) (fun _=>rfl) (fun v H'=>∃ m:Int,v=.int m∧Dr p H H') (fun R r=>⟨_,rfl,p,7,rfl,by decide,hk,fun m H1 h0 h1 D1=>r _ _ ⟨m,rfl,D1⟩⟩) (fun v1 H1 h1=>?_)
 obtain⟨m,rfl,D1⟩:=h1
 refine oA (fun v=>[some (.ref p),some (.int m),some v,none]) (fun _=>rfl) (fun v H'=>∃ ts,Dr p H H'∧TR K H' (.node ts) v∧B 6 2169 (.node ts)) (fun R r=>⟨_,rfl,p,1,rfl,by decide,D1.gA,fun y t H2 D2 t2 s2=>r _ _ ?_⟩) (fun v2 H2 h2=>?_)
 ·cases t with
  | node ts=>exact⟨ts,D1.trans D2,t2,s2.1.le (by decide) (by decide)⟩
 obtain⟨ts,D2,t2,b2⟩:=h2
 have hlt:=b2.len
 refine oA (fun v=>[some (.ref p),some (.int m),some v2,some v]) (fun _=>rfl) (fun v H'=>Dr p H H'∧TR K H' (.node ts) v2∧TR K H' (.node [cI 0 [],W 4]) v) (fun R r=>⟨Nat.zero_le _,fun p1 g1=>?_⟩) (fun v3 H3 h3=>?_)
 ·obtain⟨S1,t1⟩:=cA (K:=K) (ts:=[]) g1 (bM.mpr rfl)
  refine⟨_,[],rfl,t1,by decide,fun y3 H3 S3 t3=>⟨4,rfl,by decide,fun y4 H4 S4 t4=>⟨(by show 2≤sizeLine; decide),fun p5 g5=>?_⟩⟩⟩
  obtain⟨S5,t5⟩:=cA (K:=K) g5 (Oe (t3.mono (.of S4)) t4)
  have S15:=S1.trans (S3.trans (S4.trans S5))
  exact r _ _ ⟨D2.same S15,t2.mono (.of S15),t5⟩
 obtain⟨D3,t23,t3⟩:=h3
 have b3:B 3 10 (.node [cI 0 [],W 4]):=⟨by decide +kernel,by decide +kernel⟩
 try dsimp only [tNext,tSeq,tIfS]
 refine aiI (fun R r=>⟨_,rfl,rfl,_,rfl,r⟩) (fun R r=>⟨_,rfl,rfl,_,rfl,r⟩) (fun bb=>ite2 (fun _=>?_) (fun _=>?_))
 ·refine⟨_,rfl,4,rfl,by decide,fun y5 H5 S5 t5=>⟨(by show 1≤sizeLine; decide),fun p6 g6=>?_⟩⟩
  obtain⟨S6,t6⟩:=cA (K:=K) g6 (fQ t5)
  refine⟨_,rfl,cD t6 (t23.mono (.of (S5.trans S6))) (small (by show 1+ts.length≤_; lia)) (fun y7 H7 S7 t7=>⟨y7,_,rfl,t7,by show ts.length+1≤_; lia,fun y8 H8 S8 t8=>⟨3,rfl,by decide,fun y9 H9 S9 t9=>⟨4,rfl,by decide,fun y10 H10 S10 t10=>⟨(by show 3≤sizeLine; decide),fun p11 g11=>?_⟩⟩⟩⟩)⟩
  obtain⟨S11,t11⟩:=cA (K:=K) g11 (ac3 (t8.mono (.of (S9.trans S10))) (t9.mono (.of S10)) t10)
  have Wr:=S5.trans (S6.trans (S7.trans (S8.trans (S9.trans (S10.trans S11)))))
  refine cD (t3.mono (.of Wr)) t11 (small (by show 2+3≤_; decide)) (fun z H12 S12 t12=>q _ _ _ (D3.same (Wr.trans S12)) t12 ?_)
  exact (uJ (cM (N5 (uJ b2 (j5 (B_W 4)))) (cM (B_W 3) (j5 (B_W 4)))) b3).le (by lia) (by lia)
 refine⟨_,rfl,rfl,_,rfl,ite2 (fun _=>?_) (fun _=>?_)⟩
 ·refine⟨_,rfl,Nat.zero_le _,fun p5 g5=>?_⟩
  obtain⟨S5,t5⟩:=cA (K:=K) (ts:=[]) g5 (bM.mpr rfl)
  refine⟨_,[],rfl,t5,by decide,fun y8 H8 S8 t8=>⟨3,rfl,by decide,fun y9 H9 S9 t9=>⟨4,rfl,by decide,fun y10 H10 S10 t10=>⟨(by show 3≤sizeLine; decide),fun p11 g11=>?_⟩⟩⟩⟩
  obtain⟨S11,t11⟩:=cA (K:=K) g11 (ac3 (t8.mono (.of (S9.trans S10))) (t9.mono (.of S10)) t10)
  have Wr:=S5.trans (S8.trans (S9.trans (S10.trans S11)))
  refine cD (t3.mono (.of Wr)) t11 (small (by show 2+3≤_; decide)) (fun z H12 S12 t12=>q _ _ _ (D3.same (Wr.trans S12)) t12 ?_)
  exact (uJ (cM (N5 yV) (cM (B_W 3) (j5 (B_W 4)))) b3).le (by lia) (by lia)
 refine⟨_,rfl,rfl,_,rfl,ite2 (fun _=>?_) (fun _=>?_)⟩
 ·refine⟨7,rfl,by decide,fun y5 H5 S5 t5=>⟨_,rfl,v2,ts,rfl,t23.mono (.of S5),by lia,fun y6 H6 S6 t6=>⟨(by show 1≤sizeLine; decide),fun p7 g7=>?_⟩⟩⟩
  obtain⟨S7,t7⟩:=cA (K:=K) g7 (fQ t6)
  have D7:=((D3.same S5).same S6).same S7
  refine⟨_,rfl,p,1,rfl,by decide,D7.gA,fun y8 u8 H8 D8 t8 s8=>?_⟩
  cases u8 with
  | node us =>
   have b8:B 6 2169 (.node us):=s8.1.le (by decide) (by decide)
   have hul:=b8.len
   refine⟨y8,us,rfl,t8,by lia,fun y9 H9 S9 t9=>⟨(by show 3≤sizeLine; decide),fun p10 g10=>⟨(by show 1≤sizeLine; decide),fun p11 g11=>?_⟩⟩⟩
   have k79:=(D8.kt D7.gA).trans (Kt.of S9)
   obtain⟨S10,t10⟩:=cA (K:=K) g10 (ac3 ((t5.mono (.of (S6.trans S7))).mono k79) (t7.mono k79) t9)
   obtain⟨S11,t11⟩:=cA (K:=K) g11 (fQ t10)
   exact q _ _ _ ((((D7.trans D8).same S9).same S10).same S11) t11 ((j5 (cM (pK 7) (cM (j5 (N5 b2)) (j5 (N5 b8))))).le (by lia) (by lia))
 refine⟨_,rfl,rfl,_,rfl,ite2 (fun _=>?_) (fun _=>?_)⟩
 ·exact⟨_,rfl,q _ _ _ D3 t23 (b2.le (by lia) (by lia))⟩
 refine⟨_,rfl,v2,ts,rfl,t23,by lia,fun y5 H5 S5 t5=>⟨(by show 1≤sizeLine; decide),fun p6 g6=>?_⟩⟩
 obtain⟨S6,t6⟩:=cA (K:=K) g6 (fQ t5)
 exact q _ _ _ ((D3.same S5).same S6) t6 ((j5 (N5 b2)).le (by lia) (by lia))
end
end d7
namespace d7
open PySem PySem.Spec PyProof.Rows L2 Sw
section
variable {P:Program}{w:World}{K:PySem.W.Frag}{mg:Str→Option Value}{base:Heap}{f:Addr}{fd:FuncData}
theorem XC:T.aD Hz≤2600∧T.cj Hz≤90:=by decide +kernel
theorem af6 {f:List T} (h:B 12 4500 (.node f)):B 99 15000 (.node (cB f))∧(T.node (eE f)).parts≤7200:=by
 obtain⟨h1,h2⟩:=h
 obtain⟨p1,p2⟩:=XC
 have e:=body_parts f
 rw [T.aP] at h1
 rw [T.aM] at h2 e
 have hd:T.cj (eE f)≤91:=by
  unfold eE cI nP
  rw [T.aO,T.aP,T.aO,List.replicate_zero,T.aP,T.bV]
  lia
 refine⟨⟨?_,?_⟩,by rw [T.aM]; lia⟩
 ·unfold cB cI nP
  rw [T.aP,T.aO,T.aP,T.aO,List.replicate_zero,T.aP,T.bV]
  lia
 ·unfold cB cI nP
  rw [T.aM,T.aF,T.aM,T.aF,List.replicate_zero,T.aM,T.aR]
  lia
theorem Rr {M b:Nat}{tx s:List T} (he:(goT b tx s).1=[]) (hM:Wds M tx):T.aD (goT b tx s).2.1≤T.aD s+b+b * (M+3):=by
 obtain⟨N,hN,hst,h⟩:=Uc b tx s he hM
 obtain⟨_,_,h3,_⟩:=h N (Nat.le_refl _)
 rw [hst] at h3
 have e2:N * (M+3)≤b * (M+3):=Nat.mul_le_mul_right _ hN
 have h3:T.aD (goT b tx s).2.1≤T.aD s+b+N * (M+3):=h3
 lia
theorem aiK {ns:List Nat} (h:ns.length=15):((ns.take 14).map fun n:Nat=>(n:Int)).sum - ((ns.getD 2 0:Nat):Int)=n8 ns:=by
 match ns,h with
 | [a0,a1,a2,a3,a4,a5,a6,a7,a8,a9,a10,a11,a12,a13,a14],_ =>
  simp only [n8,List.take_succ_cons,List.take_zero,List.map_cons,List.map_nil,List.sum_cons,List.sum_nil,List.getD_cons_succ,List.getD_cons_zero]
  lia
theorem ok_law (aad:mg "all"=none) (fM:mg "len"=none) (bO:mg "isinstance"=none) (cF:mg "tuple"=none) (Ig:mg "sum"=none)
  {zY:Addr}{zM:FuncData} (Yb:Fun K "_law_deck" "_law_deck" iR zY zM) (X5:FnOk P w K mg base CX0 59 zY zM ["_law_script"] (abu K)) (XJ:Binds K zM ["_law_script"] []) (Xu:mg "_law_deck"=some (.ref zY))
  {yt:Addr}{xU:FuncData} (WT:Fun K "_law_maker" "_law_maker" jo yt xU) (Wz:FnOk P w K mg base CX0 59 yt xU ["_law_deck_here"] (Ym K)) (Wd:Binds K xU ["_law_deck_here"] []) (Va:mg "_law_maker"=some (.ref yt))
  {kW:Addr}{kI:FuncData} (fV:Fun K "_law_tree" "_law_tree" gR kW kI) (iY:FnOk P w K mg base CX0 59 kW kI ["_law_deck_here","_law_deep"] (Tr K 3)) (iV:Binds K kI ["_law_deck_here","_law_deep"] []) (iT:mg "_law_tree"=some (.ref kW))
  {Wj:Addr}{VR:FuncData} (aiD:Fun K "knot" "knot" wF Wj VR) (aiy:FnOk P w K mg base CX0 59 Wj VR ["text"] (abt K)) (ais:Binds K VR ["text"] []) (ahb:mg "knot"=some (.ref Wj))
  {aaS:Addr}{aau:FuncData} (aeN:Fun K "run" "run" BJ aaS aau) (aeM:FnOk P w K mg base CX0 59 aaS aau ["text","tree","budget"] (aeA K)) (aeK:Binds K aau ["text","tree","budget"] []) (aeC:mg "run"=some (.ref aaS))
  {yj:Addr}{xQ:FuncData} (WQ:Fun K "knot_tally" "knot_tally" jk yj xQ) (Wx:FnOk P w K mg base CX0 59 yj xQ ["text","one","other"] (TF K)) (Wb:Binds K xQ ["text","one","other"] []) (U8:mg "knot_tally"=some (.ref yj))
  {Dj:Addr}{CJ:FuncData} (DK:Fun K "tally_of" "tally_of" lZ Dj CJ) (Dy:FnOk P w K mg base CX0 59 Dj CJ ["text","tree","budget"] (Rn K)) (Dg:Binds K CJ ["text","tree","budget"] []) (Cd:mg "tally_of"=some (.ref Dj))
  {yp:Addr}{xR:FuncData} (WR:Fun K "_law_whole" "_law_whole" jl yp xR) (Wy:FnOk P w K mg base CX0 59 yp xR ["_law_found"] Yh) (Wc:Binds K xR ["_law_found"] []) (U_:mg "_law_whole"=some (.ref yp))
  (F:Fun K "law" "law" rP f fd):FnOk P w K mg base CX0 60 f fd ["_law_script"] (spLaw K):=by
 refine okQ F wA (fun vs H Q E h=>?_) (fun cdv A outer s H vs Q E hr h=>?_)
 ·obtain⟨a,ns,rfl,_⟩:=h
  rfl
 obtain⟨a,ns,rfl,hl,h63,q⟩:=h
 have hE:=hr.un
 have hE:(A.deeper (envOfC "law" (defScope rP) s.heap.objs.size f cdv)).units+401<cLine:=by lia
 refine⟨_,(aA (bY (i:=1) wA.nd rfl (Or.inl rfl) (aG X5 hr rfl Xu Yb.kp XJ .nil pass0 (aj (qv 0) ak)))
   (aA (bY (i:=2) wA.nd rfl (Or.inl rfl) (aG Wz hr rfl Va WT.kp Wd .nil pass0 (aj (qv 1) ak)))
   (aA (bY (i:=3) wA.nd rfl (Or.inl rfl) (aG iY hr rfl iT fV.kp iV .nil pass0 (aj (qv 1) (aj aN ak))))
   (aA (bY (i:=4) wA.nd rfl (Or.inl rfl) (aG aiy hr rfl ahb aiD.kp ais .nil pass0 (aj (qv 2) ak)))
   (aA (bY (i:=5) wA.nd rfl (Or.inl rfl) (aG aeM hr rfl aeC aeN.kp aeK .nil pass0 (aj (qv 2) (aj (qv 4) (aj aN ak)))))
   (aA (cg (bA op_ne (gk jq (qv 5) aN (fun _ _=>rfl)) dU (nomark _)) (aB (aQ H_)) bR)
   (aA (cg (bA op_ne (gk jq (aG aeM hr rfl aeC aeN.kp aeK .nil pass0 (aj (gk jq (qv 5) aN (fun _ _=>rfl)) (aj (qv 3) (aj aN ak)))) aN (fun _ _=>rfl)) dU (nomark _)) (aB (aQ H_)) bR)
   (aA (bY (i:=6) wA.nd rfl (Or.inl rfl) (aG Wx hr rfl U8 WQ.kp Wb .nil pass0 (aj (qv 2) (aj (aG Dy hr rfl Cd DK.kp Dg .nil pass0 (aj (qv 2) (aj (qv 4) (aj (gk jq (qv 5) aN (fun _ _=>rfl)) ak)))) (aj (aG Dy hr rfl Cd DK.kp Dg .nil pass0 (aj (gk jq (qv 5) aN (fun _ _=>rfl)) (aj (qv 3) (aj aN ak)))) ak)))))
   (aA (cg (QW.pt (ZC (MJ (mZ (cG GK rfl bO dY (aj (qv 6) (aj (Ph (v:=.ty "tuple") rfl cF mQ rfl) ak))))) (ZC (bA op_ne (cG call_len_seq rfl fM qL (aj (qv 6) ak)) aN (nomark _)) (abF (MJ (wK (cG (aef rfl) rfl aad aip (aj (HY rfl (rH (fr:=[]) (js:=[]) (sc:=defScope rP) rfl rfl rfl (by decide +kernel) (by decide +kernel) (by decide +kernel) (by decide +kernel) (by exact trivial) (by decide +kernel) (fun y hy=>cell_has hy)) (abI (qv 6)) (fun _ _ _ _ _=>(aG Wy hr rfl U_ WR.kp Wc .nil pass0 (aj (qv 0) ak)))) ak)) (fun _=>rfl))))))) (aB (aQ H_)) bR)
   (aB (aQ (afb (afq hE) (aG Dy hr rfl Cd DK.kp Dg .nil pass0 (aj (qv 4) (aj (qv 3) (aj (aX op_sub (cG (RB rfl) rfl Ig acp (aj (wM HS (qv 6) Aq (Ao aN)) ak)) (gk jq (qv 6) aN (fun _ _=>rfl))) ak)))) (qv 6) (nomark _))))))))))))),?_⟩
 refine oA (fun v=>[some (.ref a),some (v),none,none,none,none,none]) (fun _=>rfl) (fun v H'=>∃ p,v=.ref p∧Same H H'∧H p=none∧yE H' p) (fun R r=>⟨_,rfl,a,ns,rfl,hl,h63,fun p H1 S1 hp0 hk=>r _ _ ⟨p,rfl,S1,hp0,hk⟩⟩) (fun v1 H1 h1=>?_)
 obtain⟨p,rfl,_,_,hk⟩:=h1
 refine oA (fun v=>[some (.ref a),some (.ref p),some (v),none,none,none,none]) (fun _=>rfl) (fun v H'=>∃ ft,Dr p H1 H'∧TR K H' (.node ft) v∧B 12 4500 (.node ft)) (fun R r=>⟨_,rfl,p,rfl,hk,fun y ts H2 D2 t2 b2=>r _ _ ⟨ts,D2,t2,b2⟩⟩) (fun v2 H2 h2=>?_)
 obtain⟨ft,D2,t2,bf⟩:=h2
 refine oA (fun v=>[some (.ref a),some (.ref p),some (v2),some (v),none,none,none]) (fun _=>rfl) (fun v H'=>∃ x,TR K H' (.node ft) v2∧TR K H' x v∧B 3 40 x) (fun R r=>⟨_,rfl,p,3,rfl,by decide,D2.gA,fun y t H3 D3 t3 s3=>r _ _ ⟨t,t2.mono (D3.kt D2.gA),t3,s3.b.le (by decide) (by decide)⟩⟩) (fun v3 H3 h3=>?_)
 obtain⟨x,t23,t3,bxx⟩:=h3
 obtain⟨bk,bkb⟩:=af6 bf
 refine oA (fun v=>[some (.ref a),some (.ref p),some (v2),some (v3),some (v),none,none]) (fun _=>rfl) (fun v H'=>Same H3 H'∧TR K H' (.node (cB ft)) v) (fun R r=>⟨_,rfl,v2,ft,rfl,t23,bf.le (by lia) (by lia),fun y H4 S4 t4=>r _ _ ⟨S4,t4⟩⟩) (fun v4 H4 h4=>?_)
 obtain⟨S4,t4⟩:=h4
 have t24:=t23.mono (K:=K) (.of S4)
 have t34:=t3.mono (K:=K) (.of S4)
 have hfd:=bf.1
 have hfp:=bf.2
 have hkd:=bk.1
 have hkp:=bk.2
 have hxd:=bxx.1
 have hxp:=bxx.2
 have wf:Wds 4500 [.node ft]:=fun t ht w hw=>by
  rw [List.mem_singleton.mp ht] at hw
  have:=T.lW (show w∈ft from hw)
  rw [T.aM] at hfp
  lia
 have df:pA 101 ([.node ft],[.node (cB ft)]):=⟨by show (T.node [.node ft]).deep≤101; rw [T.aP,T.aO,T.bV]; lia,by show (T.node [.node (cB ft)]).deep≤101; rw [T.aP,T.aO,T.bV]; lia⟩
 have pf1:T.aD [.node ft]≤4500:=by rw [T.aF,T.aR]; lia
 have pf2:T.aD [.node (cB ft)]≤15000:=by rw [T.aF,T.aR]; lia
 have sf:∀ b,b≤24→Sane b [.node ft] [.node (cB ft)]:=fun b hb=>Jr (M:=4500) b _ _ 101 4500 15000 (by lia) df (by lia) wf pf1 pf2 (by lia)
 refine oA (fun v=>[some (.ref a),some (.ref p),some (v2),some (v3),some (v4),some (v),none]) (fun _=>rfl) (fun v H'=>∃ q5 v',v=.ref q5∧Same H4 H'∧SqT K H' q5 [.str (yF 24 [.node ft] [.node (cB ft)]),v',nv (spT 24 [.node ft] [.node (cB ft)])]∧TR K H' (Ml 24 [.node ft] [.node (cB ft)]) v') (fun R r=>⟨_,rfl,_,rfl,v2,v4,.node ft,.node (cB ft),24,rfl,t24,t4,sf 24 (by lia),fun q5 v' H5 S5 hp tv=>r _ _ ⟨q5,v',rfl,S5,hp,tv⟩⟩) (fun v5 H5 h5=>?_)
 obtain⟨q5,v',rfl,S5,hp5,tv5⟩:=h5
 by_cases he1:(goT 24 [.node ft] [.node (cB ft)]).1=[]
 rotate_left
 ·rw [show yF 24 [.node ft] [.node (cB ft)]=adE from if_neg he1] at hp5
  exact⟨_,rfl,q5,_,_,_,rfl,rfl,hp5,rfl,rfl,_,rfl,ahi (by decide) (q _)⟩
 rw [show yF 24 [.node ft] [.node (cB ft)]=Zi from if_pos he1] at hp5
 rw [show Ml 24 [.node ft] [.node (cB ft)]=ats (goT 24 [.node ft] [.node (cB ft)]).2.1 0 from if_pos he1] at tv5
 refine⟨_,rfl,q5,_,_,_,rfl,rfl,hp5,rfl,rfl,_,rfl,adZ (congrArg not (decide_eq_true rfl)) ?_⟩
 obtain⟨N1,e1,i1⟩:=aby (M:=4500) (a:=101) (by lia) he1 wf df
 have ps1:=Rr (M:=4500) he1 wf
 have am2:spT 24 [.node ft] [.node (cB ft)]≤24:=aiL 24 _ _
 have ga1:=ad4 he1
 have l1:=qH 24 [.node ft] [.node (cB ft)]
 have w1:=Vq he1
 generalize hs1:(goT 24 [.node ft] [.node (cB ft)]).2.1=s1 at *
 generalize hn1:(goT 24 [.node ft] [.node (cB ft)]).2.2=n1 at *
 have am3:T.cj s1≤149∧T.aD s1≤123900:=by
  obtain⟨⟨⟨_,d2⟩,_⟩,_⟩:=i1 N1 (Nat.le_refl _)
  rw [e1] at d2
  have d2:(T.node s1).deep≤101+2 * 24:=d2
  rw [T.aP] at d2
  exact⟨d2,by lia⟩
 have btd:=pX s1 0 am3.1
 have btp:=M4 s1 0
 have bt:B 148 124000 (ats s1 0):=⟨by lia,by lia⟩
 have wt1:Wds 124000 [ats s1 0]:=fun t ht w hw=>by
  rw [List.mem_singleton.mp ht] at hw
  have:=T.lW hw
  have h2:=bt.2
  rw [T.dH] at h2
  lia
 have dt:pA 150 ([ats s1 0],[x]):=⟨by show (T.node [ats s1 0]).deep≤150; rw [T.aP,T.aO,T.bV]; have:=bt.1; lia,by show (T.node [x]).deep≤150; rw [T.aP,T.aO,T.bV]; lia⟩
 have pt1:T.aD [ats s1 0]≤124000:=by rw [T.aF,T.aR]; have:=bt.2; lia
 have pt2:T.aD [x]≤40:=by rw [T.aF,T.aR]; lia
 have st2:Sane 24 [ats s1 0] [x]:=Jr (M:=124000) 24 _ _ 150 124000 40 (by lia) dt (by lia) wt1 pt1 pt2 (by lia)
 have t35:=t34.mono (K:=K) (.of S5)
 dsimp only [tNext]
 refine⟨_,rfl,q5,_,_,_,rfl,rfl,hp5,rfl,_,rfl,v',v3,ats s1 0,x,24,rfl,tv5,t35,st2,fun q6 v6 H6 S6 hp6 _=>?_⟩
 by_cases he2:(goT 24 [ats s1 0] [x]).1=[]
 rotate_left
 ·rw [show yF 24 [ats s1 0] [x]=adE from if_neg he2] at hp6
  exact⟨q6,_,_,_,rfl,rfl,hp6,rfl,rfl,_,rfl,ahi (by decide) (q _)⟩
 rw [show yF 24 [ats s1 0] [x]=Zi from if_pos he2] at hp6
 refine⟨q6,_,_,_,rfl,rfl,hp6,rfl,rfl,_,rfl,adZ (congrArg not (decide_eq_true rfl)) ?_⟩
 obtain⟨N2,e2,i2⟩:=aby (M:=124000) (a:=150) (by lia) he2 wt1 dt
 have ps2:=Rr (M:=124000) he2 wt1
 have l2:=qH 24 [ats s1 0] [x]
 have w2:=Vq he2
 generalize hs2:(goT 24 [ats s1 0] [x]).2.1=s2 at *
 generalize hn2:(goT 24 [ats s1 0] [x]).2.2=n2 at *
 have d2:T.cj s2≤198:=by
  obtain⟨⟨⟨_,d2⟩,_⟩,_⟩:=i2 N2 (Nat.le_refl _)
  rw [e2] at d2
  have d2:(T.node s2).deep≤150+2 * 24:=d2
  rw [T.aP] at d2
  exact d2
 have b2d:=pX s2 0 d2
 have b2p:=M4 s2 0
 have hrun:=adY l1 l2 w1 w2
 have ajd:=ab9 (bk.le (by lia) (by lia)) (bxx.le (by lia) (by lia)) (bt.le (by lia) (by lia)) e1 (fun i hi=>⟨⟨(i1 i hi).1.1.le (by lia),Nat.le_trans (i1 i hi).1.2 (by lia)⟩,Nat.le_trans (i1 i hi).2 (by lia)⟩) e2 (fun i hi=>⟨⟨(i2 i hi).1.1.le (by lia),Nat.le_trans (i2 i hi).1.2 (by lia)⟩,Nat.le_trans (i2 i hi).2 (by lia)⟩) (show B 199 3900000 (ats s2 0) from ⟨by lia,by lia⟩)
 have aae:=adX ft n1 n2
 have hgo:=(Yc aae hrun rfl (Nat.le_refl _)).1
 have hgo:goT (aY pY 0 (cX ft n1 n2)) [.node (cB ft)] [x]=([],[ats s2 0],cX ft n1 n2):=hgo
 have t26:=t24.mono (K:=K) (.of (S5.trans S6))
 have t46:=t4.mono (K:=K) (.of (S5.trans S6))
 have t36:=t35.mono (K:=K) (.of S6)
 have tv6:=tv5.mono (K:=K) (.of S6)
 have ahr:=cO (.of S6) hp5
 dsimp only [tNext]
 refine oA (fun v=>[some (.ref a),some (.ref p),some (v2),some (v3),some (v4),some (.ref q5),some (v)]) (fun _=>rfl) (fun v H'=>∃ q7,v=.ref q7∧Same H6 H'∧SqT K H' q7 ((cX ft n1 n2).map nv)) (fun R r=>⟨_,rfl,_,rfl,_,rfl,_,rfl,q5,_,_,_,rfl,rfl,ahr,rfl,v2,v4,.node ft,.node (cB ft),spT 24 [.node ft] [.node (cB ft)],rfl,t26,t46,sf _ am2,fun c1 H7 S7 hc1=>?_⟩) (fun v7 H9 h9=>?_)
 ·rw [ga1,hn1] at hc1
  refine⟨_,rfl,q5,_,_,_,rfl,rfl,cO (.of S7) ahr,rfl,_,rfl,v',v3,ats s1 0,x,24,rfl,tv6.mono (.of S7),t36.mono (.of S7),st2,fun c2 H8 S8 hc2=>?_⟩
  rw [hn2] at hc2
  exact⟨v2,c1,c2,ft,n1,n2,rfl,t26.mono (.of (S7.trans S8)),bf.le (by lia) (by lia),cO (.of S8) hc1,hc2,l1,l2,fun q7 H9 S9 hq=>r _ _ ⟨q7,rfl,S7.trans (S8.trans S9),hq⟩⟩
 obtain⟨q7,rfl,S9,hq7⟩:=h9
 have lmap:((cX ft n1 n2).map nv).length=15:=by rw [List.length_map]; exact aae
 refine⟨_,rfl,q7,_,"tuple",true,rfl,hq7,by rfl,_,rfl,iteF ?_⟩
 refine⟨_,rfl,q7,_,rfl,.inr hq7,rfl,_,rfl,adZ (congrArg not (decide_eq_true (by rw [lmap]; rfl))) ?_⟩
 refine⟨_,rfl,q7,rfl,⟨_,hq7⟩,?_⟩
 refine YH (K:=K) (xs:=(cX ft n1 n2).map nv) (fun D i ys H'=>H9 D=none∧Same H9 H'∧H' D=some (.lst ys)∧ys=List.replicate i (.bl true)) (small (by lia)) (fun D hD=>⟨hD,same_new hD _,upd_same,rfl⟩) (fun D i ys H' j=>⟨j.2.2.1,by rw [j.2.2.2,List.length_replicate],cO (.of j.2.1) hq7⟩) (fun D i z ys H' R hx j hR=>?_) (fun D ys H10 j=>?_)
 ·obtain⟨hD,S,h1,h2⟩:=j
  rw [List.getElem?_map] at hx
  cases hh:(cX ft n1 n2)[i]? with
  | none=>rw [hh] at hx; cases hx
  | some m =>
   rw [hh] at hx
   cases hx
   refine⟨_,rfl,(m:Int),rfl,fun H3 S3=>hR _ _ (S3 _ _ h1) ⟨hD,cY (S.trans S3) hD,upd_same,?_⟩⟩
   rw [h2,← List.replicate_succ']
 obtain⟨hD,S10,h10,amY⟩:=j
 refine⟨D,List.replicate ((cX ft n1 n2).map nv).length true,rfl,SqL.of (by rw [h10,amY,List.map_replicate]),_,rfl,?_⟩
 rw [show (List.replicate ((cX ft n1 n2).map nv).length true).all id=true from by rw [List.all_eq_true]; intro b hb; rw [List.eq_of_mem_replicate hb]; rfl]
 refine iteF ?_
 dsimp only [tNext]
 have ahq:=cO (.of S10) hq7
 refine⟨_,rfl,_,rfl,_,rfl,14,rfl,q7,_,rfl,ahq,fun q11 H11 S11 h11=>?_⟩
 rw [show (some (14:Int))=some ((14:Nat):Int) from rfl,V1,YD] at h11
 have ahp:=cO (.of S11) ahq
 refine⟨q11,_,rfl,h11,_,rfl,q7,_,_,_,rfl,rfl,ahp,Nf (k:=2) (by lia),_,_,rfl,rfl,?_⟩
 have aje:(((cX ft n1 n2).take 14).map fun n:Nat=>(n:Int)).sum - (((cX ft n1 n2).getD 2 0:Nat):Int)=((aY pY 0 (cX ft n1 n2):Nat):Int):=by
  rw [← Rz aae]
  exact aiK aae
 have aiv:=S10.trans S11
 refine⟨v4,v3,.node (cB ft),x,aY pY 0 (cX ft n1 n2),?_,t46.mono (.of (S9.trans aiv)),t36.mono (.of (S9.trans aiv)),ajd _,fun c12 H12 S12 h12=>?_⟩
 ·show [v4,v3,V.int ((((cX ft n1 n2).take 14).map fun n:Nat=>(n:Int)).sum - (((cX ft n1 n2).getD 2 0:Nat):Int))]=_
  rw [aje]
 rw [hgo] at h12
 refine⟨_,rfl,c12,q7,(cX ft n1 n2).map fun n:Nat=>(n:Int),(cX ft n1 n2).map fun n:Nat=>(n:Int),rfl,rfl,by rw [← abX]; exact h12,by rw [← abX]; exact cO (.of S12) ahp,?_⟩
 rw [decide_eq_true rfl]
 exact q _
end
end d7
namespace d7
open PySem PySem.Spec PyProof.Rows L2 Sw
abbrev fC:Stmt:=inClass (top 69) 0
abbrev gO:Stmt:=inClass (top 70) 0
abbrev iw:Stmt:=inClass (top 81) 0
abbrev gC:Stmt:=inClass (top 81) 1
abbrev iy:Stmt:=inClass (top 82) 0
abbrev jc:Stmt:=inClass (top 82) 1
abbrev gP:Stmt:=inClass (top 83) 0
abbrev gj:Stmt:=inClass (top 84) 0
abbrev jD:Stmt:=inClass (top 84) 1
abbrev pN:Stmt:=inClass (top 84) 2
abbrev lq:Stmt:=inClass (top 84) 3
abbrev nH:Stmt:=inClass (top 84) 5
abbrev nJ:Stmt:=inClass (top 84) 6
theorem D_:FnScope ["self","item","behind"] ["self","item","behind"] (defScope fC):=⟨rfl,rfl,rfl,by decide +kernel,rfl,by decide +kernel,by decide +kernel⟩
theorem Iz:FnScope ["self","tree","place"] ["self","tree","place"] (defScope gO):=⟨rfl,rfl,rfl,by decide +kernel,rfl,by decide +kernel,by decide +kernel⟩
theorem JW:FnScope ["self","tree"] ["self","tree"] (defScope iw):=⟨rfl,rfl,rfl,by decide +kernel,rfl,by decide +kernel,by decide +kernel⟩
theorem EY:FnScope ["self"] ["self"] (defScope gC):=⟨rfl,rfl,rfl,by decide +kernel,rfl,by decide +kernel,by decide +kernel⟩
theorem JZ:FnScope ["self","tree"] ["self","tree"] (defScope iy):=⟨rfl,rfl,rfl,by decide +kernel,rfl,by decide +kernel,by decide +kernel⟩
theorem Mz:FnScope ["self","place"] ["self","place"] (defScope jc):=⟨rfl,rfl,rfl,by decide +kernel,rfl,by decide +kernel,by decide +kernel⟩
theorem IK:FnScope ["self","text"] ["self","text"] (defScope gP):=⟨rfl,rfl,rfl,by decide +kernel,rfl,by decide +kernel,by decide +kernel⟩
theorem JX:FnScope ["self","stand","budget"] ["self","stand","budget"] (defScope gj):=⟨rfl,rfl,rfl,by decide +kernel,rfl,by decide +kernel,by decide +kernel⟩
theorem O_:FnScope ["self"] ["self"] (defScope jD):=⟨rfl,rfl,rfl,by decide +kernel,rfl,by decide +kernel,by decide +kernel⟩
theorem Xb:FnScope ["self"] ["self"] (defScope pN):=⟨rfl,rfl,rfl,by decide +kernel,rfl,by decide +kernel,by decide +kernel⟩
theorem RN:FnScope ["self"] ["self"] (defScope lq):=⟨rfl,rfl,rfl,by decide +kernel,rfl,by decide +kernel,by decide +kernel⟩
theorem oE:FnScope ["self","going","word","step","taken"] ["self"] (defScope nH):=⟨rfl,rfl,rfl,by decide +kernel,rfl,by decide +kernel,by decide +kernel⟩
theorem Ua:FnScope ["self","step","going","word"] ["self","step","going","word"] (defScope nJ):=⟨rfl,rfl,rfl,by decide +kernel,rfl,by decide +kernel,by decide +kernel⟩
end d7
namespace d7
open PySem PySem.Spec PyProof.Rows L2 Sw
section
variable {P:Program}{w:World}{K:PySem.W.Frag}{mg:Str→Option Value}{base:Heap}{f:Addr}{fd:FuncData}{ao aq au aK aL aJ:Addr}
theorem Eb (O:Own K ao aq au aK aL aJ)
  (F:Fun K "__init__" "Fronted.__init__" fC f fd):FnOk P w K mg base CX0 31 f fd ["self","item","behind"] (TQ ao):=by
 refine okQ F D_ (fun vs H Q E h=>?_) (fun cdv A outer s H vs Q E hr h=>?_)
 ·obtain⟨o,dx,y,z,rfl,_⟩:=h
  rfl
 obtain⟨o,dx,y,z,rfl,ho,q⟩:=h
 refine⟨_,(aA (d8 (qv 0) (qv 1) rfl)
   (aB (d8 (qv 0) (qv 2) rfl))),?_⟩
 refine⟨_,rfl,_,rfl,o,ao,dx,_,rfl,ho,O.rF.cl,O.fi,by show 0<1000; decide,?_⟩
 refine⟨_,rfl,_,rfl,o,ao,dx,_,rfl,upd_same,O.rF.cl,O.fb,by show 1<1000; decide,?_⟩
 have e:upd (upd H o (.ins ao dx (putF "item" y []))) o (.ins ao dx (putF "behind" z (putF "item" y [])))=upd H o (.ins ao dx (fF y z)):=by
  rw [j6,MK (by decide +kernel)]
  rfl
 exact e ▸ q
theorem I_ (O:Own K ao aq au aK aL aJ)
  (F:Fun K "__init__" "Later.__init__" gO f fd):FnOk P w K mg base CX0 31 f fd ["self","tree","place"] (Tz aq):=by
 refine okQ F Iz (fun vs H Q E h=>?_) (fun cdv A outer s H vs Q E hr h=>?_)
 ·obtain⟨o,dx,v,p,rfl,_⟩:=h
  rfl
 obtain⟨o,dx,v,p,rfl,ho,q⟩:=h
 refine⟨_,(aA (d8 (qv 0) (qv 1) rfl)
   (aB (d8 (qv 0) (qv 2) rfl))),?_⟩
 refine⟨_,rfl,_,rfl,o,aq,dx,_,rfl,ho,O.rL.cl,O.lt,by show 0<1000; decide,?_⟩
 refine⟨_,rfl,_,rfl,o,aq,dx,_,rfl,upd_same,O.rL.cl,O.lp,by show 1<1000; decide,?_⟩
 have e:upd (upd H o (.ins aq dx (putF "tree" v []))) o (.ins aq dx (putF "place" (.int (p:Int)) (putF "tree" v [])))=upd H o (.ins aq dx (fL v p)):=by
  rw [j6,MK (by decide +kernel)]
  rfl
 exact e ▸ q
theorem Ja (O:Own K ao aq au aK aL aJ)
  (F:Fun K "__init__" "Going.__init__" gP f fd):FnOk P w K mg base CX0 31 f fd ["self","text"] (JN aL):=by
 refine okQ F IK (fun vs H Q E h=>?_) (fun cdv A outer s H vs Q E hr h=>?_)
 ·obtain⟨o,dx,a,rfl,_⟩:=h
  rfl
 obtain⟨o,dx,a,rfl,ho,q⟩:=h
 refine⟨_,(aA (d8 (qv 0) (qv 1) rfl)
   (aB (d8 (qv 0) aN rfl))),?_⟩
 refine⟨_,rfl,_,rfl,o,aL,dx,_,rfl,ho,O.GR,O.gt,by show 0<1000; decide,?_⟩
 refine⟨_,rfl,o,aL,dx,_,rfl,upd_same,O.GR,O.gp,by show 1<1000; decide,?_⟩
 have e:upd (upd H o (.ins aL dx (putF "text" (.ref a) []))) o (.ins aL dx (putF "place" (.int 0) (putF "text" (.ref a) [])))=upd H o (.ins aL dx (fG a 0)):=by
  rw [j6,MK (by decide +kernel)]
  rfl
 exact e ▸ q
theorem Kh (O:Own K ao aq au aK aL aJ)
  (F:Fun K "__init__" "Text.__init__" iy f fd):FnOk P w K mg base CX0 31 f fd ["self","tree"] (JL aK):=by
 refine okQ F JZ (fun vs H Q E h=>?_) (fun cdv A outer s H vs Q E hr h=>?_)
 ·obtain⟨o,dx,v,rfl,_⟩:=h
  rfl
 obtain⟨o,dx,v,rfl,ho,q⟩:=h
 refine⟨_,(aA (d8 (qv 0) (qv 1) rfl)
   (aB (d8 (qv 0) (qD ak) rfl))),?_⟩
 refine⟨_,rfl,_,rfl,o,aK,dx,_,rfl,ho,O.cText,O.tt,by show 0<1000; decide,?_⟩
 refine⟨Nat.zero_le _,fun W g=>⟨_,rfl,o,aK,dx,putF "tree" v [],rfl,?_,O.cText,O.tw,by show 1<1000; decide,?_⟩⟩
 ·have nW:o≠W:=ne_of_none (h:=upd_same) g
  rw [upd_ne nW,upd_same]
 ·have nW:o≠W:=ne_of_none (h:=upd_same) g
  have hW:H W=none:=by rw [upd_ne (Ne.symm nW)] at g; exact g
  have e:upd (upd (upd H o (.ins aK dx (putF "tree" v []))) W (.lst [])) o (.ins aK dx (putF "words" (.ref W) (putF "tree" v [])))=upd (upd H W (.lst [])) o (.ins aK dx (fT v W)):=by
   rw [ajf nW (H:=H),j6,MK (by decide +kernel)]
   rfl
  exact e ▸ q W hW
theorem Xj (O:Own K ao aq au aK aL aJ) (bO:mg "isinstance"=none)
  {lN:Addr}{lH:FuncData} (Bh:Fun K "first" "first" nD lN lH) (Bg:FnOk P w K mg base CX0 31 lN lH ["tree"] (HJ K)) (Bd:Binds K lH ["tree"] []) (Ay:mg "first"=some (.ref lN))
  (dW:mg "Fronted"=some (.ref ao))
  (jG:mg "Later"=some (.ref aq))
  (F:Fun K "first_of" "first_of" mC f fd):FnOk P w K mg base CX0 32 f fd ["row"] (Ro K ao aq au aK):=by
 refine okQ F W6 (fun vs H Q E h=>?_) (fun cdv A outer s H vs Q E hr h=>?_)
 ·obtain⟨x,t,M,H₀,rfl,_⟩:=h
  rfl
 obtain⟨x,t,M,H₀,rfl,g,hx,hd,q⟩:=h
 refine⟨_,(aA (cg (mZ (cG jx rfl bO dY (aj (qv 0) (aj (aU (v:=.ref ao) rfl dW rfl) ak)))) (aB (aQ (bN (qv 0) rfl))) bR)
   (aA (cg (mZ (cG jx rfl bO dY (aj (qv 0) (aj (aU (v:=.ref aq) rfl jG rfl) ak)))) (aB (aQ (gk jq (bN (qv 0) rfl) (bN (qv 0) rfl) (fun _ _=>rfl)))) bR)
   (aB (aQ (aG Bg hr rfl Ay Bh.kp Bd .nil pass0 (aj (qv 0) ak)))))),?_⟩
 rcases hx.cases g with hu | ⟨a,dx,y,z,u,ts,rfl,ha,rfl,hy,hz⟩
 ·rcases hu with ht | ⟨a,dx,v,ts,p,rfl,ha,hv,hp,hl,rfl⟩
  ·obtain⟨b,ys,rfl,hb,_⟩:=uD ht
   refine⟨_,rfl,_,ao,false,rfl,.inr ⟨b,ys,rfl,hb,O.iTF⟩,_,rfl,iteF ?_⟩
   refine⟨_,rfl,_,aq,false,rfl,.inr ⟨b,ys,rfl,hb,O.iTL⟩,_,rfl,iteF ?_⟩
   exact⟨_,rfl,_,t,rfl,ht,hd,fun y H' S h=>q y H' S (.inl h)⟩
  ·refine⟨_,rfl,_,ao,false,rfl,.inl ⟨_,O.rL.ty ha,O.iLF⟩,_,rfl,iteF ?_⟩
   refine⟨_,rfl,_,aq,true,rfl,.inl ⟨_,O.rL.ty ha,O.iLL⟩,_,rfl,iteT ?_⟩
   obtain⟨b,ys,rfl,hb,hys⟩:=cQ.mp hv
   obtain⟨w',ew⟩:∃ w',ts[p]?=some w':=⟨_,List.getElem?_eq_getElem hp⟩
   obtain⟨x',ex,tx'⟩:=hys.at ew
   refine⟨_,rfl,a,aq,dx,_,_,rfl,ha,O.rL.cl,O.lt,dZ _ _ _,_,rfl,a,aq,dx,_,_,rfl,ha,O.rL.cl,O.lp,(cC (by decide +kernel) _ _).trans (dZ _ _ _),b,ys,p,x',rfl,rfl,hb,atI_nat ex,q _ _ (Same.refl _) (.inl ?_)⟩
   have:ats (T.node (ts.drop p)).kids 0=w':=by
    show ((ts.drop p)[0]?).getD leaf=w'
    rw [List.getElem?_drop,Nat.add_zero,ew]
    rfl
   rw [this]
   exact tx'
 ·refine⟨_,rfl,_,ao,true,rfl,.inl ⟨_,O.rF.ty ha,O.iFF⟩,_,rfl,iteT ?_⟩
  exact⟨_,rfl,a,ao,dx,_,_,rfl,ha,O.rF.cl,O.fi,dZ _ _ _,q _ _ (Same.refl _) hy⟩
theorem adH (O:Own K ao aq au aK aL aJ) (fM:mg "len"=none)
  (jG:mg "Later"=some (.ref aq))
  {gQ:Addr}{xV:FuncData} (Mf:Mk K aq gQ) (Mh:FnOk P w K mg base CX0 31 gQ xV ["self","tree","place"] (Tz aq)) (rm:Binds K xV ["self","tree","place"] [])
  (F:Fun K "later" "later" tQ f fd):FnOk P w K mg base CX0 33 f fd ["tree","place"] (Yn K ao aq au aK):=by
 refine okQ F adh (fun vs H Q E h=>?_) (fun cdv A outer s H vs Q E hr h=>?_)
 ·obtain⟨x,ts,p,M,H₀,rfl,_⟩:=h
  rfl
 obtain⟨x,ts,p,M,H₀,rfl,g,ht,hl,q⟩:=h
 refine⟨_,(aB (aQ (qO (bA Ss (qv 1) (cG call_len_seq rfl fM qL (aj (qv 0) ak)) (nomark _)) (jE Mf Mh hr rfl jG rm .nil pass0 (aj (qv 0) (aj (qv 1) ak))) (bh ak)))),?_⟩
 obtain⟨b,ys,rfl,hb,hys⟩:=cQ.mp ht
 have hyl:=hys.length
 refine⟨_,rfl,_,rfl,b,ys,rfl,.inr hb,_,_,rfl,rfl,_,rfl,ite2 (fun h=>?_) (fun h=>?_)⟩
 ·have hp:p<ts.length:=by have:=of_decide_eq_true h; lia
  refine⟨_,rfl,_,rfl,fun o dx ho hd ne=>⟨o,dx,_,p,rfl,iz,?_⟩⟩
  have S:=jd (C:=aq) (fs:=fL (.ref b) p) ho hd ne
  have e:upd (mkO H o dx aq []) o (.ins aq dx (fL (.ref b) p))=mkO H o dx aq (fL (.ref b) p):=ab0
  have fin:Q (.ref o) (mkO H o dx aq (fL (.ref b) p)):=q _ (setM M o (.row (.node (ts.drop p)))) _ S (.role g S ho ⟨_,iz⟩ (.inr ⟨dx,_,ts,p,iz,ht.mono (.of S),hp,hl,rfl⟩)) (.inr ⟨o,rfl,dO⟩)
  exact⟨rfl,e ▸ fin⟩
 ·have hp:ts.length≤p:=by
   have:¬ ((p:Int)<(ys.length:Int)):=fun z=>h (decide_eq_true z)
   lia
  refine⟨Nat.zero_le _,fun p1 g1=>?_⟩
  obtain⟨S1,t1⟩:=cA (K:=K) (ts:=[]) g1 (bM.mpr rfl)
  refine q _ M _ S1 (.grow g S1) (.inl ?_)
  rw [List.drop_eq_nil_of_le hp]
  exact t1
theorem ZP (O:Own K ao aq au aK aL aJ) (bO:mg "isinstance"=none)
  {Q5:Addr}{QF:FuncData} (Y9:Fun K "later" "later" tQ Q5 QF) (Y8:FnOk P w K mg base CX0 33 Q5 QF ["tree","place"] (Yn K ao aq au aK)) (Y5:Binds K QF ["tree","place"] []) (YG:mg "later"=some (.ref Q5))
  (dW:mg "Fronted"=some (.ref ao))
  (jG:mg "Later"=some (.ref aq))
  (F:Fun K "rest_of" "rest_of" oK f fd):FnOk P w K mg base CX0 34 f fd ["row"] (Tt K ao aq au aK):=by
 refine okQ F Zv (fun vs H Q E h=>?_) (fun cdv A outer s H vs Q E hr h=>?_)
 ·obtain⟨x,t,M,H₀,rfl,_⟩:=h
  rfl
 obtain⟨x,t,M,H₀,rfl,g,hx,hd,hk,q⟩:=h
 refine⟨_,(aA (cg (mZ (cG jx rfl bO dY (aj (qv 0) (aj (aU (v:=.ref ao) rfl dW rfl) ak)))) (aB (aQ (bN (qv 0) rfl))) bR)
   (aA (cg (mZ (cG jx rfl bO dY (aj (qv 0) (aj (aU (v:=.ref aq) rfl jG rfl) ak)))) (aB (aQ (aG Y8 hr rfl YG Y9.kp Y5 .nil pass0 (aj (bN (qv 0) rfl) (aj (aX op_add (bN (qv 0) rfl) aN) ak))))) bR)
   (aB (aQ (aG Y8 hr rfl YG Y9.kp Y5 .nil pass0 (aj (qv 0) (aj aN ak))))))),?_⟩
 rcases hx.cases g with hu | ⟨a,dx,y,z,u,ts,rfl,ha,rfl,hy,hz⟩
 ·rcases hu with ht | ⟨a,dx,v,ts,p,rfl,ha,hv,hp,hl,rfl⟩
  ·obtain⟨b,ys,rfl,hb,_⟩:=uD ht
   refine⟨_,rfl,_,ao,false,rfl,.inr ⟨b,ys,rfl,hb,O.iTF⟩,_,rfl,iteF ?_⟩
   refine⟨_,rfl,_,aq,false,rfl,.inr ⟨b,ys,rfl,hb,O.iTL⟩,_,rfl,iteF ?_⟩
   exact⟨_,rfl,_,t.kids,1,M,H₀,rfl,g,vX ht,hk,fun y M' H' S G h=>q y M' H' S G h⟩
  ·refine⟨_,rfl,_,ao,false,rfl,.inl ⟨_,O.rL.ty ha,O.iLF⟩,_,rfl,iteF ?_⟩
   refine⟨_,rfl,_,aq,true,rfl,.inl ⟨_,O.rL.ty ha,O.iLL⟩,_,rfl,iteT ?_⟩
   refine⟨_,rfl,a,aq,dx,_,_,rfl,ha,O.rL.cl,O.lt,dZ _ _ _,_,rfl,a,aq,dx,_,_,rfl,ha,O.rL.cl,O.lp,(cC (by decide +kernel) _ _).trans (dZ _ _ _),_,_,rfl,rfl,v,ts,p+1,M,H₀,rfl,g,hv,hl,fun y M' H' S G h=>q y M' H' S G ?_⟩
   have:aZ (T.node (ts.drop p))=.node (ts.drop (p+1)):=by
    show T.node ((ts.drop p).drop 1)=_
    rw [List.drop_drop]
   rw [this]
   exact h
 ·refine⟨_,rfl,_,ao,true,rfl,.inl ⟨_,O.rF.ty ha,O.iFF⟩,_,rfl,iteT ?_⟩
  exact⟨_,rfl,a,ao,dx,_,_,rfl,ha,O.rF.cl,O.fb,(cC (by decide +kernel) _ _).trans (dZ _ _ _),q _ M _ (Same.refl _) (.refl g) hz⟩
theorem Uq (O:Own K ao aq au aK aL aJ) (bO:mg "isinstance"=none)
  (jG:mg "Later"=some (.ref aq))
  (F:Fun K "unfronted" "unfronted" iK f fd):FnOk P w K mg base CX0 31 f fd ["row"] (Tp K aq):=by
 refine okQ F T4 (fun vs H Q E h=>?_) (fun cdv A outer s H vs Q E hr h=>?_)
 ·obtain⟨x,t,rfl,_⟩:=h
  rfl
 obtain⟨x,t,rfl,hu,q⟩:=h
 refine⟨_,(aA (cg (mZ (cG jx rfl bO dY (aj (qv 0) (aj (aU (v:=.ref aq) rfl jG rfl) ak)))) (aB (aQ (wM HS (bN (qv 0) rfl) (Ao (bN (qv 0) rfl)) Aq))) bR)
   (aB (aQ (qv 0)))),?_⟩
 rcases hu with ht | ⟨a,dx,v,ts,p,rfl,ha,hv,hp,hl,rfl⟩
 ·obtain⟨b,ys,rfl,hb,_⟩:=uD ht
  refine⟨_,rfl,_,aq,false,rfl,.inr ⟨b,ys,rfl,hb,O.iTL⟩,_,rfl,iteF ?_⟩
  exact⟨_,rfl,q _ _ (Same.refl _) ht⟩
 ·refine⟨_,rfl,_,aq,true,rfl,.inl ⟨_,O.rL.ty ha,O.iLL⟩,_,rfl,iteT ?_⟩
  obtain⟨b,ys,rfl,hb,hys⟩:=cQ.mp hv
  refine⟨_,rfl,a,aq,dx,_,_,rfl,ha,O.rL.cl,O.lt,dZ _ _ _,_,rfl,a,aq,dx,_,_,rfl,ha,O.rL.cl,O.lp,(cC (by decide +kernel) _ _).trans (dZ _ _ _),(p:Int),rfl,b,ys,rfl,hb,fun p1 H1 S1 h1=>q _ _ S1 (vO h1 ?_)⟩
  rw [V2]
  exact (hys.drop p).mono (.of S1)
theorem M5 (O:Own K ao aq au aK aL aJ) (bO:mg "isinstance"=none)
  {kJ:Addr}{kh:FuncData} (Ac:Fun K "unfronted" "unfronted" iK kJ kh) (Aa:FnOk P w K mg base CX0 31 kJ kh ["row"] (Tp K aq)) (zQ:Binds K kh ["row"] []) (zq:mg "unfronted"=some (.ref kJ))
  (dW:mg "Fronted"=some (.ref ao))
  (F:Fun K "parts_within" "parts_within" gM f fd):FnOk P w K mg base CX0 32 f fd ["row","most"] (Tw K ao aq au aK):=by
 refine okQ F jN (fun vs H Q E h=>?_) (fun cdv A outer s H vs Q E hr h=>?_)
 ·obtain⟨x,t,M,H₀,m,rfl,_⟩:=h
  rfl
 obtain⟨x,t,M,H₀,m,rfl,g,hx,hz,q⟩:=h
 refine⟨_,(aA (bY (i:=2) jN.nd rfl (Or.inl rfl) (qD (aj (qv 0) ak)))
   (aA (bY (i:=3) jN.nd rfl (Or.inl rfl) aN)
   (aA (wL PassesOwn.never (QW.pt (MF (wK (qv 2) (fun _=>rfl)) (HW (bA ai_ (qv 3) (qv 1) (nomark _))))) (aA (bY (i:=4) jN.nd rfl (Or.inl rfl) (qF PySem.F.plainAttrs_list PySem.F.slot_list_pop PySem.F.type_list_pop rW (qv 2)))
   (aB (cg (mZ (cG jx rfl bO dY (aj (qv 4) (aj (aU (v:=.ref ao) rfl dW rfl) ak)))) (aA (cP (fK PySem.F.plainAttrs_list PySem.F.slot_list_append PySem.F.type_list_append cN (qv 2) (aj (bN (qv 4) rfl) ak)))
   (aB (cP (fK PySem.F.plainAttrs_list PySem.F.slot_list_append PySem.F.type_list_append cN (qv 2) (aj (bN (qv 4) rfl) ak))))) (aA (abG (i:=3) jN.nd rfl (Or.inl rfl) aN Ba)
   (aB (cP (fK PySem.F.plainAttrs_list PySem.F.slot_list_extend PySem.F.type_list_extend YF (qv 2) (aj (aG Aa hr rfl zq Ac.kp zQ .nil pass0 (aj (qv 4) ak)) ak)))))))))
   (aB (aQ (qv 3)))))),?_⟩
 refine⟨_,rfl,(by show 1≤sizeLine; decide),fun p hp=>?_⟩
 refine⟨WPW K M H x m t.parts p,⟨_,[x],[t],0,none,rfl,same_new hp _,upd_same,aW.one (hx.mono (Kt.new hp) fun _ _ z=>z),by rw [T.aF,T.aR]; lia,rfl⟩,?_⟩
 rintro μ σ H' ⟨ys,ts,c,o,rfl,S,hl,ha,hc,rfl⟩
 refine⟨_,rfl,!ys.isEmpty,.inl ⟨ys,SqL.of hl,rfl⟩,ite2 (fun hb=>?_) (fun hb=>?_)⟩
 ·refine⟨_,rfl,_,rfl,_,_,rfl,rfl,_,rfl,ite2 (fun hle=>?_) (fun hle=>?_)⟩
  ·have hne:ys≠[]:=by rintro rfl; exact absurd hb (by decide)
   obtain⟨u,ts0,y,rfl,hy,ha0,hu⟩:=acC ha hne
   have hyl:=ha0.length
   rw [List.length_reverse] at hyl
   have hpp:=T.aF u ts0
   have hlp:=T.cV ts0
   have hup:=T.g_ u
   refine⟨fun σ' H'=>∃ m',m'<2 * T.aD (u::ts0) - (u::ts0).length∧WPW K M H x m t.parts p m' σ' H',fun _ _ h=>h,?_⟩
   refine⟨_,rfl,.inl ⟨rfl,_,SqL.of hl⟩,p,ys,y,rfl,rfl,hl,hy,?_⟩
   have k1:=Ki.lst (o:=.lst ys.dropLast) hl
   have g1:=g.grow S
   rcases hu.cases g1 with hu | ⟨a,dx,y1,z1,u1,ts1,rfl,ha1,rfl,hy1,hz1⟩
   ·have hu1:=hu.mono k1
    refine⟨_,rfl,y,ao,false,rfl,hu1.ag4 O,_,rfl,iteF ?_⟩
    refine⟨_,rfl,_,_,rfl,rfl,?_⟩
    refine⟨_,rfl,.inl ⟨rfl,_,SqL.of upd_same⟩,_,rfl,y,u,rfl,hu1,fun y2 H2 S2 t2=>?_⟩
    obtain⟨b2,zs2,rfl,hb2,hz2⟩:=uD t2
    have hzl:=hz2.length
    have hk:=T.dH u
    have hlk:=T.cV u.kids
    have h2:=S2 _ _ (upd_same (H:=H') (a:=p) (o:=.lst ys.dropLast))
    refine⟨p,b2,ys.dropLast,zs2,rfl,rfl,h2,hb2,Aj (by lia),?_⟩
    refine⟨_,?_,ys.dropLast++zs2,u.kids.reverse++ts0,c+1,_,rfl,?_,upd_same,?_,?_,rfl⟩
    ·rw [T.cJ,BP,List.length_append,List.length_reverse,hpp]
     show _<2 * _ - (ts0.length+1)
     lia
    ·exact cY ((cY S hp).trans S2) hp
    ·rw [List.reverse_append,List.reverse_reverse]
     exact aW.append (gD (k1.kt.trans ((Kt.of S2).trans (Kt.lst h2))) ha0) (gD (Kt.lst h2) (Od hz2))
    ·rw [T.cJ,BP]
     lia
   ·refine⟨_,rfl,_,ao,true,rfl,.inl ⟨_,O.rF.ty (k1.ins _ _ _ _ ha1),O.iFF⟩,_,rfl,iteT ?_⟩
    refine⟨_,rfl,.inl ⟨rfl,_,SqL.of upd_same⟩,_,rfl,a,ao,dx,_,_,rfl,k1.ins _ _ _ _ ha1,O.rF.cl,O.fi,dZ _ _ _,p,_,_,rfl,rfl,upd_same,fB (by lia),?_⟩
    rw [j6]
    have k2:=Ki.lst (o:=.lst (ys.dropLast++[y1])) hl
    refine⟨_,rfl,.inl ⟨rfl,_,SqL.of upd_same⟩,_,rfl,a,ao,dx,_,_,rfl,k2.ins _ _ _ _ ha1,O.rF.cl,O.fb,(cC (by decide +kernel) _ _).trans (dZ _ _ _),p,_,_,rfl,rfl,upd_same,fB (by rw [List.length_append,List.length_singleton]; lia),?_⟩
    rw [j6]
    have k3:=Ki.lst (o:=.lst (ys.dropLast++[y1]++[z1])) hl
    have e1:=T.aM (u1::ts1)
    have e2:=T.aF u1 ts1
    have e3:=T.aM ts1
    refine⟨_,?_,ys.dropLast++[y1]++[z1],.node ts1::u1::ts0,c,_,rfl,cY S hp,upd_same,?_,?_,rfl⟩
    ·rw [T.aF,T.aF,hpp]
     show _ - (ts0.length+1+1)<_ - (ts0.length+1)
     lia
    ·rw [List.reverse_cons,List.reverse_cons]
     exact aW.append (aW.append (gD k3.kt ha0) (aW.one (hy1.mono k3.kt fun _ _ z=>z))) (aW.one (hz1.mono k3.kt fun _ _ z=>z))
    ·rw [T.aF,T.aF]
     lia
  ·have hle':m<c:=by
    have:¬ ((c:Int)≤(m:Int)):=fun z=>hle (decide_eq_true z)
    lia
   exact⟨_,rfl,q c _ S (fun z=>by lia) (fun _=>hle')⟩
 ·have hys:ys=[]:=by
   cases ys with
   | nil=>rfl
   | cons _ _=>exact absurd rfl hb
  subst hys
  have hts:=all_nil ha
  subst hts
  rw [T.aR] at hc
  exact iteF ⟨_,rfl,q c _ S (fun _=>by lia) (fun _=>by lia)⟩
theorem ZW (O:Own K ao aq au aK aL aJ) (bO:mg "isinstance"=none) (cF:mg "tuple"=none)
  {kJ:Addr}{kh:FuncData} (Ac:Fun K "unfronted" "unfronted" iK kJ kh) (Aa:FnOk P w K mg base CX0 31 kJ kh ["row"] (Tp K aq)) (zQ:Binds K kh ["row"] []) (zq:mg "unfronted"=some (.ref kJ))
  (dW:mg "Fronted"=some (.ref ao))
  (F:Fun K "as_tree" "as_tree" oU f fd):FnOk P w K mg base CX0 32 f fd ["row"] (TV K ao aq au aK):=by
 refine okQ F rO (fun vs H Q E h=>?_) (fun cdv A outer s H vs Q E hr h=>?_)
 ·obtain⟨x,t,M,H₀,rfl,_⟩:=h
  rfl
 obtain⟨x,t,M,H₀,rfl,g,hx,hz,q⟩:=h
 refine⟨_,(aA (bY (i:=1) rO.nd rfl (Or.inl rfl) (qD (aj (qv 0) ak)))
   (aA (bY (i:=2) rO.nd rfl (Or.inl rfl) (qD (aj (qD ak) ak)))
   (aB (wL PassesOwn.never (mZ H_) (aA (bY (i:=3) rO.nd rfl (Or.inl rfl) (gk ix_list (qv 1) (yI uK aN) (fun _ _=>rfl)))
   (aA (cg (mZ (cG jx rfl bO dY (aj (qv 3) (aj (aU (v:=.ref ao) rfl dW rfl) ak)))) (aA (agp (bN (qv 3) rfl) (agr (qv 1) (yI uK aN) set_list))
   (aA (cP (fK PySem.F.plainAttrs_list PySem.F.slot_list_append PySem.F.type_list_append cN (qv 1) (aj (bN (qv 3) rfl) ak)))
   (aA (cP (fK PySem.F.plainAttrs_list PySem.F.slot_list_append PySem.F.type_list_append cN (qv 2) (aj (qD ak) ak)))
   (aB Xc)))) bR)
   (aA (cP (qF PySem.F.plainAttrs_list PySem.F.slot_list_pop PySem.F.type_list_pop rW (qv 1)))
   (aA (bY (i:=4) rO.nd rfl (Or.inl rfl) (aX bB (jT gJ rfl cF mQ (aj (qF PySem.F.plainAttrs_list PySem.F.slot_list_pop PySem.F.type_list_pop rW (qv 2)) ak)) (aG Aa hr rfl zq Ac.kp zQ .nil pass0 (aj (qv 3) ak))))
   (aA (cg (MJ (wK (qv 1) (fun _=>rfl))) (aB (aQ (qv 4))) bR)
   (aB (cP (fK PySem.F.plainAttrs_list PySem.F.slot_list_append PySem.F.type_list_append cN (gk ix_list (qv 2) (yI uK aN) (fun _ _=>rfl)) (aj (qv 4) ak))))))))))))),?_⟩
 refine⟨_,rfl,(by show 1≤sizeLine; decide),fun pa ga=>?_⟩
 refine⟨Nat.zero_le _,fun pq gq=>⟨(by show 1≤sizeLine; decide),fun pt gt=>?_⟩⟩
 have Sa:=same_new ga (.lst [x])
 have Sq:=same_new gq (.lst [])
 have St:=same_new gt (.lst [V.ref pq])
 have n1:pa≠pq:=ne_of_none (h:=upd_same) gq
 have hpa:upd (upd H pa (.lst [x])) pq (.lst []) pa=some (.lst [x]):=by rw [upd_ne n1,upd_same]
 have n2:pa≠pt:=ne_of_none hpa gt
 have n3:pq≠pt:=ne_of_none (h:=upd_same) gt
 have a0:AsT K H (upd (upd (upd H pa (.lst [x])) pq (.lst [])) pt (.lst [V.ref pq])) pt pa [V.ref pq] [[]] [x]:=by
  have hq0:H pq=none:=Sa.free gq
  have ht0:H pt=none:=(Sa.trans Sq).free gt
  refine⟨⟨ht0,(Sa.trans Sq).trans St,upd_same,aW.one ⟨pq,[],rfl,hq0,by rw [upd_ne n3,upd_same],bM.mpr rfl⟩,?_⟩,ga,by rw [upd_ne n2]; exact hpa,?_⟩
  ·simp [Ne.symm n3]
  ·simp [n1,n2]
 have S0:=(Sa.trans Sq).trans St
 generalize upd (upd (upd H pa (.lst [x])) pq (.lst [])) pt (.lst [V.ref pq])=Hs at a0 S0
 refine⟨fun μ σ H'=>∃ (ys zs:List V) (st:List (List T)) (as:List T) (o3 o4:Option V),σ=[some x,some (.ref pa),some (.ref pt),o3,o4]∧AsT K H H' pt pa ys st zs∧aW (RV K M H') as.reverse zs∧as≠[]∧st.length=as.length∧Bp st as=t∧T.aD as+(st.map List.length).sum≤t.parts∧μ=2 * T.aD as - as.length,⟨_,[.ref pq],[x],[[]],[t],none,none,rfl,a0,aW.one (hx.mono (.of S0) fun _ _ z=>z),by simp,rfl,by show T.node ([]++t.kids)=t; cases t; rfl,by rw [T.aF,T.aR]; show _+0≤_; lia,rfl⟩,?_⟩
 rintro μ σ H1 ⟨ys,zs,st,as,o3,o4,rfl,A1,ha,hne,hlen,hval,hsum,rfl⟩
 refine⟨_,rfl,iteT ?_⟩
 have amW:zs≠[]:=by
  rintro rfl
  exact hne (all_nil ha)
 obtain⟨u,as0,zs0,y,rfl,rfl,ha0,hu⟩:=mU ha amW
 have hzl:=ha0.length
 rw [List.length_reverse] at hzl
 have hpp:=T.aF u as0
 have hlp:=T.cV as0
 have hup:=T.g_ u
 have g1:=g.grow A1.rows.same
 refine⟨fun σ' H'=>∃ m',m'<2 * T.aD (u::as0) - (u::as0).length∧∃ (ys zs:List V) (st:List (List T)) (as:List T) (o3 o4:Option V),σ'=[some x,some (.ref pa),some (.ref pt),o3,o4]∧AsT K H H' pt pa ys st zs∧aW (RV K M H') as.reverse zs∧as≠[]∧st.length=as.length∧Bp st as=t∧T.aD as+(st.map List.length).sum≤t.parts∧m'=2 * T.aD as - as.length,fun _ _ h=>h,?_⟩
 refine⟨_,rfl,1,rfl,pa,_,_,_,rfl,rfl,SqL.of A1.at_,Bf,?_⟩
 rcases hu.cases g1 with hu | ⟨a,dx,y1,z1,u1,ts1,rfl,ha1,rfl,hy1,hz1⟩
 ·refine⟨_,rfl,y,ao,false,rfl,hu.ag4 O,_,rfl,iteF ?_⟩
  have hk:=T.dH u
  refine⟨_,rfl,.inl ⟨rfl,_,SqL.of A1.at_⟩,pa,_,_,rfl,rfl,A1.at_,lX _ _,?_⟩
  rw [lY]
  have k1:=Ki.lst (o:=.lst zs0) A1.at_
  have A2:AsT K H (upd H1 pa (.lst zs0)) pt pa ys st zs0:=A1.place
  generalize upd H1 pa (.lst zs0)=H2 at k1 A2
  have hu2:=hu.mono k1
  have ha2:=gD k1.kt ha0
  obtain⟨l,st0,rfl⟩:∃ l st0,st=l::st0:=by
   cases st with
   | nil=>exact absurd hlen (by simp)
   | cons l st0=>exact⟨l,st0,rfl⟩
  obtain⟨ys0,b,xs,rfl,nRb,hb,hxs,A3⟩:=A2.shut
  refine⟨_,rfl,.inl ⟨rfl,_,SqL.of A2.rows.at_⟩,pt,_,_,rfl,rfl,A2.rows.at_,lX _ _,?_⟩
  rw [lY]
  have k3:=Ki.lst (o:=.lst ys0) A2.rows.at_
  have hb3:upd H2 pt (.lst ys0) b=some (.lst xs):=by rw [upd_ne (Ne.symm nRb)]; exact hb
  have aho:=hxs.mono k3.kt
  generalize upd H2 pt (.lst ys0)=H3 at k3 A3 hb3 aho
  refine⟨b,xs,rfl,.inl ⟨SqL.of hb3,fun p4 g4=>?_⟩⟩
  obtain⟨S4,t4⟩:=cA (K:=K) g4 aho
  have hu4:=(hu2.mono k3).mono (Ki.of S4)
  have hsl:(List.map List.length (l::st0)).sum=l.length+(List.map List.length st0).sum:=rfl
  refine⟨_,rfl,y,u,rfl,hu4,fun y5 H5 S5 t5=>?_⟩
  have t5':TR K H5 (.node u.kids) y5:=vX t5
  have hlk:=T.cV u.kids
  refine cD (t4.mono (.of S5)) t5' (Aj (by lia)) (fun z6 H6 S6 t6=>?_)
  have S36:=S4.trans (S5.trans S6)
  have A6:=A3.grow S36
  refine⟨_,rfl,!zs0.isEmpty,.inl ⟨zs0,SqL.of A6.at_,rfl⟩,ite2 (fun he=>?_) (fun he=>?_)⟩
  ·have hz0:zs0=[]:=by
    cases zs0 with
    | nil=>rfl
    | cons _ _=>exact absurd he (by simp)
   subst hz0
   have:=all_nil ha0
   subst this
   have hs0:st0=[]:=by
    have:st0.length+1=0+1:=hlen
    exact List.length_eq_zero_iff.mp (by lia)
   subst hs0
   refine⟨_,rfl,q _ _ A6.rows.same ?_⟩
   rw [← hval]
   exact t6
  ·have hz0:zs0≠[]:=by rintro rfl; exact he rfl
   have ad1:as0≠[]:=by
    rintro rfl
    cases ha0
    exact hz0 rfl
   obtain⟨l',st1,rfl⟩:∃ l' st1,st0=l'::st1:=by
    cases st0 with
    | nil =>
     have h1:0+1=as0.length+1:=hlen
     exact absurd (List.length_eq_zero_iff.mp (by lia)) ad1
    | cons l' st1=>exact⟨l',st1,rfl⟩
   obtain⟨ys1,c,ws,rfl,hc,hwl,A7⟩:=A6.add t6
   have apl:(List.map List.length (l'::st1)).sum=l'.length+(List.map List.length st1).sum:=rfl
   refine⟨_,rfl,1,rfl,pt,_,_,_,rfl,rfl,SqL.of A6.rows.at_,Bf,.inl ⟨rfl,_,SqL.of hc⟩,_,rfl,c,_,_,rfl,rfl,hc,fB (by lia),?_⟩
   refine⟨_,?_,_,zs0,_,as0,_,_,rfl,A7,?_,ad1,?_,?_,?_,rfl⟩
   ·rw [hpp]
    show _<_ - (as0.length+1)
    lia
   ·exact gD (k3.kt.trans ((Kt.of S36).trans (Kt.lst hc))) ha2
   ·have h1:st1.length+1+1=as0.length+1:=hlen
    show st1.length+1=as0.length
    lia
   ·rw [← hval]
    cases as0 with
    | nil=>exact absurd rfl ad1
    | cons _ _=>rw [Bp]
   ·show _+((l'++[_]).length+(List.map List.length st1).sum)≤_
    rw [List.length_append,List.length_singleton]
    lia
 ·have e1:=T.aM (u1::ts1)
  have e2:=T.aF u1 ts1
  have e3:=T.aM ts1
  refine⟨_,rfl,_,ao,true,rfl,.inl ⟨_,O.rF.ty ha1,O.iFF⟩,_,rfl,iteT ?_⟩
  refine⟨_,rfl,a,ao,dx,_,_,rfl,ha1,O.rF.cl,O.fb,(cC (by decide +kernel) _ _).trans (dZ _ _ _),_,rfl,1,rfl,pa,_,-1,_,rfl,rfl,A1.at_,afL _ _,?_⟩
  rw [ade]
  have k1:=Ki.lst (o:=.lst (zs0++[z1])) A1.at_
  have A2:AsT K H (upd H1 pa (.lst (zs0++[z1]))) pt pa ys st (zs0++[z1]):=A1.place
  generalize upd H1 pa (.lst (zs0++[z1]))=H2 at k1 A2
  refine⟨_,rfl,.inl ⟨rfl,_,SqL.of A2.at_⟩,_,rfl,a,ao,dx,_,_,rfl,k1.ins _ _ _ _ ha1,O.rF.cl,O.fi,dZ _ _ _,pa,_,_,rfl,rfl,A2.at_,fB (by rw [List.length_append,List.length_singleton]; lia),?_⟩
  have k2:=Ki.lst (o:=.lst (zs0++[z1]++[y1])) A2.at_
  have A3:AsT K H (upd H2 pa (.lst (zs0++[z1]++[y1]))) pt pa ys st (zs0++[z1]++[y1]):=A2.place
  generalize upd H2 pa (.lst (zs0++[z1]++[y1]))=H3 at k2 A3
  refine⟨_,rfl,.inl ⟨rfl,_,SqL.of A3.rows.at_⟩,Nat.zero_le _,fun pn gn=>⟨pt,_,_,rfl,rfl,same_new gn _ _ _ A3.rows.at_,?_,?_⟩⟩
  ·have hyl:=A3.rows.rows.length
   rw [List.length_reverse] at hyl
   exact fB (by
    have h1:st.length=as0.length+1:=hlen
    lia)
  ·have A4:=A3.enter gn
   have k4:Kt H3 (upd (upd H3 pn (.lst [])) pt (.lst (ys++[.ref pn]))):=(Kt.new gn).trans (Kt.lst (same_new gn _ _ _ A3.rows.at_))
   have k:=k1.kt.trans (k2.kt.trans k4)
   obtain⟨l,st0,rfl⟩:∃ l st0,st=l::st0:=by
    cases st with
    | nil=>exact absurd hlen (by simp)
    | cons l st0=>exact⟨l,st0,rfl⟩
   refine⟨_,?_,_,_,_,u1::.node ts1::as0,_,_,rfl,A4,?_,by simp,?_,?_,?_,rfl⟩
   ·rw [T.aF,T.aF,hpp]
    show _ - (as0.length+1+1)<_ - (as0.length+1)
    lia
   ·rw [List.reverse_cons,List.reverse_cons]
    exact aW.append (aW.append (gD k ha0) (aW.one (hz1.mono k fun _ _ z=>z))) (aW.one (hy1.mono k fun _ _ z=>z))
   ·have h1:(l::st0).length=as0.length+1:=hlen
    show (l::st0).length+1=as0.length+1+1
    rw [h1]
   ·rw [ac1]
    exact hval
   ·have e9:(List.map List.length ([]::l::st0)).sum=(List.map List.length (l::st0)).sum:=by simp
    rw [T.aF,T.aF,e9]
    lia
end
end d7
namespace d7
open PySem PySem.Spec PyProof.Rows L2 Sw
section
variable {P:Program}{w:World}{K:PySem.W.Frag}{mg:Str→Option Value}{base:Heap}{f:Addr}{fd:FuncData}{ao aq au aK aL aJ:Addr}
theorem Xh (O:Own K ao aq au aK aL aJ) {jM:Value} (m_:mg "FORK"=some jM) (jR:RelV (.int 7) jM) {lU:Value} (rG:mg "FORK_NO"=some lU) (lV:RelV (.int 8) lU) {jL:Value} (pR:mg "FORK_YES"=some jL) (jQ:RelV (.int 7) jL) {dJ:Value} (eG:mg "WHILE"=some dJ) (dM:RelV (.int 8) dJ) {n_:Value} (wX:mg "WHILE_PAST"=some n_) (oV:RelV (.int 10) n_) {gY:Value} (lD:mg "WHILE_INTO"=some gY) (gZ:RelV (.int 9) gY) {jK:Value} (pQ:mg "NAMELESS"=some jK) (jP:RelV (.int 9) jK) {uL:Value} (FQ:mg "NO_WORD"=some uL) (uR:RelV (.int 11) uL)
  (F:Fun K "place_of" "place_of" jO f fd):FnOk P w K mg base CX0 31 f fd ["sort","top"] (Yl K ao aq au aK):=by
 refine okQ F W4 (fun vs H Q E h=>?_) (fun cdv A outer s H vs Q E hr h=>?_)
 ·obtain⟨k,x,t,M,H₀,rfl,_⟩:=h
  rfl
 obtain⟨k,x,t,M,H₀,rfl,g,hx,hd,q⟩:=h
 have hE:=hr.un
 have hE:(A.deeper (envOfC "place_of" (defScope jO) s.heap.objs.size f cdv)).units+401<cLine:=by lia
 refine⟨_,(aA (cg (bA op_eq (qv 0) (aU (v:=.int 7) rfl m_ jR) (nomark _)) (aB (aQ (qO (bA (Um hE) (qv 1) (bh ak) (nomark _)) (aU (v:=.int 8) rfl rG lV) (aU (v:=.int 7) rfl pR jQ)))) bR)
   (aA (cg (bA op_eq (qv 0) (aU (v:=.int 8) rfl eG dM) (nomark _)) (aB (aQ (qO (bA (Um hE) (qv 1) (bh ak) (nomark _)) (aU (v:=.int 10) rfl wX oV) (aU (v:=.int 9) rfl lD gZ)))) bR)
   (aB (aQ (qO (bA op_eq (qv 0) (aU (v:=.int 9) rfl pQ jP) (nomark _)) (aU (v:=.int 11) rfl FQ uR) (qv 0)))))),?_⟩
 refine⟨_,rfl,rfl,_,rfl,ite2 (fun h7=>?_) (fun h7=>?_)⟩
 ·have h7:k=7:=by have:=V.int.inj (of_decide_eq_true h7); lia
  refine⟨_,rfl,Nat.zero_le _,fun p gp=>YT O g hx (by lia) gp ⟨_,rfl,ite2 (fun he=>?_) (fun he=>?_)⟩⟩
  ·have:=q _ (same_new gp (.tup []))
   rw [rT,if_pos h7,if_pos (of_decide_eq_true he)] at this
   exact this
  ·have:=q _ (same_new gp (.tup []))
   rw [rT,if_pos h7,if_neg (fun z=>he (decide_eq_true z))] at this
   exact this
 have h7:¬ k=7:=fun z=>h7 (decide_eq_true (by rw [z]; rfl))
 refine⟨_,rfl,rfl,_,rfl,ite2 (fun h8=>?_) (fun h8=>?_)⟩
 ·have h8:k=8:=by have:=V.int.inj (of_decide_eq_true h8); lia
  refine⟨_,rfl,Nat.zero_le _,fun p gp=>YT O g hx (by lia) gp ⟨_,rfl,ite2 (fun he=>?_) (fun he=>?_)⟩⟩
  ·have:=q _ (same_new gp (.tup []))
   rw [rT,if_neg h7,if_pos h8,if_pos (of_decide_eq_true he)] at this
   exact this
  ·have:=q _ (same_new gp (.tup []))
   rw [rT,if_neg h7,if_pos h8,if_neg (fun z=>he (decide_eq_true z))] at this
   exact this
 have h8:¬ k=8:=fun z=>h8 (decide_eq_true (by rw [z]; rfl))
 refine⟨_,rfl,rfl,_,rfl,ite2 (fun h9=>?_) (fun h9=>?_)⟩
 ·have h9:k=9:=by have:=V.int.inj (of_decide_eq_true h9); lia
  have:=q _ (Same.refl H)
  rw [rT,if_neg h7,if_neg h8,if_pos h9] at this
  exact this
 ·have h9:¬ k=9:=fun z=>h9 (decide_eq_true (by rw [z]; rfl))
  have:=q _ (Same.refl H)
  rw [rT,if_neg h7,if_neg h8,if_neg h9] at this
  exact⟨_,rfl,this⟩
theorem Kf (O:Own K ao aq au aK aL aJ) {jM:Value} (m_:mg "FORK"=some jM) (jR:RelV (.int 7) jM) {dJ:Value} (eG:mg "WHILE"=some dJ) (dM:RelV (.int 8) dJ)
  {Hf:Addr}{Gm:FuncData} (acP:Fun K "sort_of" "sort_of" oJ Hf Gm) (acH:FnOk P w K mg base CX0 33 Hf Gm ["word"] (Yj K)) (acs:Binds K Gm ["word"] []) (ab2:mg "sort_of"=some (.ref Hf))
  {Hi:Addr}{Gu:FuncData} (acS:Fun K "load_of" "load_of" oN Hi Gu) (acK:FnOk P w K mg base CX0 33 Hi Gu ["word"] (Et K)) (acw:Binds K Gu ["word"] []) (ab5:mg "load_of"=some (.ref Hi))
  {lN:Addr}{lH:FuncData} (Bh:Fun K "first" "first" nD lN lH) (Bg:FnOk P w K mg base CX0 33 lN lH ["tree"] (HJ K)) (Bd:Binds K lH ["tree"] []) (Ay:mg "first"=some (.ref lN))
  {yh:Addr}{xP:FuncData} (WM:Fun K "rest" "rest" uQ yh xP) (Ww:FnOk P w K mg base CX0 33 yh xP ["tree"] (Et K)) (Wa:Binds K xP ["tree"] []) (U7:mg "rest"=some (.ref yh))
  (uW:mg "Text"=some (.ref aK))
  {dI:Addr}{jY:FuncData} (rM:Mk K aK dI) (j4:FnOk P w K mg base CX0 32 dI jY ["self","tree"] (JL aK)) (eF:Binds K jY ["self","tree"] [])
  (F:Fun K "__init__" "Word.__init__" iw f fd):FnOk P w K mg base CX0 34 f fd ["self","tree"] (Tn K ao aq au aK):=by
 refine okQ F JW (fun vs H Q E h=>?_) (fun cdv A outer s H vs Q E hr h=>?_)
 ·obtain⟨o,dx,x,w',M,H₀,rfl,_⟩:=h
  rfl
 obtain⟨o,dx,x,w',M,H₀,rfl,g,hm,ho,hx,hd,q⟩:=h
 refine⟨_,(aA (d8 (qv 0) (aG acH hr rfl ab2 acP.kp acs .nil pass0 (aj (qv 1) ak)) rfl)
   (aA (d8 (qv 0) (aG acK hr rfl ab5 acS.kp acw .nil pass0 (aj (qv 1) ak)) rfl)
   (aA (d8 (qv 0) wN rfl)
   (aA (d8 (qv 0) wN rfl)
   (aA (d8 (qv 0) wN rfl)
   (aA (d8 (qv 0) wN rfl)
   (aA (cg (bA op_eq (bN (qv 0) rfl) (aU (v:=.int 7) rfl m_ jR) (nomark _)) (aA (d8 (qv 0) (jE rM j4 hr rfl uW eF .nil pass0 (aj (aG Bg hr rfl Ay Bh.kp Bd .nil pass0 (aj (bN (qv 0) rfl) ak)) ak)) rfl)
   (aB (d8 (qv 0) (jE rM j4 hr rfl uW eF .nil pass0 (aj (aG Ww hr rfl U7 WM.kp Wa .nil pass0 (aj (bN (qv 0) rfl) ak)) ak)) rfl))) bR)
   (aB (cg (bA op_eq (bN (qv 0) rfl) (aU (v:=.int 8) rfl eG dM) (nomark _)) (aB (d8 (qv 0) (jE rM j4 hr rfl uW eF .nil pass0 (aj (bN (qv 0) rfl) ak)) rfl)) bR))))))))),?_⟩
 refine⟨_,rfl,x,w',rfl,hx,hd,fun H1 S1=>⟨_,rfl,o,au,dx,[],rfl,S1 _ _ ho,O.fO,O.wk,by show 0<1000; decide,?_⟩⟩
 rw [pd1]
 have kt {u:HO}{Ha:Hp}{fs:List (Str×V)} (h:Ha o=some (.ins au dx fs)):Kt Ha (upd Ha o u):=Kt.ins h
 have G1:Go K ao aq au aK (fun a=>a=o) M M H₀ H (upd H1 o (.ins au dx (d1 (.int (aH w':Nat))))):=Go.oZ (.grow g S1) hm rfl (kt (S1 _ _ ho))
 have O1:∀ c u,H c=some u→c≠o→upd H1 o (.ins au dx (d1 (.int (aH w':Nat)))) c=some u:=fun c u h n=>by rw [upd_ne n]; exact S1 _ _ h
 have h1:upd H1 o (.ins au dx (d1 (.int (aH w':Nat)))) o=some (.ins au dx (d1 (.int (aH w':Nat)))):=upd_same
 generalize upd H1 o (.ins au dx (d1 (.int (aH w':Nat))))=H2 at G1 O1 h1
 refine⟨_,rfl,x,w',rfl,hx.mono G1.kt,fun v H3 S3 tv=>⟨_,rfl,o,au,dx,_,rfl,S3 _ _ h1,O.fO,O.wl,by show 1<1000; decide,?_⟩⟩
 rw [pd2]
 have G3:Go K ao aq au aK (fun a=>a=o) M M H₀ H (upd H3 o (.ins au dx (d2 (.int (aH w':Nat)) v))):=Go.oZ (G1.trans (.grow G1.gh S3)) hm rfl (kt (S3 _ _ h1))
 have O3:∀ c u,H c=some u→c≠o→upd H3 o (.ins au dx (d2 (.int (aH w':Nat)) v)) c=some u:=fun c u h n=>by rw [upd_ne n]; exact S3 _ _ (O1 c u h n)
 have tv3:TR K (upd H3 o (.ins au dx (d2 (.int (aH w':Nat)) v))) (aZ w') v:=tv.mono (kt (S3 _ _ h1))
 have h3:upd H3 o (.ins au dx (d2 (.int (aH w':Nat)) v)) o=some (.ins au dx (d2 (.int (aH w':Nat)) v)):=upd_same
 generalize upd H3 o (.ins au dx (d2 (.int (aH w':Nat)) v))=H4 at G3 O3 tv3 h3
 refine⟨_,rfl,o,au,dx,_,rfl,h3,O.fO,O.wy,by show 2<1000; decide,?_⟩
 rw [pd3]
 refine⟨_,rfl,o,au,dx,_,rfl,upd_same,O.fO,O.wn,by show 3<1000; decide,?_⟩
 rw [pd4,j6]
 refine⟨_,rfl,o,au,dx,_,rfl,upd_same,O.fO,O.wb,by show 4<1000; decide,?_⟩
 rw [pd5,j6]
 refine⟨_,rfl,o,au,dx,_,rfl,upd_same,O.fO,O.ws,by show 5<1000; decide,?_⟩
 rw [pd6,j6]
 have G5:Go K ao aq au aK (fun a=>a=o) M M H₀ H (upd H4 o (.ins au dx (fD (aH w') v .non .non .non .non))):=Go.oZ G3 hm rfl (kt h3)
 have O5:∀ c u,H c=some u→c≠o→upd H4 o (.ins au dx (fD (aH w') v .non .non .non .non)) c=some u:=fun c u h n=>by rw [upd_ne n]; exact O3 c u h n
 have tv5:TR K (upd H4 o (.ins au dx (fD (aH w') v .non .non .non .non))) (aZ w') v:=tv3.mono (kt h3)
 have h5:upd H4 o (.ins au dx (fD (aH w') v .non .non .non .non)) o=some (.ins au dx (fD (aH w') v .non .non .non .non)):=upd_same
 generalize upd H4 o (.ins au dx (fD (aH w') v .non .non .non .non))=H5 at G5 O5 tv5 h5
 have hdl:(aZ w').deep≤400:=Nat.le_trans (aci w') hd
 dsimp only
 refine aah (fun σ' H'=>σ'=[some (.ref o),some x]∧∃ M' y n,Go K ao aq au aK (fun a=>a=o) M M' H₀ H H'∧(∀ c u,H c=some u→c≠o→H' c=some u)∧H' o=some (.ins au dx (fD (aH w') v y n .non .non))∧TR K H' (aZ w') v∧W7 M' w' y n) (fun σ' H6 h6=>?_) (fun A' B' hA hB=>⟨_,rfl,o,au,dx,_,_,rfl,h5,O.fO,O.wk,ldK,rfl,_,rfl,ite2 (fun h=>hA _ fun N hN=>?_) (fun h=>hB _ ⟨rfl,M,.non,.non,G5,O5,h5,tv5,fun z=>absurd (decide_eq_true (by rw [z]; rfl)) h⟩)⟩)
 rotate_left
 ·refine⟨_,rfl,o,au,dx,_,_,rfl,h5,O.fO,O.wl,ldL,v,aZ w',rfl,tv5,hdl,fun y1 H6 S6 t6=>fun a da ha hda ne=>⟨a,da,y1,rfl,iz,fun W hW=>⟨rfl,_,rfl,o,au,dx,fD (aH w') v .non .non .non .non,rfl,?_,O.fO,O.wy,by show 6<1000; decide,?_⟩⟩⟩
  ·obtain⟨_,S7,_⟩:=Go.newText (X:=fun a=>a=o) (G5.trans (.grow G5.gh S6)).gh t6 ha hda ne hW
   exact S7 _ _ (S6 _ _ h5)
  obtain⟨G7,S7,tx7⟩:=Go.newText (X:=fun a=>a=o) (G5.trans (.grow G5.gh S6)).gh t6 ha hda ne hW
  have h7:=S7 _ _ (S6 _ _ h5)
  have tv7:=tv5.mono (.of (S6.trans S7))
  have O7:∀ c u,H c=some u→c≠o→_:=fun c u h n=>S7 _ _ (S6 _ _ (O5 c u h n))
  have G7':=(G5.trans (.grow G5.gh S6)).trans G7
  generalize setM (setM M W (.words (ats (aZ w').kids 0))) a (.text (ats (aZ w').kids 0) W)=M7 at G7' tx7
  generalize upd (upd (mkO H6 a da aK []) W (.lst [])) a (.ins aK da (fT y1 W))=H7 at S7 h7 tv7 O7 G7'
  rw [pdY]
  have hm7:=G7'.ext _ _ hm
  have G8:=G7'.oZ (u:=.ins au dx (fD (aH w') v (.ref a) .non .non .non)) hm7 rfl (kt h7)
  have O8:∀ c u,H c=some u→c≠o→upd H7 o (.ins au dx (fD (aH w') v (.ref a) .non .non .non)) c=some u:=fun c u h n=>by rw [upd_ne n]; exact O7 c u h n
  have tv8:=tv7.mono (kt (u:=.ins au dx (fD (aH w') v (.ref a) .non .non .non)) h7)
  have h8:upd H7 o (.ins au dx (fD (aH w') v (.ref a) .non .non .non)) o=some (.ins au dx (fD (aH w') v (.ref a) .non .non .non)):=upd_same
  generalize upd H7 o (.ins au dx (fD (aH w') v (.ref a) .non .non .non))=H8 at G8 O8 tv8 h8
  refine⟨_,rfl,o,au,dx,_,_,rfl,h8,O.fO,O.wl,ldL,v,aZ w',rfl,tv8,fun y9 H9 S9 t9=>fun c dc hc hdc ne9=>⟨c,dc,y9,rfl,iz,fun W9 hW9=>⟨rfl,_,rfl,o,au,dx,fD (aH w') v (.ref a) .non .non .non,rfl,?_,O.fO,O.wn,by show 6<1000; decide,?_⟩⟩⟩
  ·obtain⟨_,S10,_⟩:=Go.newText (X:=fun a=>a=o) (G8.trans (.grow G8.gh S9)).gh t9 hc hdc ne9 hW9
   exact S10 _ _ (S9 _ _ h8)
  obtain⟨G10,S10,ajh⟩:=Go.newText (X:=fun a=>a=o) (G8.trans (.grow G8.gh S9)).gh t9 hc hdc ne9 hW9
  have h10:=S10 _ _ (S9 _ _ h8)
  have aji:=tv8.mono (.of (S9.trans S10))
  have aiA:=(G8.trans (.grow G8.gh S9)).trans G10
  have ajg:=tx7.ext G10
  rw [pdN]
  refine hN _ _ ⟨rfl,_,.ref a,.ref c,aiA.oZ (aiA.ext _ _ hm) rfl (kt h10),fun c u h n=>by rw [upd_ne n]; exact S10 _ _ (S9 _ _ (O8 c u h n)),upd_same,aji.mono (kt h10),fun _=>⟨a,c,rfl,rfl,ajg,ajh⟩⟩
 obtain⟨rfl,M6,y6,n6,G6,O6,h6,tv6,w7⟩:=h6
 refine⟨_,rfl,o,au,dx,_,_,rfl,h6,O.fO,O.wk,ldK,rfl,_,rfl,ite2 (fun h=>?_) (fun h=>?_)⟩
 ·refine⟨_,rfl,o,au,dx,_,_,rfl,h6,O.fO,O.wl,ldL,fun a da ha hda ne=>⟨a,da,v,rfl,iz,fun W hW=>⟨rfl,_,rfl,o,au,dx,fD (aH w') v y6 n6 .non .non,rfl,?_,O.fO,O.wb,by show 6<1000; decide,?_⟩⟩⟩
  ·obtain⟨_,S7,_⟩:=Go.newText (X:=fun a=>a=o) G6.gh tv6 ha hda ne hW
   exact S7 _ _ h6
  obtain⟨G7,S7,tx7⟩:=Go.newText (X:=fun a=>a=o) G6.gh tv6 ha hda ne hW
  have h7:=S7 _ _ h6
  have G7':=G6.trans G7
  rw [pdB]
  exact q _ _ v y6 n6 (.ref a) (G7'.oZ (G7'.ext _ _ hm) rfl (kt h7)) (fun c u h n=>by rw [upd_ne n]; exact S7 _ _ (O6 c u h n)) upd_same ((tv6.mono (.of S7)).mono (kt h7)) (fun z=>by
   obtain⟨ay,an,e1,e2,e3,e4⟩:=w7 z
   exact⟨ay,an,e1,e2,e3.ext G7,e4.ext G7⟩) (fun _=>⟨a,rfl,tx7⟩)
 ·exact q M6 H6 v y6 n6 .non G6 O6 h6 tv6 w7 (fun z=>absurd (decide_eq_true (by rw [z]; rfl)) h)
theorem Fv (O:Own K ao aq au aK aL aJ)
  {uw:Addr}{ud:FuncData} (Rj:Fun K "parts" "parts" rC uw ud) (Rc:FnOk P w K mg base CX0 32 uw ud ["tree"] (JM K)) (QV:Binds K ud ["tree"] []) (Qh:mg "parts"=some (.ref uw))
  (F:Fun K "body_parts" "Word.body_parts" gC f fd):FnOk P w K mg base CX0 33 f fd ["self"] (Yo K ao aq au aK):=by
 refine okQ F EY (fun vs H Q E h=>?_) (fun cdv A outer s H vs Q E hr h=>?_)
 ·obtain⟨b,w',M,H₀,rfl,_⟩:=h
  rfl
 obtain⟨b,w',M,H₀,rfl,g,hm,hz,q⟩:=h
 refine⟨_,(aA (cg (bA abO (bN (qv 0) rfl) wN (nomark _)) (aB (d8 (qv 0) (aG Rc hr rfl Qh Rj.kp QV .nil pass0 (aj (bN (qv 0) rfl) ak)) rfl)) bR)
   (aB (aQ (bN (qv 0) rfl)))),?_⟩
 obtain⟨dx,v,y,n,bd,sz,hb,tv,c7,c8,hs⟩:=g.ok b _ hm
 have fin:∀ H' sz',Go K ao aq au aK (fun _=>False) M M H₀ H H'→H' b=some (.ins au dx (fD (aH w') v y n bd sz'))→sz'=.int ((aZ w').parts:Nat)→tRet (tFld K (tVar 0) "size") { nx:=fun x H'=>Q .non H',rt:=Q,bk:=fun _ _=>False,ct:=fun _ _=>False } [some (.ref b)] H':=fun H' sz' G hb' e=>by
  subst e
  exact⟨_,rfl,b,au,dx,_,_,rfl,hb',O.fO,O.ws,ldS,q _ G⟩
 refine⟨_,rfl,b,au,dx,_,_,rfl,hb,O.fO,O.ws,ldS,rfl,_,rfl,ite2 (fun h=>?_) (fun h=>?_)⟩
 ·refine⟨_,rfl,b,au,dx,_,_,rfl,hb,O.fO,O.wl,ldL,v,aZ w',rfl,tv,hz,fun H1 S1=>⟨_,rfl,b,au,dx,_,rfl,S1 _ _ hb,O.fO,O.ws,by show 6<1000; decide,?_⟩⟩
  rw [pdS]
  have k1:Kt H1 (upd H1 b (.ins au dx (fD (aH w') v y n bd (.int ((aZ w').parts:Nat))))):=Kt.ins (S1 _ _ hb)
  have g1:=g.grow S1
  have g2:=g1.put hm k1 ⟨dx,v,y,n,bd,_,upd_same,(tv.mono (.of S1)).mono k1,c7,c8,.inr rfl⟩
  refine fin _ _ ⟨fun _ _ z=>z,fun a ha _=>?_,(Kt.of S1).trans k1,g2,fun W t ws h1 h2=>⟨ws,?_,Nat.le_refl _⟩⟩ upd_same rfl
  ·have:a≠b:=fun z=>by rw [z,hm] at ha; cases ha
   rw [upd_ne this]
   obtain⟨u,e⟩:=g.has a _ ha
   exact (S1 _ _ e).trans e.symm
  ·have:W≠b:=fun z=>by rw [z,hm] at h1; cases h1
   rw [upd_ne this]
   exact S1 _ _ h2
 ·rcases hs with hs | hs
  ·exact absurd (by rw [hs]; rfl) h
  ·exact fin _ _ (.refl g) hb hs
theorem M8 (O:Own K ao aq au aK aL aJ) (fM:mg "len"=none)
  (Vb:mg "Word"=some (.ref au))
  {iC:Addr}{yM:FuncData} (Q_:Mk K au iC) (NK:FnOk P w K mg base CX0 34 iC yM ["self","tree"] (Tn K ao aq au aK)) (tE:Binds K yM ["self","tree"] [])
  (F:Fun K "word_at" "Text.word_at" jc f fd):FnOk P w K mg base CX0 36 f fd ["self","place"] (Ti K ao aq au aK):=by
 refine okQ F Mz (fun vs H Q E h=>?_) (fun cdv A outer s H vs Q E hr h=>?_)
 ·obtain⟨a,t,W,p,M,H₀,ws,rfl,_⟩:=h
  rfl
 obtain⟨a,t,W,p,M,H₀,ws,rfl,g,hm,hW,hpw,apq,hd,hkl,q0,q⟩:=h
 refine⟨_,(aA (cg (bA op_eq (qv 1) (cG call_len_seq rfl fM qL (aj (bN (qv 0) rfl) ak)) (nomark _)) (aB (aQ wN)) bR)
   (aA (cg (bA op_eq (qv 1) (cG call_len_seq rfl fM qL (aj (bN (qv 0) rfl) ak)) (nomark _)) (aB (cP (fK PySem.F.plainAttrs_list PySem.F.slot_list_append PySem.F.type_list_append cN (bN (qv 0) rfl) (aj (jE Q_ NK hr rfl Vb tE .nil pass0 (aj (gk jq (bN (qv 0) rfl) (qv 1) (fun _ _=>rfl)) ak)) ak)))) bR)
   (aB (aQ (gk ix_list (bN (qv 0) rfl) (qv 1) (fun _ _=>rfl)))))),?_⟩
 obtain⟨dx,v,ha,tv,hMW⟩:=g.ok a _ hm
 obtain⟨bt,ys,rfl,hbt,hys⟩:=uD tv
 have hyl:=hys.length
 obtain⟨xs0,hW0,hl0,hit⟩:=g.ok W _ hMW
 have e0:xs0=ws:=by rw [hW] at hW0; cases hW0; rfl
 subst e0
 refine⟨_,rfl,_,rfl,a,aK,dx,_,_,rfl,ha,O.cText,O.tt,dZ _ _ _,bt,ys,rfl,.inr hbt,rfl,_,rfl,ite2 (fun h=>?_) (fun h=>?_)⟩
 ·have h:=V.int.inj (of_decide_eq_true h)
  exact q0 (by lia)
 have hpk:p≠t.kids.length:=fun z=>h (decide_eq_true (by rw [z,← hyl]))
 obtain⟨w',ew⟩:∃ w',t.kids[p]?=some w':=⟨_,List.getElem?_eq_getElem (by lia)⟩
 obtain⟨x',ex,tx'⟩:=hys.at ew
 have lw:List.lookup ("words":Str) (fT (.ref bt) W)=some (.ref W):=(cC (by decide +kernel) _ _).trans (dZ _ _ _)
 dsimp only [tNext]
 refine aah (fun σ' H'=>σ'=[some (.ref a),some (.int (p:Int))]∧∃ M' b ws',Go K ao aq au aK (fun _=>False) M M' H₀ H H'∧M' b=some (.word w')∧H' a=some (.ins aK dx (fT (.ref bt) W))∧H' W=some (.lst ws')∧ws'[p]?=some (.ref b)) (fun σ' H6 h6=>?_) (fun A' B' hA hB=>⟨_,rfl,_,rfl,a,aK,dx,_,_,rfl,ha,O.cText,O.tw,lw,W,xs0,rfl,.inl (SqL.of hW),rfl,_,rfl,ite2 (fun h=>hA _ fun N hN=>?_) (fun h=>hB _ ⟨rfl,?_⟩)⟩)
 ·obtain⟨rfl,M',b,ws',G,hb,ha',hW',hb'⟩:=h6
  refine⟨_,rfl,a,aK,dx,_,_,rfl,ha',O.cText,O.tw,lw,_,rfl,W,ws',p,.ref b,rfl,rfl,SqL.of hW',atI_nat hb',q w' ew b M' H6 G hb fun ws2 e2=>?_⟩
  rw [hW'] at e2
  cases e2
  exact (List.getElem?_eq_some_iff.mp hb').1
 ·have hpl:p=xs0.length:=by have:=V.int.inj (of_decide_eq_true h); lia
  have dw':w'.deep≤400:=by have:=aec ew; lia
  refine⟨_,rfl,a,aK,dx,_,_,rfl,ha,O.cText,O.tw,lw,.inl ⟨rfl,_,SqL.of hW⟩,_,rfl,a,aK,dx,_,_,rfl,ha,O.cText,O.tt,dZ _ _ _,_,rfl,bt,ys,p,x',rfl,rfl,hbt,atI_nat ex,fun b db hb hdb ne=>?_⟩
  have G1:=Go.made (X:=fun _=>False) (C:=au) (fs:=[]) g hb hdb ne
  have S1:=jd (C:=au) (fs:=[]) hb hdb ne
  refine⟨b,db,x',w',setM M b .mine,H₀,rfl,G1.gh,dO,iz,tx'.mono (.of S1),dw',fun M' H' v1 y n bd G2 O2 h2 tv2 c7 c8=>⟨rfl,W,xs0,_,rfl,rfl,?_,fB (by lia),?_⟩⟩
  ·exact O2 W _ (S1 _ _ hW) (ne_of_none hW hb)
  have hbM:M' b=some .mine:=G2.ext _ _ dO
  have nbW:W≠b:=ne_of_none hW hb
  have hW2:=O2 W _ (S1 _ _ hW) nbW
  have ha2:=O2 a _ (S1 _ _ ha) (ne_of_none ha hb)
  have am6:M' W=some (.words t):=G2.ext _ _ (G1.ext _ _ hMW)
  have nba:∀ c r,M c=some r→c≠b:=fun c r hc z=>by
   obtain⟨u,e⟩:=g.has c r hc
   rw [z,hb] at e
   cases e
  have ext':∀ c r,r≠.mine→M' c=some r→setM M' b (.word w') c=some r:=fun c r hr hc=>by
   rw [gK (fun z=>by rw [z,hbM] at hc; cases hc; exact hr rfl)]
   exact hc
  have g3:Gh K ao aq au aK (setM M' b (.word w')) H₀ H':=G2.gh.role (.inr hbM) (G2.gh.new _ _ hbM) ⟨_,h2⟩ ⟨db,v1,y,n,bd,.non,h2,tv2,fun z=>by
   obtain⟨ay,an,e1,e2,⟨W1,e3⟩,W2,e4⟩:=c7 z
   exact⟨ay,an,e1,e2,⟨W1,ext' _ _ (by simp) e3⟩,W2,ext' _ _ (by simp) e4⟩,fun z=>by
   obtain⟨ab,e1,W1,e2⟩:=c8 z
   exact⟨ab,e1,W1,ext' _ _ (by simp) e2⟩,.inl rfl⟩
  have k4:Kt H' (upd H' W (.lst (xs0++[.ref b]))):=Kt.lst hW2
  have g4:=g3.put (ext' _ _ (by simp) am6) k4 ⟨xs0++[.ref b],upd_same,by rw [List.length_append,List.length_singleton]; lia,fun j z hz=>by
   by_cases hj:j<xs0.length
   ·rw [List.getElem?_append_left hj] at hz
    obtain⟨c,w2,e1,e2,e3⟩:=hit j z hz
    exact⟨c,w2,e1,e2,ext' _ _ (by simp) (G2.ext _ _ (G1.ext _ _ e3))⟩
   ·have hj2:j<(xs0++[V.ref b]).length:=(List.getElem?_eq_some_iff.mp hz).1
    rw [List.length_append,List.length_singleton] at hj2
    have hj3:j=xs0.length:=by lia
    subst hj3
    rw [List.getElem?_append_right (Nat.le_refl _),Nat.sub_self] at hz
    cases hz
    exact⟨b,w',rfl,by rw [← hpl]; exact ew,dO⟩⟩
  refine hN _ _ ⟨rfl,setM M' b (.word w'),b,xs0++[.ref b],⟨fun c r hc=>?_,fun c hc _=>?_,(Kt.of S1).trans (G2.kt.trans k4),g4,fun W' t' ws' e1 e2=>?_⟩,dO,by rw [upd_ne (fun z=>by rw [z,hW] at ha; cases ha)]; exact ha2,upd_same,by rw [hpl]; simp⟩
  ·rw [gK (nba c r hc)]
   exact G2.ext _ _ (G1.ext _ _ hc)
  ·obtain⟨u,e⟩:=g.has c _ hc
   have ncW:c≠W:=fun z=>by rw [z,hMW] at hc; cases hc
   rw [upd_ne ncW,O2 c u (S1 _ _ e) (nba c _ hc)]
   exact e.symm
  ·have e3:=O2 W' _ (S1 _ _ e2) (nba W' _ e1)
   by_cases hWW:W'=W
   ·subst hWW
    rw [hW] at e2
    cases e2
    exact⟨_,upd_same,by rw [List.length_append,List.length_singleton]; lia⟩
   ·exact⟨ws',by rw [upd_ne hWW]; exact e3,Nat.le_refl _⟩
 ·have hpl:p≠xs0.length:=fun z=>h (decide_eq_true (by rw [z]))
  obtain⟨z,ez⟩:∃ z,xs0[p]?=some z:=⟨_,List.getElem?_eq_getElem (by lia)⟩
  obtain⟨b,w2,rfl,e2,e3⟩:=hit p z ez
  rw [ew] at e2
  cases e2
  exact⟨M,b,xs0,.refl g,e3,ha,hW,ez⟩
end
end d7
namespace d7
open PySem PySem.Spec PyProof.Rows L2 Sw
section
variable {P:Program}{w:World}{K:PySem.W.Frag}{mg:Str→Option Value}{base:Heap}{f:Addr}{fd:FuncData}{ao aq au aK aL aJ:Addr}
theorem afs (O:Own K ao aq au aK aL aJ) {yG:Value} (Ii:mg "LAY"=some yG) (yH:RelV (.int 0) yG) {Ep:Value} (Vi:mg "DROP"=some Ep) (Fg:RelV (.int 1) Ep) {oh:Value} (qG:mg "TWIN"=some oh) (mY:RelV (.int 2) oh) {Em:Value} (Ve:mg "SWAP"=some Em) (Fb:RelV (.int 3) Em) {Ag:Value} (Ql:mg "FRONT"=some Ag) (Al:RelV (.int 4) Ag) {En:Value} (Vf:mg "PART"=some En) (Fd:RelV (.int 5) En) {El:Value} (Vd:mg "TURN"=some El) (E_:RelV (.int 6) El)
  {Hg:Addr}{Gn:FuncData} (acQ:Fun K "rest_of" "rest_of" oK Hg Gn) (acI:FnOk P w K mg base CX0 35 Hg Gn ["row"] (Tt K ao aq au aK)) (acu:Binds K Gn ["row"] []) (ab3:mg "rest_of"=some (.ref Hg))
  {Dn:Addr}{CQ:FuncData} (aa3:Fun K "first_of" "first_of" mC Dn CQ) (aaY:FnOk P w K mg base CX0 35 Dn CQ ["row"] (Ro K ao aq au aK)) (aaM:Binds K CQ ["row"] []) (Z_:mg "first_of"=some (.ref Dn))
  (dW:mg "Fronted"=some (.ref ao))
  {fJ:Addr}{uX:FuncData} (Dw:Mk K ao fJ) (Hu:FnOk P w K mg base CX0 34 fJ uX ["self","item","behind"] (TQ ao)) (pG:Binds K uX ["self","item","behind"] [])
  (F:Fun K "work" "work" wC f fd):FnOk P w K mg base CX0 36 f fd ["step","load","stack"] (abm K ao aq au aK):=by
 refine okQ F OD (fun vs H Q E h=>?_) (fun cdv A outer s H vs Q E hr h=>?_)
 ·obtain⟨k,y,S,l,sk,rows,M,H₀,rfl,_⟩:=h
  rfl
 obtain⟨k,y,S,l,sk,rows,M,H₀,rfl,g,hm,hS,hrs,hy,hlk,hb,hkl,q⟩:=h
 refine⟨_,(aB (cg (bA op_eq (qv 0) (aU (v:=.int 0) rfl Ii yH) (nomark _)) (aB (cP (fK PySem.F.plainAttrs_list PySem.F.slot_list_append PySem.F.type_list_append cN (qv 2) (aj (qv 1) ak)))) (aB (cg (bA op_eq (qv 0) (aU (v:=.int 1) rfl Vi Fg) (nomark _)) (aB (cP (qF PySem.F.plainAttrs_list PySem.F.slot_list_pop PySem.F.type_list_pop rW (qv 2)))) (aB (cg (bA op_eq (qv 0) (aU (v:=.int 2) rfl qG mY) (nomark _)) (aB (cP (fK PySem.F.plainAttrs_list PySem.F.slot_list_append PySem.F.type_list_append cN (qv 2) (aj (gk ix_list (qv 2) (yI uK aN) (fun _ _=>rfl)) ak)))) (aB (cg (bA op_eq (qv 0) (aU (v:=.int 3) rfl Ve Fb) (nomark _)) (aB (cP (fK PySem.F.plainAttrs_list PySem.F.slot_list_append PySem.F.type_list_append cN (qv 2) (aj (fK PySem.F.plainAttrs_list PySem.F.slot_list_pop PySem.F.type_list_pop Kw (qv 2) (aj (yI uK aN) ak)) ak)))) (aB (cg (bA op_eq (qv 0) (aU (v:=.int 4) rfl Ql Al) (nomark _)) (aA (bY (i:=3) OD.nd rfl (Or.inl rfl) (qF PySem.F.plainAttrs_list PySem.F.slot_list_pop PySem.F.type_list_pop rW (qv 2)))
   (aB (cP (fK PySem.F.plainAttrs_list PySem.F.slot_list_append PySem.F.type_list_append cN (qv 2) (aj (jE Dw Hu hr rfl dW pG .nil pass0 (aj (qv 3) (aj (qF PySem.F.plainAttrs_list PySem.F.slot_list_pop PySem.F.type_list_pop rW (qv 2)) ak))) ak))))) (aB (cg (bA op_eq (qv 0) (aU (v:=.int 5) rfl Vf Fd) (nomark _)) (aA (bY (i:=4) OD.nd rfl (Or.inl rfl) (qF PySem.F.plainAttrs_list PySem.F.slot_list_pop PySem.F.type_list_pop rW (qv 2)))
   (aA (cP (fK PySem.F.plainAttrs_list PySem.F.slot_list_append PySem.F.type_list_append cN (qv 2) (aj (aG acI hr rfl ab3 acQ.kp acu .nil pass0 (aj (qv 4) ak)) ak)))
   (aB (cP (fK PySem.F.plainAttrs_list PySem.F.slot_list_append PySem.F.type_list_append cN (qv 2) (aj (aG aaY hr rfl Z_ aa3.kp aaM .nil pass0 (aj (qv 4) ak)) ak)))))) (aB (cg (bA op_eq (qv 0) (aU (v:=.int 6) rfl Vd E_) (nomark _)) (aB (cP (fK PySem.F.plainAttrs_list PySem.F.slot_list_append PySem.F.type_list_append cN (qv 2) (aj (fK PySem.F.plainAttrs_list PySem.F.slot_list_pop PySem.F.type_list_pop Kw (qv 2) (aj (yI uK aN) ak)) ak)))) bR)))))))))))))),?_⟩
 have hrl:=hrs.length
 rw [List.length_reverse] at hrl
 have hsl:sk.length≤8000010:=by
  have h1:=hb.2
  rw [T.aM] at h1
  have:=T.cV sk
  lia
 refine⟨_,rfl,rfl,_,rfl,ite2 (fun h=>?_) (fun h0=>?_)⟩
 ·have h:k=0:=by have:=V.int.inj (of_decide_eq_true h); lia
  subst h
  refine⟨_,rfl,.inl ⟨rfl,_,SqL.of hS⟩,_,rfl,S,rows,y,rfl,rfl,hS,fB (by lia),q M _ _ (Go.list g hm hS) upd_same ?_⟩
  show aW _ (l::sk).reverse _
  rw [List.reverse_cons]
  exact aW.append (gD (Kt.lst hS) hrs) (aW.one (.inl (hy.mono (Kt.lst hS))))
 have h0:¬ k=0:=fun z=>h0 (decide_eq_true (by rw [z]; rfl))
 refine⟨_,rfl,rfl,_,rfl,ite2 (fun h=>?_) (fun h1=>?_)⟩
 ·have h:k=1:=by have:=V.int.inj (of_decide_eq_true h); lia
  subst h
  obtain⟨a,sk0,r0,ya,rfl,rfl,h0,ha⟩:=mU hrs (by rintro rfl; have h1:1≤sk.length:=hlk; simp at hrl; lia)
  refine⟨_,rfl,.inl ⟨rfl,_,SqL.of hS⟩,S,_,_,rfl,rfl,hS,lX _ _,?_⟩
  rw [lY]
  exact q M _ _ (Go.list g hm hS) upd_same (gD (Kt.lst hS) h0)
 have h1:¬ k=1:=fun z=>h1 (decide_eq_true (by rw [z]; rfl))
 refine⟨_,rfl,rfl,_,rfl,ite2 (fun h=>?_) (fun h2=>?_)⟩
 ·have h:k=2:=by have:=V.int.inj (of_decide_eq_true h); lia
  subst h
  obtain⟨a,sk0,r0,ya,rfl,rfl,h0,ha⟩:=mU hrs (by rintro rfl; have h1:1≤sk.length:=hlk; simp at hrl; lia)
  refine⟨_,rfl,.inl ⟨rfl,_,SqL.of hS⟩,_,rfl,1,rfl,S,_,_,_,rfl,rfl,SqL.of hS,Bf,S,_,ya,rfl,rfl,hS,fB (by lia),q M _ _ (Go.list g hm hS) upd_same ?_⟩
  show aW _ (a::a::sk0).reverse _
  rw [List.reverse_cons]
  exact aW.append (gD (Kt.lst hS) hrs) (aW.one (ha.mono (Kt.lst hS) fun _ _ z=>z))
 have h2:¬ k=2:=fun z=>h2 (decide_eq_true (by rw [z]; rfl))
 refine⟨_,rfl,rfl,_,rfl,ite2 (fun h=>?_) (fun h3=>?_)⟩
 ·have h:k=3:=by have:=V.int.inj (of_decide_eq_true h); lia
  subst h
  obtain⟨a,c,sk0,r0,ya,yc,rfl,rfl,h0,ha,hc⟩:=G9 hrs hlk
  refine⟨_,rfl,.inl ⟨rfl,_,SqL.of hS⟩,_,rfl,.inl ⟨rfl,_,SqL.of hS⟩,2,rfl,S,_,-2,_,_,rfl,rfl,hS,by decide,by decide,si2 _ _ _,gt2 _ _ _,?_⟩
  rw [er2]
  refine⟨S,_,yc,rfl,rfl,upd_same,fB (by simp only [List.length_append,List.length_singleton] at hrl ⊢; lia),?_⟩
  rw [j6]
  refine q M _ _ (Go.list g hm hS) upd_same ?_
  have k:=Kt.lst (o:=.lst (r0++[ya]++[yc])) hS
  show aW _ (c::a::sk0).reverse _
  rw [List.reverse_cons,List.reverse_cons]
  exact aW.append (aW.append (gD k h0) (aW.one (ha.mono k fun _ _ z=>z))) (aW.one (hc.mono k fun _ _ z=>z))
 have h3:¬ k=3:=fun z=>h3 (decide_eq_true (by rw [z]; rfl))
 refine⟨_,rfl,rfl,_,rfl,ite2 (fun h=>?_) (fun h4=>?_)⟩
 ·have h:k=4:=by have:=V.int.inj (of_decide_eq_true h); lia
  subst h
  obtain⟨a,c,sk0,r0,ya,yc,rfl,rfl,h0,ha,hc⟩:=G9 hrs hlk
  refine⟨_,rfl,.inl ⟨rfl,_,SqL.of hS⟩,S,_,_,rfl,rfl,hS,lX _ _,?_⟩
  rw [lY]
  refine⟨_,rfl,.inl ⟨rfl,_,SqL.of upd_same⟩,_,rfl,_,rfl,.inl ⟨rfl,_,SqL.of upd_same⟩,S,_,_,rfl,rfl,upd_same,lX _ _,?_⟩
  rw [lY,j6]
  have G1:=Go.list (ys:=r0) g hm hS
  have k1:=Kt.lst (o:=.lst r0) hS
  have hS1:upd H S (.lst r0) S=some (.lst r0):=upd_same
  have h01:=gD k1 h0
  have ha1:=ha.mono (M':=M) k1 fun _ _ z=>z
  have hc1:=hc.mono (M':=M) k1 fun _ _ z=>z
  generalize upd H S (.lst r0)=H1 at G1 k1 hS1 h01 ha1 hc1
  refine fun o dx ho hd ne=>⟨o,dx,ya,yc,rfl,iz,⟨rfl,S,r0,_,rfl,rfl,?_,fB (by simp only [List.length_append,List.length_singleton] at hrl; lia),?_⟩⟩
  ·rw [upd_ne (ne_of_none hS1 ho)]
   exact jd (C:=ao) (fs:=[]) ho hd ne _ _ hS1
  rw [ab0]
  have S2:=jd (C:=ao) (fs:=fF ya yc) ho hd ne
  have nSo:S≠o:=ne_of_none hS1 ho
  have ro:∀ p t,M p=some (.row t)→setM M o (.row (.node (a::c.kids))) p=some (.row t):=fun p t e=>by
   rw [gK (fun z=>by rw [z,G1.gh.fresh ho] at e; cases e)]
   exact e
  have G2:Go K ao aq au aK (fun a=>a=S) M (setM M o (.row (.node (a::c.kids)))) H₀ H1 (mkO H1 o dx ao (fF ya yc)) :=
   Go.role G1.gh S2 ho ⟨_,iz⟩ (.inl ⟨dx,ya,yc,a,c.kids,iz,rfl,ha1.mono (.of S2) ro,by cases c; exact hc1.mono (.of S2) ro⟩)
  have hS2:=S2 _ _ hS1
  have h02:=h01.imp fun _ _ z=>z.mono (.of S2) ro
  have hm2:setM M o (.row (.node (a::c.kids))) S=some .mine:=by rw [gK nSo]; exact hm
  have hMo:setM M o (.row (.node (a::c.kids))) o=some (.row (.node (a::c.kids))):=dO
  generalize setM M o (.row (.node (a::c.kids)))=M2 at G2 h02 hm2 hMo
  generalize mkO H1 o dx ao (fF ya yc)=H2 at G2 hS2 h02
  refine q M2 _ _ ((G1.trans G2).oZ hm2 rfl (Kt.lst hS2)) upd_same ?_
  show aW _ (T.node (a::c.kids)::sk0).reverse _
  rw [List.reverse_cons]
  exact aW.append (gD (Kt.lst hS2) h02) (aW.one (.inr ⟨o,rfl,hMo⟩))
 have h4:¬ k=4:=fun z=>h4 (decide_eq_true (by rw [z]; rfl))
 refine⟨_,rfl,rfl,_,rfl,ite2 (fun h=>?_) (fun h5=>?_)⟩
 ·have h:k=5:=by have:=V.int.inj (of_decide_eq_true h); lia
  subst h
  obtain⟨a,sk0,r0,ya,rfl,rfl,h0,ha⟩:=mU hrs (by rintro rfl; have h1:1≤sk.length:=hlk; simp at hrl; lia)
  have da:a.deep≤400:=by
   have h1:=hb.1
   rw [T.aP,T.aO] at h1
   lia
  have ka:a.kids.length≤8000000:=hkl a (by simp)
  refine⟨_,rfl,.inl ⟨rfl,_,SqL.of hS⟩,S,_,_,rfl,rfl,hS,lX _ _,?_⟩
  rw [lY]
  have G1:=Go.list (ys:=r0) g hm hS
  have k1:=Kt.lst (o:=.lst r0) hS
  have hS1:upd H S (.lst r0) S=some (.lst r0):=upd_same
  have h01:=gD k1 h0
  have ha1:=ha.mono (M':=M) k1 fun _ _ z=>z
  generalize upd H S (.lst r0)=H1 at G1 k1 hS1 h01 ha1
  refine⟨_,rfl,.inl ⟨rfl,_,SqL.of hS1⟩,_,rfl,ya,a,M,H₀,rfl,G1.gh,ha1,da,ka,fun y2 M2 H2 S2 G2 r2=>?_⟩
  have hS2:=S2 _ _ hS1
  have hm2:=G2.ext _ _ hm
  have h02:=h01.imp fun _ _ z=>G2.rv z
  have ha2:=G2.rv ha1
  have G2':=G1.trans (G2.weak fun _ z=>z.elim)
  refine⟨S,r0,y2,rfl,rfl,hS2,fB (by simp only [List.length_append,List.length_singleton] at hrl; lia),?_⟩
  have G3:=G2'.oZ (u:=.lst (r0++[y2])) hm2 rfl (Kt.lst hS2)
  have k3:=Kt.lst (o:=.lst (r0++[y2])) hS2
  have hS3:upd H2 S (.lst (r0++[y2])) S=some (.lst (r0++[y2])):=upd_same
  have h03:=gD k3 h02
  have ha3:=ha2.mono (M':=M2) k3 fun _ _ z=>z
  have r3:=r2.mono (M':=M2) k3 fun _ _ z=>z
  generalize upd H2 S (.lst (r0++[y2]))=H3 at G3 k3 hS3 h03 ha3 r3
  refine⟨_,rfl,.inl ⟨rfl,_,SqL.of hS3⟩,_,rfl,ya,a,M2,H₀,rfl,G3.gh,ha3,da,fun y4 H4 S4 r4=>?_⟩
  have hS4:=S4 _ _ hS3
  refine⟨S,_,y4,rfl,rfl,hS4,fB (by simp only [List.length_append,List.length_singleton] at hrl ⊢; lia),?_⟩
  have G4:=G3.trans (.grow G3.gh S4)
  have k5:=Kt.lst (o:=.lst (r0++[y2]++[y4])) hS4
  refine q M2 _ _ (G4.oZ hm2 rfl (Kt.lst hS4)) upd_same ?_
  show aW _ (ats a.kids 0::aZ a::sk0).reverse _
  rw [List.reverse_cons,List.reverse_cons]
  exact aW.append (aW.append (gD ((Kt.of S4).trans k5) h03) (aW.one (r3.mono ((Kt.of S4).trans k5) fun _ _ z=>z))) (aW.one (r4.mono k5 fun _ _ z=>z))
 have h5:¬ k=5:=fun z=>h5 (decide_eq_true (by rw [z]; rfl))
 refine⟨_,rfl,rfl,_,rfl,ite2 (fun h=>?_) (fun h6=>?_)⟩
 ·have h:k=6:=by have:=V.int.inj (of_decide_eq_true h); lia
  subst h
  obtain⟨a,c,e,sk0,r0,ya,yc,ye,rfl,rfl,h0,ha,hc,he⟩:=acD hrs hlk
  refine⟨_,rfl,.inl ⟨rfl,_,SqL.of hS⟩,_,rfl,.inl ⟨rfl,_,SqL.of hS⟩,3,rfl,S,_,-3,_,_,rfl,rfl,hS,by decide,by decide,si3 _ _ _ _,gt3 _ _ _ _,?_⟩
  rw [er3]
  refine⟨S,_,ye,rfl,rfl,upd_same,fB (by simp only [List.length_append,List.length_singleton] at hrl ⊢; lia),?_⟩
  rw [j6]
  refine q M _ _ (Go.list g hm hS) upd_same ?_
  have k:=Kt.lst (o:=.lst (r0++[yc]++[ya]++[ye])) hS
  show aW _ (e::a::c::sk0).reverse _
  rw [List.reverse_cons,List.reverse_cons,List.reverse_cons]
  exact aW.append (aW.append (aW.append (gD k h0) (aW.one (hc.mono k fun _ _ z=>z))) (aW.one (ha.mono k fun _ _ z=>z))) (aW.one (he.mono k fun _ _ z=>z))
 have h6:¬ k=6:=fun z=>h6 (decide_eq_true (by rw [z]; rfl))
 refine q M H rows (.refl g) hS ?_
 rw [Oa (show 7≤k by lia)]
 exact hrs
end
end d7
namespace d7
open PySem PySem.Spec PyProof.Rows L2 Sw
section
variable {P:Program}{w:World}{K:PySem.W.Frag}{mg:Str→Option Value}{base:Heap}{f:Addr}{fd:FuncData}{ao aq au aK aL aJ:Addr}
theorem P0 (O:Own K ao aq au aK aL aJ)
  (F:Fun K "at_end" "Walk.at_end" jD f fd):FnOk P w K mg base CX0 31 f fd ["self"] (Ou K ao aq au aK aL aJ):=by
 refine okQ F O_ (fun vs H Q E h=>?_) (fun cdv A outer s H vs Q E hr h=>?_)
 ·obtain⟨o,M,H₀,tx,sk,num,b,rfl,_⟩:=h
  rfl
 obtain⟨o,M,H₀,tx,sk,num,b,rfl,w',q⟩:=h
 refine⟨_,(aB (aQ (afa (bN (qv 0) rfl)))),?_⟩
 obtain⟨dx,G,S,N,gs,rows,w'⟩:=w'
 have hgl:=w'.gos.length
 rw [List.length_reverse] at hgl
 refine⟨_,rfl,o,aJ,dx,_,_,rfl,w'.ob,O.cZ,O.kg,lwG,!gs.isEmpty,.inl ⟨gs,SqL.of w'.hG,rfl⟩,?_⟩
 have e:(!(!gs.isEmpty))=decide (tx=[]):=by
  rw [Bool.not_not]
  cases tx with
  | nil =>
   have:gs=[]:=List.length_eq_zero_iff.mp (by simpa using hgl)
   rw [this]
   rfl
  | cons t r =>
   cases gs with
   | nil=>simp at hgl
   | cons _ _=>rfl
 rw [e]
 exact q
theorem Xm (O:Own K ao aq au aK aL aJ)
  (F:Fun K "top" "Walk.top" pN f fd):FnOk P w K mg base CX0 31 f fd ["self"] (Zr K ao aq au aK aL aJ):=by
 refine okQ F Xb (fun vs H Q E h=>?_) (fun cdv A outer s H vs Q E hr h=>?_)
 ·obtain⟨o,M,H₀,tx,sk,num,b,rfl,_⟩:=h
  rfl
 obtain⟨o,M,H₀,tx,sk,num,b,rfl,w',q⟩:=h
 refine⟨_,(aB (aQ (qO (wK (bN (qv 0) rfl) (fun _=>rfl)) (gk ix_list (bN (qv 0) rfl) (yI uK aN) (fun _ _=>rfl)) (bh ak)))),?_⟩
 obtain⟨dx,G,S,N,gs,rows,w'⟩:=w'
 refine⟨_,rfl,o,aJ,dx,_,_,rfl,w'.ob,O.cZ,O.ks,lwS,!rows.isEmpty,.inl ⟨rows,SqL.of w'.hS,rfl⟩,ite2 (fun h=>?_) (fun h=>?_)⟩
 ·have hne:rows≠[]:=by rintro rfl; exact absurd h (by decide)
  obtain⟨a,sk0,r0,ya,rfl,rfl,h0,ha⟩:=mU w'.sts hne
  exact⟨_,rfl,o,aJ,dx,_,_,rfl,w'.ob,O.cZ,O.ks,lwS,1,rfl,S,_,_,_,rfl,rfl,SqL.of w'.hS,Bf,q _ _ (Same.refl _) ha⟩
 ·have hr:rows=[]:=by
   cases rows with
   | nil=>rfl
   | cons _ _=>exact absurd rfl h
  subst hr
  have:=all_nil w'.sts
  subst this
  refine⟨Nat.zero_le _,fun p1 g1=>?_⟩
  obtain⟨S1,t1⟩:=cA (K:=K) (ts:=[]) g1 (bM.mpr rfl)
  exact q _ _ S1 (.inl t1)
theorem R4 (O:Own K ao aq au aK aL aJ) (cF:mg "tuple"=none)
  (F:Fun K "tally" "Walk.tally" lq f fd):FnOk P w K mg base CX0 31 f fd ["self"] (Oo K ao aq au aK aL aJ):=by
 refine okQ F RN (fun vs H Q E h=>?_) (fun cdv A outer s H vs Q E hr h=>?_)
 ·obtain⟨o,M,H₀,tx,sk,num,b,rfl,_⟩:=h
  rfl
 obtain⟨o,M,H₀,tx,sk,num,b,rfl,w',q⟩:=h
 refine⟨_,(aB (aQ (jT gJ rfl cF mQ (aj (bN (qv 0) rfl) ak)))),?_⟩
 obtain⟨dx,G,S,N,gs,rows,w'⟩:=w'
 exact⟨_,rfl,o,aJ,dx,_,_,rfl,w'.ob,O.cZ,O.kn,lwN,N,_,rfl,.inl ⟨SqL.of w'.hN,fun l hl=>q _ _ (same_new hl _) (SqT.of upd_same)⟩⟩
end
end d7
namespace d7
open PySem PySem.Spec PyProof.Rows L2 Sw
section
variable {P:Program}{w:World}{K:PySem.W.Frag}{mg:Str→Option Value}{base:Heap}{f:Addr}{fd:FuncData}{ao aq au aK aL aJ:Addr}
theorem Kg (O:Own K ao aq au aK aL aJ) (mK:mg "reversed"=none) (Ax:mg "list"=none) {v8:Value} (KH:mg "PLACES"=some v8) (wI:RelV (.int 15) v8)
  (rE:mg "Going"=some (.ref aL))
  (uW:mg "Text"=some (.ref aK))
  {dh:Addr}{jw:FuncData} (pI:Mk K aL dh) (jB:FnOk P w K mg base CX0 31 dh jw ["self","text"] (JN aL)) (dX:Binds K jw ["self","text"] [])
  {dI:Addr}{jY:FuncData} (rM:Mk K aK dI) (j4:FnOk P w K mg base CX0 31 dI jY ["self","tree"] (JL aK)) (eF:Binds K jY ["self","tree"] [])
  (F:Fun K "__init__" "Walk.__init__" gj f fd):FnOk P w K mg base CX0 33 f fd ["self","stand","budget"] (Tj K ao aq au aK aL aJ):=by
 refine okQ F JX (fun vs H Q E h=>?_) (fun cdv A outer s H vs Q E hr h=>?_)
 ·obtain⟨o,dx,x,tx,sk,b,M,H₀,rfl,_⟩:=h
  rfl
 obtain⟨o,dx,x,tx,sk,b,M,H₀,rfl,g,hm,ho,hx,bx,bs,q⟩:=h
 refine⟨_,(aA (d8 (qv 0) (HY rfl (rH (fr:=[]) (js:=[]) (sc:=defScope gj) rfl rfl rfl (by decide +kernel) (by decide +kernel) (by decide +kernel) (by decide +kernel) (by exact trivial) (by decide +kernel) (fun y hy=>cell_has hy)) (ae8 rfl mK (gk jq (qv 1) aN (fun _ _=>rfl))) (fun _ _ _ _ _=>(jE pI jB hr rfl rE dX .nil pass0 (aj (jE rM j4 hr rfl uW eF .nil pass0 (aj (qv 0) ak)) ak)))) rfl)
   (aA (d8 (qv 0) (ZD rfl rfl Ax mK rfl (gk jq (qv 1) aN (fun _ _=>rfl))) rfl)
   (aA (d8 (qv 0) (aX agR (qD (aj aN ak)) (aU (v:=.int 15) rfl KH wI)) rfl)
   (aB (d8 (qv 0) (qv 2) rfl))))),?_⟩
 obtain⟨ax,xs,rfl,hax,hxs⟩:=cQ.mp hx
 obtain⟨x0,r0,rfl,t0,hr⟩:=cL.mp hxs
 obtain⟨x1,r1,rfl,t1,hr1⟩:=cL.mp hr
 obtain⟨a0,ys0,rfl,h0,hy0⟩:=cQ.mp t0
 obtain⟨a1,ys1,rfl,h1,hy1⟩:=cQ.mp t1
 have l0:=hy0.length
 have l1:=hy1.length
 have hsl:sk.length≤8000000:=by
  have h1:=bs.2
  rw [T.aM] at h1
  have:=T.cV sk
  lia
 refine⟨_,rfl,ax,_,0,_,rfl,rfl,hax,atI_nat (j:=0) rfl,a0,ys0,rfl,h0,afF (fun D i ys H'=>H D=none∧∃ M',Go K ao aq au aK (fun _=>False) M M' H₀ H H'∧M' D=some .mine∧H' D=some (.lst ys)∧ys.length=i∧aW (pJ aL M' H') (tx.reverse.take i) ys∧ys.Nodup) (Aj (by have:=bx.1; lia)) (fun D hD=>⟨hD,setM M D .mine,Go.Qf g hD,dO,upd_same,rfl,by rw [List.take_zero]; exact .nil,List.nodup_nil⟩) (fun D i ys H' j=>⟨j.2.choose_spec.2.2.1,j.2.choose_spec.2.2.2.1,cO j.2.choose_spec.1.kt h0⟩) (fun D i x ys H1 R hxi j hR=>?_) (fun D gs H1 j=>?_)⟩
 ·obtain⟨hD,M1,G1,mD,h1D,hyl,hgo,nd⟩:=j
  obtain⟨t,et,ht⟩:=ae2 hy0 hxi
  have hbt:B 389 8000000 t:=bx.2 t (by have:=List.mem_of_getElem? et; rw [List.mem_reverse] at this; exact this)
  refine⟨_,rfl,fun a da ha hda ne=>⟨a,da,x,rfl,iz,fun W hW=>⟨rfl,fun gg dg hg hdg ne2=>⟨gg,dg,a,rfl,iz,⟨rfl,?_⟩⟩⟩⟩⟩
  obtain⟨G2,S2,tx2⟩:=Go.newText (X:=fun _=>False) G1.gh (ht.mono G1.kt) ha hda ne hW
  generalize setM (setM M1 W (.words t)) a (.text t W)=M2 at G2 tx2
  generalize upd (upd (mkO H1 a da aK []) W (.lst [])) a (.ins aK da (fT x W))=H2 at G2 S2 hg hdg
  rw [j6,← (show mkO H2 gg dg aL (fG a 0)=upd (upd H2 dg (.own gg)) gg (.ins aL dg (fG a 0)) from rfl)]
  have G3:Go K ao aq au aK (fun _=>False) M2 (setM M2 gg .mine) H₀ H2 (mkO H2 gg dg aL (fG a 0)):=Go.made G2.gh hg hdg ne2
  have S3:=jd (C:=aL) (fs:=fG a 0) hg hdg ne2
  have gn:=pJ.new (CG:=aL) G2.gh tx2 hbt hg hdg ne2
  have hD3:=S3 _ _ (S2 _ _ h1D)
  have mD3:=G3.ext _ _ (G2.ext _ _ mD)
  have hnew:(.ref gg:V) ∉ ys:=fun z=>by
   obtain⟨k,hk⟩:=List.mem_iff_getElem?.mp z
   obtain⟨t',_,g',_,_,_,_,_,e,_,h2,_⟩:=hgo.get hk
   cases e
   have:=S2 _ _ h2
   rw [hg] at this
   cases this
  generalize mkO H2 gg dg aL (fG a 0)=H3 at G3 S3 gn hD3
  generalize setM M2 gg .mine=M3 at G3 gn mD3
  have Gl:Go K ao aq au aK (fun c=>c=D) M3 M3 H₀ H3 (upd H3 D (.lst (ys++[.ref gg]))):=.list G3.gh mD3 hD3
  have Gs:Go K ao aq au aK (fun c=>c=D) M1 M3 H₀ H1 (upd H3 D (.lst (ys++[.ref gg]))):=((G2.trans G3).weak fun _ z=>z.elim).trans Gl
  refine hR _ _ hD3 ⟨hD,M3,((G1.trans G2).trans G3).amc mD3 (by rw [g.fresh hD]; simp) (Kt.lst hD3),mD3,upd_same,by rw [List.length_append,hyl]; rfl,?_,?_⟩
  ·rw [ac4 et]
   exact aW.append (hgo.imp fun _ _ z=>z.go Gs (z.nl h1D) G1.gh) (aW.one (gn.go Gl (gn.nl hD3) G3.gh))
  ·refine List.nodup_append.mpr ⟨nd,by simp,fun c hc e he=>?_⟩
   rw [List.mem_singleton.mp he]
   exact fun z=>hnew (z ▸ hc)
 obtain⟨hD,M1,G1,mD,h1D,hyl,hgo,nd⟩:=j
 rw [List.take_of_length_le (by rw [List.length_reverse]; lia)] at hgo
 have ho1:H1 o=some (.ins aJ dx []):=(G1.mine o hm id).trans ho
 have noD:o≠D:=ne_of_none ho hD
 have kt {u:HO}{Ha:Hp}{fs:List (Str×V)} (h:Ha o=some (.ins aJ dx fs)):Kt Ha (upd Ha o u):=Kt.ins h
 refine⟨_,rfl,o,aJ,dx,[],rfl,ho1,O.cZ,O.kg,by show 0<1000; decide,?_⟩
 rw [pw1]
 have G2:=(G1.weak (Y:=fun c=>c=o) fun _ z=>z.elim).oZ (u:=.ins aJ dx (w1 D)) (G1.ext _ _ hm) rfl (kt ho1)
 have Gq:Go K ao aq au aK (fun c=>c=o) M1 M1 H₀ H1 (upd H1 o (.ins aJ dx (w1 D))):=Go.oZ (.refl G1.gh) (G1.ext _ _ hm) rfl (kt ho1)
 have ahv:=hgo.imp fun t x z=>z.go Gq (fun gx e z2=>by
  obtain⟨g',_,_,_,_,_,e',_,h2,_⟩:=z
  rw [e] at e'
  cases e'
  rw [z2,ho1] at h2
  have h3:=(HO.ins.inj (Option.some.inj h2)).2.2
  exact absurd (congrArg List.length h3) (by simp [fG])) G1.gh
 have h2D:upd H1 o (.ins aJ dx (w1 D)) D=some (.lst gs):=by rw [upd_ne (Ne.symm noD)]; exact h1D
 have h2o:upd H1 o (.ins aJ dx (w1 D)) o=some (.ins aJ dx (w1 D)):=upd_same
 generalize upd H1 o (.ins aJ dx (w1 D))=H2 at G2 ahv h2D h2o
 have hm1:=G1.ext _ _ hm
 refine⟨_,rfl,ax,_,1,_,rfl,rfl,cO G2.kt hax,atI_nat (j:=1) rfl,a1,ys1,rfl,cO G2.kt h1,fun l hl=>⟨_,rfl,o,aJ,dx,w1 D,rfl,?_,O.cZ,O.ks,by show 1<1000; decide,?_⟩⟩
 ·rw [upd_ne (ne_of_none h2o hl)]; exact h2o
 rw [pw2]
 have am1:aW (RV K M1 H2) sk.reverse ys1.reverse:=(Od (hy1.mono G2.kt)).rev
 have G3a:Go K ao aq au aK (fun c=>c=o) M1 (setM M1 l .mine) H₀ H2 (upd H2 l (.lst ys1.reverse)):=Go.Qf G2.gh hl
 have h3o:upd H2 l (.lst ys1.reverse) o=some (.ins aJ dx (w1 D)):=by rw [upd_ne (ne_of_none h2o hl)]; exact h2o
 have h3D:upd H2 l (.lst ys1.reverse) D=some (.lst gs):=by rw [upd_ne (ne_of_none h2D hl)]; exact h2D
 have nDl:D≠l:=ne_of_none h2D hl
 have h3l:upd H2 l (.lst ys1.reverse) l=some (.lst ys1.reverse):=upd_same
 have m3l:setM M1 l .mine l=some .mine:=dO
 generalize upd H2 l (.lst ys1.reverse)=H3 at G3a h3o h3D h3l
 generalize setM M1 l .mine=M3 at G3a m3l
 have hm3:=G3a.ext _ _ hm1
 have G3:=G3a.oZ (u:=.ins aJ dx (w2 D l)) hm3 rfl (kt h3o)
 have nlo:l≠o:=fun z=>by rw [z,h3o] at h3l; cases h3l
 have nog:∀ {Ma:Mp}{Ha:Hp}{fs:List (Str×V)}{t:T}{x:V},Ha o=some (.ins aJ dx fs)→(∀ a p,fs≠fG a p)→pJ aL Ma Ha t x→∀ gx,x=.ref gx→¬ gx=o:=fun hh hne z gx e z2=>by
  obtain⟨g',_,_,_,_,_,e',_,h2,_⟩:=z
  rw [e] at e'
  cases e'
  rw [z2,hh] at h2
  exact hne _ _ (HO.ins.inj (Option.some.inj h2)).2.2
 have n1:∀ a p,w1 D≠fG a p:=fun a p z=>absurd (congrArg List.length z) (by simp [fG,w1])
 have ahu:=ahv.imp fun t x z=>z.go G3 (nog h2o n1 z) G2.gh
 have aeG:=am1.imp fun _ _ z=>G3.rv z
 have h4D:upd H3 o (.ins aJ dx (w2 D l)) D=some (.lst gs):=by rw [upd_ne (Ne.symm noD)]; exact h3D
 have h4l:upd H3 o (.ins aJ dx (w2 D l)) l=some (.lst ys1.reverse):=by rw [upd_ne nlo]; exact h3l
 have h4o:upd H3 o (.ins aJ dx (w2 D l)) o=some (.ins aJ dx (w2 D l)):=upd_same
 generalize upd H3 o (.ins aJ dx (w2 D l))=H4 at G3 ahu aeG h4D h4l h4o
 have z63:(2:Int) ^ 63=9223372036854775808:=by decide
 refine⟨(by show 1≤sizeLine; decide),fun p5 g5=>⟨p5,15,[.int 0],rfl,rfl,upd_same,by lia,by lia,(by show 1 * 15≤sizeLine; decide),fun n g6=>?_⟩⟩
 have e0:(List.replicate (15:Int).toNat [V.int 0]).flatten=fX.map nv:=rfl
 rw [e0]
 have S5:=same_new g5 (.lst [V.int 0])
 have G5:Go K ao aq au aK (fun c=>c=o) M3 M3 H₀ H4 (upd H4 p5 (.lst [V.int 0])):=.grow G3.gh S5
 have G6a:Go K ao aq au aK (fun c=>c=o) M3 (setM M3 n .mine) H₀ (upd H4 p5 (.lst [V.int 0])) (upd (upd H4 p5 (.lst [V.int 0])) n (.lst (fX.map nv))):=Go.Qf G5.gh g6
 have S6:=S5.trans (same_new g6 (.lst (fX.map nv)))
 have h6n:upd (upd H4 p5 (.lst [V.int 0])) n (.lst (fX.map nv)) n=some (.lst (fX.map nv)):=upd_same
 have m6n:setM M3 n .mine n=some .mine:=dO
 have n4:H4 n=none:=S5.free g6
 have G6:=G5.trans G6a
 generalize upd (upd H4 p5 (.lst [V.int 0])) n (.lst (fX.map nv))=H6 at G6 G6a S6 h6n
 generalize setM M3 n .mine=M6 at G6 G6a m6n
 have h6o:=S6 _ _ h4o
 refine⟨_,rfl,o,aJ,dx,w2 D l,rfl,h6o,O.cZ,O.kn,by show 2<1000; decide,?_⟩
 rw [pw3]
 refine⟨_,rfl,_,rfl,o,aJ,dx,w3 D l n,rfl,upd_same,O.cZ,O.kl,by show 3<1000; decide,?_⟩
 rw [pw4,j6]
 have hm6:=G6.ext _ _ hm3
 have G7:=G6.oZ (u:=.ins aJ dx (fW D l n b)) hm6 rfl (kt h6o)
 have n2:∀ a p,w2 D l≠fG a p:=fun a p z=>by
  have h1:((Str.ofString "goings",V.ref D):Str×V)=(Str.ofString "text",V.ref a):=(List.cons.inj z).1
  have h2:Str.ofString "goings"=Str.ofString "text":=congrArg Prod.fst h1
  exact absurd h2 (by decide +kernel)
 have am5:=ahu.imp fun t x z=>z.go G7 (nog h4o n2 z) G3.gh
 have ajc:=aeG.imp fun _ _ z=>G7.rv z
 have nno:n≠o:=fun z=>by rw [z,h6o] at h6n; cases h6n
 have mD6:=G6.ext _ _ (G3a.ext _ _ mD)
 exact q M6 _ ⟨dx,D,l,n,gs,ys1.reverse,G7.gh,upd_same,hm6,mD6,G6.ext _ _ m3l,m6n,by rw [upd_ne (Ne.symm noD)]; exact S6 _ _ h4D,by rw [upd_ne nlo]; exact S6 _ _ h4l,by rw [upd_ne nno]; exact h6n,am5,ajc,rfl,nDl,ne_of_none h4D n4,ne_of_none h4l n4,nd⟩
end
end d7
namespace d7
open PySem PySem.Spec PyProof.Rows L2 Sw
section
variable {P:Program}{w:World}{K:PySem.W.Frag}{mg:Str→Option Value}{base:Heap}{f:Addr}{fd:FuncData}{ao aq au aK aL aJ:Addr}
theorem Ux (O:Own K ao aq au aK aL aJ) {ou:Value} (rY:mg "SHUT"=some ou) (oW:RelV (.int 12) ou) {gY:Value} (lD:mg "WHILE_INTO"=some gY) (gZ:RelV (.int 9) gY) {v9:Value} (KJ:mg "BODIES"=some v9) (wJ:RelV (.int 14) v9) {jL:Value} (pR:mg "FORK_YES"=some jL) (jQ:RelV (.int 7) jL) {lU:Value} (rG:mg "FORK_NO"=some lU) (lV:RelV (.int 8) lU)
  {Wh:Addr}{VN:FuncData} (aiB:Fun K "work" "work" wC Wh VN) (aiw:FnOk P w K mg base CX0 36 Wh VN ["step","load","stack"] (abm K ao aq au aK)) (aiq:Binds K VN ["step","load","stack"] []) (ag9:mg "work"=some (.ref Wh))
  (rE:mg "Going"=some (.ref aL))
  {gF:Addr}{vG:FuncData} (qp:Meth K au "body_parts" gF) (Jq:FnOk P w K mg base CX0 36 gF vG ["self"] (Yo K ao aq au aK)) (qm:Binds K vG ["self"] [])
  {dh:Addr}{jw:FuncData} (pI:Mk K aL dh) (jB:FnOk P w K mg base CX0 35 dh jw ["self","text"] (JN aL)) (dX:Binds K jw ["self","text"] [])
  (F:Fun K "move" "Walk.move" nJ f fd):FnOk P w K mg base CX0 37 f fd ["self","step","going","word"] (abp K ao aq au aK aL aJ):=by
 refine okQ F Ua (fun vs H Q E h=>?_) (fun cdv A outer s H vs Q E hr h=>?_)
 ·obtain⟨o,dx,G,S,N,gs0,g,rows,p,rest,sp,num,b,k,wv,M,H₀,rfl,_⟩:=h
  rfl
 obtain⟨o,dx,G,S,N,gs0,g,rows,p,rest,sp,num,b,k,wv,M,H₀,rfl,w0,hlk,hb,hkl,hrest,h⟩:=h
 refine⟨_,(aA (cg (bA op_eq (qv 1) (aU (v:=.int 12) rfl rY oW) (nomark _)) (aA (cP (qF PySem.F.plainAttrs_list PySem.F.slot_list_pop PySem.F.type_list_pop rW (bN (qv 0) rfl)))
   (aB Yu)) bR)
   (aA (cg (bA op_eq (qv 1) (aU (v:=.int 9) rfl lD gZ) (nomark _)) (aA (Am (bN (qv 0) rfl) (aU (v:=.int 14) rfl KJ wJ) xu (mJ (qv 3) O.fO qp Jq hr qm .nil pass0) Ba set_list)
   (aA (cP (fK PySem.F.plainAttrs_list PySem.F.slot_list_append PySem.F.type_list_append cN (bN (qv 0) rfl) (aj (jE pI jB hr rfl rE dX .nil pass0 (aj (bN (qv 3) rfl) ak)) ak)))
   (aB Yu))) bR)
   (aA (Rt (qv 2) aN ahl)
   (aB (cg (bA op_eq (qv 1) (aU (v:=.int 7) rfl pR jQ) (nomark _)) (aB (cP (fK PySem.F.plainAttrs_list PySem.F.slot_list_append PySem.F.type_list_append cN (bN (qv 0) rfl) (aj (jE pI jB hr rfl rE dX .nil pass0 (aj (bN (qv 3) rfl) ak)) ak)))) (aB (cg (bA op_eq (qv 1) (aU (v:=.int 8) rfl rG lV) (nomark _)) (aB (cP (fK PySem.F.plainAttrs_list PySem.F.slot_list_append PySem.F.type_list_append cN (bN (qv 0) rfl) (aj (jE pI jB hr rfl rE dX .nil pass0 (aj (bN (qv 3) rfl) ak)) ak)))) (aB (cP (aG aiw hr rfl ag9 aiB.kp aiq .nil pass0 (aj (qv 1) (aj (bN (qv 3) rfl) (aj (bN (qv 0) rfl) ak))))))))))))),?_⟩
 have hgl:=w0.gos.length
 rw [List.length_reverse,List.length_cons,List.length_append,List.length_singleton] at hgl
 rcases h with⟨rfl,q⟩ | ⟨w',ws,bw,tx',s',lB,rfl,rfl,hbw,rdy,mv,bx',hz,q⟩
 ·refine⟨_,rfl,rfl,_,rfl,ite2 (fun _=>?_) (fun h=>absurd (by decide) h)⟩
  have hgo:=w0.gos
  rw [List.reverse_cons] at hgo
  obtain⟨gs1,y,e1,hg0,_⟩:=aW.snoc hgo
  obtain⟨rfl,_⟩:=List.append_inj' e1 rfl
  refine⟨_,rfl,o,aJ,dx,_,_,rfl,w0.ob,O.cZ,O.kg,lwG,.inl ⟨rfl,_,SqL.of w0.hG⟩,G,_,_,rfl,rfl,w0.hG,lX _ _,?_⟩
  rw [lY]
  exact q M _ ⟨dx,G,S,N,gs0,rows,w0.setG hg0 (List.nodup_append.mp w0.nd).1⟩
 have hw:=w0.gh.ok bw _ hbw
 have n12:¬ k=12:=fun z=>by
  rcases mv with⟨h,_⟩ | ⟨h,_⟩ | ⟨h,_⟩ | ⟨h,_⟩ <;> lia
 refine⟨_,rfl,rfl,_,rfl,ite2 (fun h=>absurd (by have:=V.int.inj (of_decide_eq_true h); lia) n12) (fun _=>?_)⟩
 dsimp only [tNext]
 rcases mv with⟨rfl,s8,rfl,rfl,rfl⟩ | mv
 ·refine⟨_,rfl,rfl,_,rfl,ite2 (fun _=>?_) (fun h=>absurd (by decide) h)⟩
  obtain⟨dw,v,y,n,bd,sz,hw1,tv,c7,c8,hs⟩:=hw
  refine⟨_,rfl,o,aJ,dx,_,_,rfl,w0.ob,O.cZ,O.kn,lwN,N,_,_,_,rfl,rfl,SqL.of w0.hN,aaO (k:=14) w0.n15 (by lia),_,rfl,bw,dw,_,rfl,hw1,ame (by decide +kernel) (by decide +kernel) (by decide +kernel) (by decide +kernel) (by decide +kernel) (by decide +kernel),bw,w',M,H₀,rfl,w0.gh,hbw,hz,fun H1 G1=>⟨_,_,rfl,rfl,N,_,_,14,rfl,rfl,(w0.go G1).hN,A_ (j:=14) (by rw [List.length_map,w0.n15]; lia),?_⟩⟩
  rw [Oz]
  have w1:=(w0.go G1).adf (lB:=num.set 14 (num.getD 14 0+(aZ w').parts)) (by rw [List.length_set]; exact w0.n15)
  generalize upd H1 N (.lst ((num.set 14 (num.getD 14 0+(aZ w').parts)).map nv))=H2 at w1
  obtain⟨dw,v,y,n,bd,sz,hw1,tv,c7,c8,hs⟩:=w1.gh.ok bw _ hbw
  obtain⟨ab,rfl,htx⟩:=c8 s8
  refine⟨_,rfl,o,aJ,dx,_,_,rfl,w1.ob,O.cZ,O.kg,lwG,.inl ⟨rfl,_,SqL.of w1.hG⟩,_,rfl,bw,au,dw,_,_,rfl,hw1,O.fO,O.wb,ldB,fun gg dg hg hdg ne=>⟨gg,dg,ab,rfl,iz,⟨rfl,G,gs0++[.ref g],_,rfl,rfl,?_,?_,?_⟩⟩⟩
  ·rw [j6]
   exact jd (C:=aL) (fs:=fG ab 0) hg hdg ne _ _ w1.hG
  ·exact fB (by simp only [List.length_append,List.length_singleton]; lia)
  rw [j6,← (show mkO H2 gg dg aL (fG ab 0)=upd (upd H2 dg (.own gg)) gg (.ins aL dg (fG ab 0)) from rfl)]
  obtain⟨k1,k2,k3⟩:=w1.newG htx (bx'.2 _ (by simp)) hg hdg ne
  exact q _ _ ⟨dx,G,S,N,_,rows,k1.push k2 k3⟩
 have n9:¬ k=9:=fun z=>by
  rcases mv with⟨h,_⟩ | ⟨h,_⟩ | ⟨h,_⟩ <;> lia
 refine⟨_,rfl,rfl,_,rfl,ite2 (fun h=>absurd (by have:=V.int.inj (of_decide_eq_true h); lia) n9) (fun _=>?_)⟩
 dsimp only [tNext]
 obtain⟨dg,a,W,j,tt,wl,mg,hg,ma,hW,hj,hdr,hbt⟩:=rdy
 refine⟨_,rfl,g,aL,dg,_,_,rfl,hg,O.GR,O.gp,lgP,_,_,rfl,rfl,dg,_,hg,by show 2<1000; decide,?_⟩
 rw [show putF "place" (.int ((j:Int)+1)) (fG a j)=fG a (j+1) from pgP (q:=j+1)]
 have w1:=w0.onto mg hg ma hW hj hdr hbt
 generalize upd H g (.ins aL dg (fG a (j+1)))=H1 at w1
 obtain⟨dw,v,y,n,bd,sz,hw1,tv,c7,c8,hs⟩:=w1.gh.ok bw _ hbw
 rcases mv with⟨rfl,s7,rfl,rfl,rfl⟩ | ⟨rfl,s7,rfl,rfl,rfl⟩ | ⟨hk,rfl,rfl,rfl⟩
 ·refine⟨_,rfl,rfl,_,rfl,ite2 (fun _=>?_) (fun h=>absurd (by decide) h)⟩
  obtain⟨ay,an,rfl,rfl,hty,htn⟩:=c7 s7
  refine⟨_,rfl,o,aJ,dx,_,_,rfl,w1.ob,O.cZ,O.kg,lwG,.inl ⟨rfl,_,SqL.of w1.hG⟩,_,rfl,bw,au,dw,_,_,rfl,hw1,O.fO,O.wy,ldY,fun gg dg hg hdg ne=>⟨gg,dg,ay,rfl,iz,⟨rfl,G,gs0++[.ref g],_,rfl,rfl,?_,?_,?_⟩⟩⟩
  ·rw [j6]
   exact jd (C:=aL) (fs:=fG ay 0) hg hdg ne _ _ w1.hG
  ·exact fB (by simp only [List.length_append,List.length_singleton]; lia)
  rw [j6,← (show mkO H1 gg dg aL (fG ay 0)=upd (upd H1 dg (.own gg)) gg (.ins aL dg (fG ay 0)) from rfl)]
  obtain⟨k1,k2,k3⟩:=w1.newG hty (bx'.2 _ (by simp)) hg hdg ne
  exact q _ _ ⟨dx,G,S,N,_,rows,k1.push k2 k3⟩
 ·refine⟨_,rfl,rfl,_,rfl,ite2 (fun h=>absurd h (by decide)) (fun _=>?_)⟩
  refine⟨_,rfl,rfl,_,rfl,ite2 (fun _=>?_) (fun h=>absurd (by decide) h)⟩
  obtain⟨ay,an,rfl,rfl,hty,htn⟩:=c7 s7
  refine⟨_,rfl,o,aJ,dx,_,_,rfl,w1.ob,O.cZ,O.kg,lwG,.inl ⟨rfl,_,SqL.of w1.hG⟩,_,rfl,bw,au,dw,_,_,rfl,hw1,O.fO,O.wn,ldN,fun gg dg hg hdg ne=>⟨gg,dg,an,rfl,iz,⟨rfl,G,gs0++[.ref g],_,rfl,rfl,?_,?_,?_⟩⟩⟩
  ·rw [j6]
   exact jd (C:=aL) (fs:=fG an 0) hg hdg ne _ _ w1.hG
  ·exact fB (by simp only [List.length_append,List.length_singleton]; lia)
  rw [j6,← (show mkO H1 gg dg aL (fG an 0)=upd (upd H1 dg (.own gg)) gg (.ins aL dg (fG an 0)) from rfl)]
  obtain⟨k1,k2,k3⟩:=w1.newG htn (bx'.2 _ (by simp)) hg hdg ne
  exact q _ _ ⟨dx,G,S,N,_,rows,k1.push k2 k3⟩
 ·refine⟨_,rfl,rfl,_,rfl,ite2 (fun h=>absurd (show k=7 by have:=V.int.inj (of_decide_eq_true h); lia) (by lia)) (fun _=>?_)⟩
  refine⟨_,rfl,rfl,_,rfl,ite2 (fun h=>absurd (show k=8 by have:=V.int.inj (of_decide_eq_true h); lia) (by lia)) (fun _=>?_)⟩
  exact⟨_,rfl,_,rfl,bw,au,dw,_,_,rfl,hw1,O.fO,O.wl,ldL,_,rfl,o,aJ,dx,_,_,rfl,w1.ob,O.cZ,O.ks,lwS,k,v,S,aZ w',sp,rows,M,H₀,rfl,w1.gh,w1.mS,w1.hS,w1.sts,tv,hlk,hb,hkl,fun M' H' rows' G' hS' hr'=>q M' H' ⟨dx,G,S,N,_,rows',w1.agh G' hS' hr'⟩⟩
end
end d7
namespace d7
open PySem PySem.Spec PyProof.Rows L2 Sw
section
variable {P:Program}{w:World}{K:PySem.W.Frag}{mg:Str→Option Value}{base:Heap}{f:Addr}{fd:FuncData}{ao aq au aK aL aJ:Addr}
theorem Uw (O:Own K ao aq au aK aL aJ) (fM:mg "len"=none) {ou:Value} (rY:mg "SHUT"=some ou) (oW:RelV (.int 12) ou) {oh:Value} (qG:mg "TWIN"=some oh) (mY:RelV (.int 2) oh) {jg:Value} (j_:mg "COPIED"=some jg) (iG:RelV (.int 13) jg) {uz:Addr} (Qk:mg "LOOKS"=some (.ref uz)) (Pk:∀ H,SqT K H uz [.int 0,.int 1,.int 1,.int 2,.int 2,.int 1,.int 3,.int 1,.int 1,.int 1,.int 1,.int 0,.int 0])
  {Dl:Addr}{CN:FuncData} (aa1:Fun K "place_of" "place_of" jO Dl CN) (aaW:FnOk P w K mg base CX0 37 Dl CN ["sort","top"] (Yl K ao aq au aK)) (aaK:Binds K CN ["sort","top"] []) (Z6:mg "place_of"=some (.ref Dl))
  {ur:Addr}{uc:FuncData} (Ri:Fun K "parts_within" "parts_within" gM ur uc) (Rb:FnOk P w K mg base CX0 37 ur uc ["row","most"] (Tw K ao aq au aK)) (QM:Binds K uc ["row","most"] []) (Qg:mg "parts_within"=some (.ref ur))
  {jf:Addr}{Bb:FuncData} (uE:Meth K aK "word_at" jf) (Rg:FnOk P w K mg base CX0 37 jf Bb ["self","place"] (Ti K ao aq au aK)) (uq:Binds K Bb ["self","place"] [])
  {iJ:Addr}{sX:FuncData} (mW:Meth K aJ "top" iJ) (vP:FnOk P w K mg base CX0 37 iJ sX ["self"] (Zr K ao aq au aK aL aJ)) (mR:Binds K sX ["self"] [])
  {nU:Addr}{Jv:FuncData} (z_:Meth K aJ "move" nU) (X7:FnOk P w K mg base CX0 37 nU Jv ["self","step","going","word"] (abp K ao aq au aK aL aJ)) (zU:Binds K Jv ["self","step","going","word"] [])
  (F:Fun K "step" "Walk.step" nH f fd):FnOk P w K mg base CX0 38 f fd ["self"] (Yi K ao aq au aK aL aJ):=by
 refine okQ F oE (fun vs H Q E h=>?_) (fun cdv A outer s H vs Q E hr h=>?_)
 ·obtain⟨o,M,H₀,tx,sk,num,b,rfl,_⟩:=h
  rfl
 obtain⟨o,M,H₀,tx,sk,num,b,rfl,w0,hne,bx,bs,hnx,qf,qt⟩:=h
 refine⟨_,(aA (bY (i:=1) oE.nd rfl (Or.inl rfl) (gk ix_list (bN (qv 0) rfl) (yI uK aN) (fun _ _=>rfl)))
   (aA (bY (i:=2) oE.nd rfl (Or.inl rfl) (Yw (bN (qv 1) rfl) O.cText uE Rg hr uq .nil pass0 (aj (bN (qv 1) rfl) ak)))
   (aA (bY (i:=3) oE.nd rfl (Or.inl rfl) (qO (bA abO (qv 2) wN (nomark _)) (aU (v:=.int 12) rfl rY oW) (aG aaW hr rfl Z6 aa1.kp aaK .nil pass0 (aj (bN (qv 2) rfl) (aj (mJ (qv 0) O.cZ mW vP hr mR .nil pass0) ak)))))
   (aA (bY (i:=4) oE.nd rfl (Or.inl rfl) (qO (bA op_eq (qv 3) (aU (v:=.int 2) rfl qG mY) (nomark _)) (aG Rb hr rfl Qg Ri.kp QM .nil pass0 (aj (mJ (qv 0) O.cZ mW vP hr mR .nil pass0) (aj (bN (qv 0) rfl) ak))) aN))
   (aA (cg (bA Sv (qv 4) (bN (qv 0) rfl) (nomark _)) (aB (aQ H_)) bR)
   (aA (Rt (qv 0) (qv 4) ahk)
   (aA (Am (bN (qv 0) rfl) (qv 3) xu aN Ba set_list)
   (aA (cg (bA op_eq (qv 3) (aU (v:=.int 2) rfl qG mY) (nomark _)) (aB (Am (bN (qv 0) rfl) (aU (v:=.int 13) rfl j_ iG) xu (qv 4) Ba set_list)) bR)
   (aA (wL PassesOwn.never (bA Ss (cG call_len_seq rfl fM qL (aj (bN (qv 0) rfl) ak)) (gk jq (aU (v:=.ref uz) rfl Qk rfl) (qv 3) (fun _ _=>rfl)) (nomark _)) (aB (cP (fK PySem.F.plainAttrs_list PySem.F.slot_list_insert PySem.F.type_list_insert Z1 (bN (qv 0) rfl) (aj aN (aj (bh ak) ak))))))
   (aA (cP (Yw (qv 0) O.cZ z_ X7 hr zU .nil pass0 (aj (qv 3) (aj (qv 1) (aj (qv 2) ak)))))
   (aB (aQ H_)))))))))))),?_⟩
 obtain⟨dx,G,S,N,gs,rows,w0⟩:=w0
 obtain⟨p,rest,rfl⟩:∃ p rest,tx=p::rest:=by
  cases tx with
  | nil=>exact absurd rfl hne
  | cons p rest=>exact⟨p,rest,rfl⟩
 have hgo:=w0.gos
 rw [List.reverse_cons] at hgo
 obtain⟨gs0,y,rfl,hg0,hgp⟩:=aW.snoc hgo
 obtain⟨g,dg,a,W,j,tt,rfl,mg,hg,ma,hjk,⟨wl,hW,hjw⟩,rfl,hbt⟩:=hgp
 have h12:=Ah (tx:=T.node (tt.kids.drop j)::rest) (s:=sk)
 have htl:tt.kids.length≤8000000:=by
  have h1:=hbt.2
  have h2:=T.dH tt
  have h3:=T.cV tt.kids
  lia
 have hsp:T.aD sk≤7999999:=by
  have h1:=bs.2
  rw [T.aM] at h1
  lia
 have hsl:=T.cV sk
 have apo:rest.length+1≤8000000:=bx.1
 have bt0:=kZ bs 0
 refine oA (fun v=>[some (.ref o),some v,none,none,none]) (fun _=>rfl) (fun v H'=>v=.ref g∧H'=H) (fun R r=>⟨_,rfl,o,aJ,dx,_,_,rfl,w0.ob,O.cZ,O.kg,lwG,1,rfl,G,_,_,_,rfl,rfl,SqL.of w0.hG,Bf,r _ _ ⟨rfl,rfl⟩⟩) (fun v1 H1 h1=>?_)
 obtain⟨rfl,rfl⟩:=h1
 refine oA (fun v=>[some (.ref o),some (.ref g),some v,none,none]) (fun _=>rfl) (fun v H'=>∃ M',WkX K ao aq au aK aL aJ M' H₀ H' o dx G S N (gs0++[.ref g]) rows (T.node (tt.kids.drop j)::rest) sk num b∧((v=.non∧tt.kids.drop j=[])∨∃ w' ws' bw,v=.ref bw∧M' bw=some (.word w')∧Rdy aL M' H' g w' ws'∧tt.kids.drop j=w'::ws')) (fun R r=>?_) (fun v2 H2 h2=>?_)
 ·obtain⟨da,va,ha,_,_⟩:=w0.gh.ok a _ ma
  refine⟨_,rfl,g,aL,dg,_,_,rfl,hg,O.GR,O.gt,lgT,a,da,_,rfl,ha,amd (by decide +kernel) (by decide +kernel),_,rfl,g,aL,dg,_,_,rfl,hg,O.GR,O.gp,lgP,a,tt,W,j,M,H₀,wl,rfl,w0.gh,ma,hW,hjw,hjk,by have:=hbt.1; lia,htl,fun e=>r _ _ ⟨M,w0,.inl ⟨rfl,by rw [e]; exact List.drop_length⟩⟩,fun w' ew bw M' H' G' hb' hl'=>?_⟩
  obtain⟨_,_,_,_,hMW⟩:=w0.gh.ok a _ ma
  obtain⟨wl',e1,e2⟩:=G'.wds W _ wl hMW hW
  exact r _ _ ⟨M',w0.go G',.inr ⟨w',tt.kids.drop (j+1),bw,rfl,hb',⟨dg,a,W,j,tt,wl',G'.ext _ _ mg,(G'.mine g mg id).trans hg,G'.ext _ _ ma,e1,hl' wl' e1,drop_cons ew,hbt⟩,drop_cons ew⟩⟩
 obtain⟨M2,w2,hv⟩:=h2
 refine oA (fun v=>[some (.ref o),some (.ref g),some v2,some v,none]) (fun _=>rfl) (fun v H'=>v=.int (stepT (T.node (tt.kids.drop j)::rest) sk:Nat)∧Same H2 H') (fun R r=>?_) (fun v3 H3 h3=>?_)
 ·rcases hv with⟨rfl,he⟩ | ⟨w',ws',bw,rfl,hbw,rdy,he⟩
  ·refine⟨_,rfl,rfl,_,rfl,iteT (r _ _ ⟨?_,Same.refl _⟩)⟩
   rw [Tg (show (ats (T.node (tt.kids.drop j)::rest) 0).kids=[] from he)]
   rfl
  ·obtain⟨dw,v,y,n,bd,sz,hw1,tv,c7,c8,hs⟩:=w2.gh.ok bw _ hbw
   refine⟨_,rfl,rfl,_,rfl,iteF ⟨_,rfl,bw,au,dw,_,_,rfl,hw1,O.fO,O.wk,ldK,_,rfl,o,dx,_,rfl,w2.ob,Ci (by decide +kernel) (by decide +kernel) (by decide +kernel) (by decide +kernel),o,M2,H₀,_,_,_,_,rfl,⟨dx,G,S,N,_,_,w2⟩,fun x H3 S3 hx=>⟨_,x,ats sk 0,M2,H₀,rfl,w2.gh.grow S3,hx,by have:=bt0.1; lia,fun H4 S4=>r _ _ ⟨?_,S3.trans S4⟩⟩⟩⟩
   rw [Zq (show (T.node (tt.kids.drop j)).kids=w'::ws' from he)]
 obtain⟨rfl,S3⟩:=h3
 have w3:=w2.grow S3
 have hv3:(v2=.non∧tt.kids.drop j=[])∨∃ w' ws' bw,v2=.ref bw∧M2 bw=some (.word w')∧Rdy aL M2 H3 g w' ws'∧tt.kids.drop j=w'::ws':=by
  rcases hv with hv | ⟨w',ws',bw,e1,e2,e3,e4⟩
  ·exact .inl hv
  ·exact .inr ⟨w',ws',bw,e1,e2,e3.go (.grow w2.gh S3:Go K ao aq au aK (fun _=>False) M2 M2 H₀ H2 H3) id w2.gh,e4⟩
 refine oA (fun v=>[some (.ref o),some (.ref g),some v2,some (.int (stepT (T.node (tt.kids.drop j)::rest) sk:Nat)),some v]) (fun _=>rfl) (fun v H'=>Same H3 H'∧∃ c:Nat,v=.int (c:Int)∧(bC (T.node (tt.kids.drop j)::rest) sk≤b→c=bC (T.node (tt.kids.drop j)::rest) sk)∧(b<bC (T.node (tt.kids.drop j)::rest) sk→b<c)) (fun R r=>?_) (fun v4 H4 h4=>?_)
 ·refine⟨_,rfl,rfl,_,rfl,ite2 (fun h=>?_) (fun h=>?_)⟩
  ·have h2:stepT (T.node (tt.kids.drop j)::rest) sk=2:=by have:=V.int.inj (of_decide_eq_true h); lia
   have hc:bC (T.node (tt.kids.drop j)::rest) sk=(ats sk 0).parts:=by unfold bC; rw [if_pos h2]
   refine⟨_,rfl,o,dx,_,rfl,w3.ob,Ci (by decide +kernel) (by decide +kernel) (by decide +kernel) (by decide +kernel),o,M2,H₀,_,_,_,_,rfl,⟨dx,G,S,N,_,_,w3⟩,fun x H4 S4 hx=>⟨_,rfl,o,aJ,dx,_,_,rfl,(w3.grow S4).ob,O.cZ,O.kl,lwL,x,ats sk 0,M2,H₀,b,rfl,w3.gh.grow S4,hx,by have:=bt0.2; lia,fun c H5 S5 c1 c2=>r _ _ ⟨S4.trans S5,c,rfl,by rw [hc]; exact c1,by rw [hc]; exact c2⟩⟩⟩
  ·have h2:¬ stepT (T.node (tt.kids.drop j)::rest) sk=2:=fun z=>h (decide_eq_true (by rw [z]; rfl))
   have hc:bC (T.node (tt.kids.drop j)::rest) sk=1:=by unfold bC; rw [if_neg h2]
   exact r _ _ ⟨Same.refl _,1,rfl,fun _=>hc.symm,fun z=>by rw [hc] at z; exact z⟩
 obtain⟨S4,c,rfl,c1,c2⟩:=h4
 have w4:=w3.grow S4
 have hv4:(v2=.non∧tt.kids.drop j=[])∨∃ w' ws' bw,v2=.ref bw∧M2 bw=some (.word w')∧Rdy aL M2 H4 g w' ws'∧tt.kids.drop j=w'::ws':=by
  rcases hv3 with hv | ⟨w',ws',bw,e1,e2,e3,e4⟩
  ·exact .inl hv
  ·exact .inr ⟨w',ws',bw,e1,e2,e3.go (.grow w3.gh S4:Go K ao aq au aK (fun _=>False) M2 M2 H₀ H3 H4) id w3.gh,e4⟩
 refine⟨_,rfl,_,rfl,o,aJ,dx,_,_,rfl,w4.ob,O.cZ,O.kl,lwL,_,_,rfl,rfl,_,rfl,ite2 (fun h=>?_) (fun h=>?_)⟩
 ·have hbc:b<c:=by have:=of_decide_eq_true h; lia
  have hb:b<bC (T.node (tt.kids.drop j)::rest) sk:=by
   rcases Nat.lt_or_ge b (bC (T.node (tt.kids.drop j)::rest) sk) with z | z
   ·exact z
   ·have:=c1 z; lia
  exact qf hb M2 H4 ⟨dx,G,S,N,_,_,w4⟩
 have hcb:c≤b:=by
  have:¬ ((b:Int)<(c:Int)):=fun z=>h (decide_eq_true z)
  lia
 have aak:bC (T.node (tt.kids.drop j)::rest) sk≤b:=by
  rcases Nat.lt_or_ge b (bC (T.node (tt.kids.drop j)::rest) sk) with z | z
  ·have:=c2 z; lia
  ·exact z
 have hc:=c1 aak
 obtain⟨bx2,bs2⟩:=hnx aak
 have q:=qt aak
 have ad2:∀ {Ma:Mp}{Ha:Hp}{lB:List Nat}{rows':List V}{s':List T}{b':Nat},WkX K ao aq au aK aL aJ Ma H₀ Ha o dx G S N (gs0++[.ref g]) rows' (T.node (tt.kids.drop j)::rest) s' lB b'→pJ aL Ma Ha (T.node (tt.kids.drop j)) (.ref g):=fun wa=>by
  have hgo:=wa.gos
  rw [List.reverse_cons] at hgo
  obtain⟨gs1,y,e1,_,hy⟩:=aW.snoc hgo
  have:=(List.append_inj' e1 rfl).2
  cases this
  exact hy
 dsimp only [tNext]
 refine⟨_,rfl,o,aJ,dx,_,_,rfl,w4.ob,O.cZ,O.kl,lwL,_,rfl,_,_,rfl,rfl,dx,_,w4.ob,by show 4<1000; decide,?_⟩
 rw [show (V.int ((b:Int) - (c:Int)):V)=.int ((b - c:Nat):Int) by congr 1; lia,pwL]
 have w5:=w4.aj2 (b - c)
 have G5:Go K ao aq au aK (fun a=>a=o) M2 M2 H₀ H4 (upd H4 o (.ins aJ dx (fW G S N (b - c)))):=Go.oZ (.refl w4.gh) w4.mo rfl (Kt.ins w4.ob)
 have ngo:¬ g=o:=by
  obtain⟨g',_,_,_,_,_,e,_,h2,_⟩:=ad2 w4
  cases e
  intro z
  rw [z,w4.ob] at h2
  have h3:=(HO.ins.inj (Option.some.inj h2)).2.2
  exact absurd (congrArg List.length h3) (by simp [fG,fW])
 have hv5:(v2=.non∧tt.kids.drop j=[])∨∃ w' ws' bw,v2=.ref bw∧M2 bw=some (.word w')∧Rdy aL M2 (upd H4 o (.ins aJ dx (fW G S N (b - c)))) g w' ws'∧tt.kids.drop j=w'::ws':=by
  rcases hv4 with hv | ⟨w',ws',bw,e1,e2,e3,e4⟩
  ·exact .inl hv
  ·exact .inr ⟨w',ws',bw,e1,e2,e3.go G5 ngo w4.gh,e4⟩
 generalize upd H4 o (.ins aJ dx (fW G S N (b - c)))=H5 at w5 hv5
 have mgg:M2 g=some .mine:=by
  obtain⟨g',_,_,_,_,_,e,h2,_⟩:=ad2 w4
  cases e
  exact h2
 have gnl:∀ {Ha:Hp}{lB:List Nat}{rows':List V}{s':List T}{b':Nat}{q:Addr}{l:List V},WkX K ao aq au aK aL aJ M2 H₀ Ha o dx G S N (gs0++[.ref g]) rows' (T.node (tt.kids.drop j)::rest) s' lB b'→Ha q=some (.lst l)→¬ g=q:=fun wa hq z=>by
  obtain⟨g',_,_,_,_,_,e,_,h2,_⟩:=ad2 wa
  cases e
  rw [z,hq] at h2
  cases h2
 generalize hK:stepT (T.node (tt.kids.drop j)::rest) sk=k at *
 refine⟨_,rfl,o,aJ,dx,_,_,rfl,w5.ob,O.cZ,O.kn,lwN,_,rfl,N,_,_,_,rfl,rfl,SqL.of w5.hN,aaO (k:=k) w5.n15 (by lia),_,_,rfl,rfl,N,_,_,k,rfl,rfl,w5.hN,A_ (j:=k) (by rw [List.length_map,w5.n15]; lia),?_⟩
 rw [show (V.int ((num.getD k 0:Int)+1):V)=V.int ((num.getD k 0:Int)+((1:Nat):Int)) from rfl,Oz]
 have w6:=w5.adf (lB:=num.set k (num.getD k 0+1)) (by rw [List.length_set]; exact w5.n15)
 have G6:Go K ao aq au aK (fun a=>a=N) M2 M2 H₀ H5 (upd H5 N (.lst ((num.set k (num.getD k 0+1)).map nv))):=.list w5.gh w5.mN w5.hN
 have hv6:(v2=.non∧tt.kids.drop j=[])∨∃ w' ws' bw,v2=.ref bw∧M2 bw=some (.word w')∧Rdy aL M2 (upd H5 N (.lst ((num.set k (num.getD k 0+1)).map nv))) g w' ws'∧tt.kids.drop j=w'::ws':=by
  rcases hv5 with hv | ⟨w',ws',bw,e1,e2,e3,e4⟩
  ·exact .inl hv
  ·exact .inr ⟨w',ws',bw,e1,e2,e3.go G6 (gnl w5 w5.hN) w5.gh,e4⟩
 generalize upd H5 N (.lst ((num.set k (num.getD k 0+1)).map nv))=H6 at w6 hv6
 dsimp only
 refine aah (fun σ' H'=>σ'=[some (.ref o),some (.ref g),some v2,some (.int (k:Int)),some (.int (c:Int))]∧WkX K ao aq au aK aL aJ M2 H₀ H' o dx G S N (gs0++[.ref g]) rows (T.node (tt.kids.drop j)::rest) sk (BZ k c num) (b - c)∧((v2=.non∧tt.kids.drop j=[])∨∃ w' ws' bw,v2=.ref bw∧M2 bw=some (.word w')∧Rdy aL M2 H' g w' ws'∧tt.kids.drop j=w'::ws')) (fun σ' H7 h7=>?_) (fun A' B' hA hB=>⟨_,rfl,rfl,_,rfl,ite2 (fun h=>hA _ fun N' hN'=>?_) (fun h=>hB _ ⟨rfl,?_,hv6⟩)⟩)
 rotate_left
 ·have h2:k=2:=by have:=V.int.inj (of_decide_eq_true h); lia
  subst h2
  refine⟨_,rfl,o,aJ,dx,_,_,rfl,w6.ob,O.cZ,O.kn,lwN,N,_,_,_,rfl,rfl,SqL.of w6.hN,aaO (k:=13) w6.n15 (by lia),_,rfl,_,_,rfl,rfl,N,_,_,13,rfl,rfl,w6.hN,A_ (j:=13) (by rw [List.length_map,w6.n15]; lia),?_⟩
  rw [Oz]
  have w7:=w6.adf (lB:=(num.set 2 (num.getD 2 0+1)).set 13 ((num.set 2 (num.getD 2 0+1)).getD 13 0+c)) (by rw [List.length_set]; exact w6.n15)
  have G7:Go K ao aq au aK (fun a=>a=N) M2 M2 H₀ H6 (upd H6 N (.lst (((num.set 2 (num.getD 2 0+1)).set 13 ((num.set 2 (num.getD 2 0+1)).getD 13 0+c)).map nv))):=.list w6.gh w6.mN w6.hN
  refine hN' _ _ ⟨rfl,by unfold BZ; rw [if_pos rfl]; exact w7,?_⟩
  rcases hv6 with hv | ⟨w',ws',bw,e1,e2,e3,e4⟩
  ·exact .inl hv
  ·exact .inr ⟨w',ws',bw,e1,e2,e3.go G7 (gnl w6 w6.hN) w6.gh,e4⟩
 ·have h2:¬ k=2:=fun z=>h (decide_eq_true (by rw [z]; rfl))
  unfold BZ
  rw [if_neg h2]
  exact w6
 obtain⟨rfl,w7,hv7⟩:=h7
 have lk3:=adP k
 refine⟨fun μ σ H'=>∃ (i:Nat) (rows':List V),σ=[some (.ref o),some (.ref g),some v2,some (.int (k:Int)),some (.int (c:Int))]∧WkX K ao aq au aK aL aJ M2 H₀ H' o dx G S N (gs0++[.ref g]) rows' (T.node (tt.kids.drop j)::rest) (sk++List.replicate i leaf) (BZ k c num) (b - c)∧((v2=.non∧tt.kids.drop j=[])∨∃ w' ws' bw,v2=.ref bw∧M2 bw=some (.word w')∧Rdy aL M2 H' g w' ws'∧tt.kids.drop j=w'::ws')∧sk.length+i≤max (looks k) sk.length∧μ=3 - i,⟨_,0,rows,rfl,by rw [List.replicate_zero,List.append_nil]; exact w7,hv7,by lia,rfl⟩,?_⟩
 rintro μ σ H8 ⟨i,rows',rfl,w8,hv8,hi,rfl⟩
 have hrl:=w8.sts.length
 rw [List.length_reverse,List.length_append,List.length_replicate] at hrl
 refine⟨_,rfl,o,aJ,dx,_,_,rfl,w8.ob,O.cZ,O.ks,lwS,S,rows',rfl,.inl (SqL.of w8.hS),_,rfl,uz,_,_,_,rfl,rfl,Pk _,adQ h12,_,_,rfl,rfl,_,rfl,ite2 (fun h=>?_) (fun h=>?_)⟩
 ·have hlt:rows'.length<looks k:=by have:=of_decide_eq_true h; lia
  refine⟨fun σ' H'=>∃ m',m'<3 - i∧∃ (i:Nat) (rows':List V),σ'=[some (.ref o),some (.ref g),some v2,some (.int (k:Int)),some (.int (c:Int))]∧WkX K ao aq au aK aL aJ M2 H₀ H' o dx G S N (gs0++[.ref g]) rows' (T.node (tt.kids.drop j)::rest) (sk++List.replicate i leaf) (BZ k c num) (b - c)∧((v2=.non∧tt.kids.drop j=[])∨∃ w' ws' bw,v2=.ref bw∧M2 bw=some (.word w')∧Rdy aL M2 H' g w' ws'∧tt.kids.drop j=w'::ws')∧sk.length+i≤max (looks k) sk.length∧m'=3 - i,fun _ _ h=>h,?_⟩
  refine⟨_,rfl,o,aJ,dx,_,_,rfl,w8.ob,O.cZ,O.ks,lwS,.inl ⟨rfl,_,SqL.of w8.hS⟩,Nat.zero_le _,fun p9 g9=>?_⟩
  obtain⟨S9,t9⟩:=cA (K:=K) (ts:=[]) g9 (bM.mpr rfl)
  have w9:=w8.grow S9
  have hS9:=w9.hS
  refine⟨S,rows',_,rfl,rfl,hS9,fB (by lia),?_⟩
  have Gx:Go K ao aq au aK (fun a=>a=S) M2 M2 H₀ (upd H8 p9 (.tup [])) (upd (upd H8 p9 (.tup [])) S (.lst (.ref p9::rows'))):=.list w9.gh w9.mS hS9
  have w10:=w9.agh (s':=sk++List.replicate (i+1) leaf) Gx upd_same (by
   rw [List.replicate_succ',← List.append_assoc,List.reverse_append]
   exact aW.cons (.inl (t9.mono (Kt.lst hS9))) (w9.sts.imp fun _ _ z=>Gx.rv z))
  refine⟨_,?_,i+1,_,rfl,w10,?_,by lia,rfl⟩
  ·lia
  ·rcases hv8 with hv | ⟨w',ws',bw,e1,e2,e3,e4⟩
   ·exact .inl hv
   ·exact .inr ⟨w',ws',bw,e1,e2,(e3.go (.grow w8.gh S9:Go K ao aq au aK (fun _=>False) M2 M2 H₀ H8 _) id w8.gh).go Gx (gnl w9 hS9) w9.gh,e4⟩
 have hge:looks k≤rows'.length:=by
  have:¬ ((rows'.length:Int)<((looks k:Nat):Int)):=fun z=>h (decide_eq_true z)
  lia
 have am4:sk++List.replicate i leaf=pad sk (looks k):=agQ hi (by lia)
 rw [am4] at w8
 have hpl:looks k≤(pad sk (looks k)).length:=Yy sk (looks k)
 have hB:=(NZ (looks k) (by lia) (by lia) bs).le (a':=395) (b':=8000010) (by lia) (by lia)
 have hkd:∀ t∈pad sk (looks k),t.kids.length≤8000000:=afp (afK (by lia))
 refine⟨_,rfl,o,dx,_,rfl,w8.ob,Ci (by decide +kernel) (by decide +kernel) (by decide +kernel) (by decide +kernel),_,rfl,_,rfl,_,rfl,o,dx,G,S,N,gs0,g,rows',_,rest,pad sk (looks k),BZ k c num,b - c,k,v2,M2,H₀,rfl,w8,hpl,hB,hkd,by lia,?_⟩
 rw [← hc] at q
 rcases hv8 with⟨rfl,he⟩ | ⟨w',ws',bw,rfl,hbw,rdy,he⟩
 ·have aht:k=12:=by rw [← hK]; exact Tg (show (ats (T.node (tt.kids.drop j)::rest) 0).kids=[] from he)
  refine .inl ⟨aht,fun M' H' wf=>q M' H' ?_⟩
  have on:=abP (s:=sk) (show (ats (T.node (tt.kids.drop j)::rest) 0).kids=[] from he)
  rw [on,vV w0.n15 (by rw [hK]; lia),hK,← hc]
  rw [aht] at wf ⊢
  rw [show pad sk (looks 12)=sk from cT (Nat.zero_le _)] at wf
  exact wf
 ·have mv:=ajb (p:=T.node (tt.kids.drop j)) (rest:=rest) (s:=sk) (num:=num) (congrArg T.node he) w0.n15
  rw [hK,← hc] at mv
  have hlp:(aZ w').parts≤8000000:=by
   have h1:=hbt.2
   have h2:=T.dH tt
   have h3:=T.Kc j tt.kids
   rw [he,T.aF] at h3
   have h4:=aaf w'
   lia
  exact .inr ⟨w',ws',bw,_,_,_,congrArg T.node he,rfl,hbw,rdy,mv,bx2,hlp,fun M' H' wf=>q M' H' wf⟩
end
end d7
namespace d7
open PySem PySem.Spec PyProof.Rows L2 Sw
section
variable {P:Program}{w:World}{K:PySem.W.Frag}{mg:Str→Option Value}{base:Heap}{f:Addr}{fd:FuncData}{ao aq au aK aL aJ:Addr}
theorem abQ (O:Own K ao aq au aK aL aJ)
  (Vc:mg "Walk"=some (.ref aJ))
  {iD:Addr}{yN:FuncData} (Ra:Mk K aJ iD) (NP:FnOk P w K mg base CX0 37 iD yN ["self","stand","budget"] (Tj K ao aq au aK aL aJ)) (tG:Binds K yN ["self","stand","budget"] [])
  {nT:Addr}{Ju:FuncData} (zZ:Meth K aJ "step" nT) (X6:FnOk P w K mg base CX0 38 nT Ju ["self"] (Yi K ao aq au aK aL aJ)) (zT:Binds K Ju ["self"] [])
  {eZ:Addr}{nq:FuncData} (jJ:Meth K aJ "at_end" eZ) (vD:FnOk P w K mg base CX0 38 eZ nq ["self"] (Ou K ao aq au aK aL aJ)) (jH:Binds K nq ["self"] [])
  (F:Fun K "walked" "walked" oF f fd):FnOk P w K mg base CX0 39 f fd ["stand","budget"] (JK K ao aq au aK aL aJ):=by
 refine okQ F Rq (fun vs H Q E h=>?_) (fun cdv A outer s H vs Q E hr h=>?_)
 ·obtain⟨x,tx,sk,b,rfl,_⟩:=h
  rfl
 obtain⟨x,tx,sk,b,rfl,hx,hsn,q⟩:=h
 refine⟨_,(aA (bY (i:=2) Rq.nd rfl (Or.inl rfl) (jE Ra NP hr rfl Vc tG .nil pass0 (aj (qv 0) (aj (qv 1) ak))))
   (aA (wL PassesOwn.never (QW.pt (MF (MJ (mZ (mJ (qv 2) O.cZ jJ vD hr jH .nil pass0))) (HW (mZ (mJ (qv 2) O.cZ zZ X6 hr zT .nil pass0))))) (aB ae7))
   (aB (aQ (qv 2))))),?_⟩
 refine oA (fun v=>[some x,some (.int (b:Int)),some v]) (fun _=>rfl) (fun v H'=>∃ o M,v=.ref o∧Wk K ao aq au aK aL aJ M H H' o tx sk fX b) (fun R r=>⟨_,rfl,_,rfl,fun o dx ho hd ne=>⟨o,dx,x,tx,sk,b,setM (fun _=>none) o .mine,H,rfl,(Go.made (X:=fun _=>False) (C:=aJ) (fs:=[]) (Gh.nil H) ho hd ne).gh,dO,iz,hx.mono (.of (jd (C:=aJ) (fs:=[]) ho hd ne)),hsn.bx,hsn.bs,fun M' H' wf=>⟨rfl,r _ _ ⟨o,M',rfl,wf⟩⟩⟩⟩) (fun v1 H1 h1=>?_)
 obtain⟨o,M1,rfl,w1⟩:=h1
 refine⟨fun μ σ H'=>∃ (M:Mp) (tx' s':List T) (num:List Nat) (b':Nat),σ=[some x,some (.int (b:Int)),some (.ref o)]∧Wk K ao aq au aK aL aJ M H H' o tx' s' num b'∧Sane b' tx' s'∧num.length=15∧goT b tx sk=((goT b' tx' s').1,(goT b' tx' s').2.1,dF num (goT b' tx' s').2.2)∧spT b tx sk+b'=b+spT b' tx' s'∧μ=b'+1,⟨_,M1,tx,sk,fX,b,rfl,w1,hsn,rfl,by rw [acE (qH _ _ _)],Nat.add_comm _ _,rfl⟩,?_⟩
 rintro μ σ H2 ⟨M,tx',s',num,b',rfl,w2,hs2,hn2,hgo,hsp,rfl⟩
 have stop:(tx'=[]∨b'<bC tx' s')→∀ M' H',Wk K ao aq au aK aL aJ M' H H' o tx' s' num b'→Q (.ref o) H':=fun hst M' H' wf=>by
  refine q o M' H' b' ?_
  rw [pW hst,HD hst] at *
  rw [hgo]
  show Wk _ _ _ _ _ _ _ _ _ _ _ tx' s' (dF num fX) b'
  rw [aaQ hn2]
  exact wf
 refine⟨_,rfl,o,?_⟩
 obtain⟨dx,G,S,N,gs,rows,wx⟩:=id w2
 refine⟨dx,_,rfl,wx.ob,Ci (by decide +kernel) (by decide +kernel) (by decide +kernel) (by decide +kernel),o,M,H,tx',s',num,b',rfl,w2,_,rfl,?_⟩
 by_cases he:tx'=[]
 ·rw [decide_eq_true he]
  refine iteF (iteF ⟨_,rfl,stop (.inl he) M H2 w2⟩)
 rw [decide_eq_false he]
 refine iteT ⟨_,rfl,o,dx,_,rfl,wx.ob,Ci (by decide +kernel) (by decide +kernel) (by decide +kernel) (by decide +kernel),o,M,H,tx',s',num,b',rfl,w2,he,hs2.bx,hs2.bs,fun hc=>⟨(hs2.next he hc).bx,(hs2.next he hc).bs⟩,fun hc M' H' wf=>⟨_,rfl,iteF ⟨_,rfl,stop (.inr hc) M' H' wf⟩⟩,fun hc M' H' wf=>⟨_,rfl,iteT ?_⟩⟩
 have hcp:=uh tx' s'
 refine⟨fun σ' H''=>σ'=[some x,some (.int (b:Int)),some (.ref o)]∧H''=H',fun σ' H'' h=>⟨b' - bC tx' s'+1,by lia,?_⟩,rfl,rfl⟩
 obtain⟨rfl,rfl⟩:=h
 refine⟨M',_,_,_,_,rfl,wf,hs2.next he hc,rA hn2 (Gd _ _),?_,?_,rfl⟩
 ·rw [hgo,rJ he hc]
  show (_,_,dF num (dF _ _))=(_,_,dF (dF num _) _)
  rw [aaR]
 ·rw [HF he hc] at hsp
  lia
end
end d7
namespace d7
open PySem PySem.Spec PyProof.Rows L2 Sw
section
variable {P:Program}{w:World}{K:PySem.W.Frag}{mg:Str→Option Value}{base:Heap}{f:Addr}{fd:FuncData}{ao aq au aK aL aJ:Addr}
theorem adJ
  (F:Fun K "begin" "begin" rD f fd):FnOk P w K mg base CX0 31 f fd ["text","tree"] (Ot K):=by
 refine okQ F adk (fun vs H Q E h=>?_) (fun cdv A outer s H vs Q E hr h=>?_)
 ·obtain⟨x,t,y,u,rfl,_⟩:=h
  rfl
 obtain⟨x,t,y,u,rfl,hx,hy,q⟩:=h
 refine⟨_,(aB (aQ (bh (aj (bh (aj (qv 0) ak)) (aj (bh (aj (qv 1) ak)) ak))))),?_⟩
 refine⟨_,rfl,(by show 1≤sizeLine; decide),fun p1 g1=>⟨_,rfl,(by show 1≤sizeLine; decide),fun p2 g2=>⟨(by show 2≤sizeLine; decide),fun p3 g3=>?_⟩⟩⟩
 obtain⟨S1,t1⟩:=cA (K:=K) g1 (fQ hx)
 obtain⟨S2,t2⟩:=cA (K:=K) g2 (fQ (hy.mono (.of S1)))
 obtain⟨S3,t3⟩:=cA (K:=K) g3 (Oe (t1.mono (.of S2)) t2)
 exact q _ _ (S1.trans (S2.trans S3)) t3
theorem agT (O:Own K ao aq au aK aL aJ)
  {rB:Addr}{qY:FuncData} (Mi:Fun K "walked" "walked" oF rB qY) (Mg:FnOk P w K mg base CX0 39 rB qY ["stand","budget"] (JK K ao aq au aK aL aJ)) (Lw:Binds K qY ["stand","budget"] []) (KC:mg "walked"=some (.ref rB))
  {ux:Addr}{uf:FuncData} (Rk:Fun K "begin" "begin" rD ux uf) (Rf:FnOk P w K mg base CX0 39 ux uf ["text","tree"] (Ot K)) (QX:Binds K uf ["text","tree"] []) (Qi:mg "begin"=some (.ref ux))
  {Wm:Addr}{V0:FuncData} (aiE:Fun K "cost" "cost" wG Wm V0) (aiz:FnOk P w K mg base CX0 39 Wm V0 ["tally"] (abv K)) (ait:Binds K V0 ["tally"] []) (ahc:mg "cost"=some (.ref Wm))
  {Ho:Addr}{Gy:FuncData} (acV:Fun K "as_tree" "as_tree" oU Ho Gy) (acN:FnOk P w K mg base CX0 39 Ho Gy ["row"] (TV K ao aq au aK)) (acA:Binds K Gy ["row"] []) (ab8:mg "as_tree"=some (.ref Ho))
  {gB:Addr}{pB:FuncData} (lO:Meth K aJ "tally" gB) (yx:FnOk P w K mg base CX0 39 gB pB ["self"] (Oo K ao aq au aK aL aJ)) (lK:Binds K pB ["self"] [])
  {eZ:Addr}{nq:FuncData} (jJ:Meth K aJ "at_end" eZ) (vD:FnOk P w K mg base CX0 39 eZ nq ["self"] (Ou K ao aq au aK aL aJ)) (jH:Binds K nq ["self"] [])
  {iJ:Addr}{sX:FuncData} (mW:Meth K aJ "top" iJ) (vP:FnOk P w K mg base CX0 39 iJ sX ["self"] (Zr K ao aq au aK aL aJ)) (mR:Binds K sX ["self"] [])
  (F:Fun K "run" "run" BJ f fd):FnOk P w K mg base CX0 40 f fd ["text","tree","budget"] (aeA K):=by
 refine okQ F T6 (fun vs H Q E h=>?_) (fun cdv A outer s H vs Q E hr h=>?_)
 ·obtain⟨x,y,t,u,b,rfl,_⟩:=h
  rfl
 obtain⟨x,y,t,u,b,rfl,hx,hy,hsn,q⟩:=h
 refine⟨_,(aA (bY (i:=3) T6.nd rfl (Or.inl rfl) (aG Mg hr rfl KC Mi.kp Lw .nil pass0 (aj (aG Rf hr rfl Qi Rk.kp QX .nil pass0 (aj (qv 0) (aj (qv 1) ak))) (aj (qv 2) ak))))
   (aA (bY (i:=4) T6.nd rfl (Or.inl rfl) (aG aiz hr rfl ahc aiE.kp ait .nil pass0 (aj (mJ (qv 3) O.cZ lO yx hr lK .nil pass0) ak)))
   (aA (cg (mZ (mJ (qv 3) O.cZ jJ vD hr jH .nil pass0)) (aB (aQ (bh (aj dU (aj (aG acN hr rfl ab8 acV.kp acA .nil pass0 (aj (mJ (qv 3) O.cZ mW vP hr mR .nil pass0) ak)) (aj (qv 4) ak)))))) bR)
   (aB (aQ (bh (aj dU (aj (bh ak) (aj (qv 4) ak))))))))),?_⟩
 refine oA (fun v=>[some x,some y,some (.int (b:Int)),some v,none]) (fun _=>rfl) (fun v H'=>∃ o M b' H0,v=.ref o∧Same H H0∧Wk K ao aq au aK aL aJ M H0 H' o (goT b [t] [u]).1 (goT b [t] [u]).2.1 (goT b [t] [u]).2.2 b') (fun R r=>⟨_,rfl,_,rfl,x,t,y,u,rfl,hx,hy,fun z H1 S1 tz=>⟨_,rfl,z,[t],[u],b,rfl,tz,hsn,fun o M' H' b' wf=>r _ _ ⟨o,M',b',H1,rfl,S1,wf⟩⟩⟩) (fun v1 H1 h1=>?_)
 obtain⟨o,M1,b1,H0,rfl,S0,w1⟩:=h1
 obtain⟨dx,G,S,N,gs,rows,wx⟩:=id w1
 obtain⟨bl,sl⟩:=Sane.last b [t] [u] hsn
 have am7:=qH b [t] [u]
 refine oA (fun v=>[some x,some y,some (.int (b:Int)),some (.ref o),some v]) (fun _=>rfl) (fun v H'=>Same H1 H'∧v=nv (spT b [t] [u])) (fun R r=>⟨_,rfl,o,dx,_,rfl,wx.ob,Ci (by decide +kernel) (by decide +kernel) (by decide +kernel) (by decide +kernel),o,M1,H0,_,_,_,_,rfl,w1,fun c H2 S2 hc=>⟨c,_,rfl,hc,am7,fun H3 S3=>r _ _ ⟨S2.trans S3,by rw [YQ]⟩⟩⟩) (fun v2 H2 h2=>?_)
 obtain⟨S2,rfl⟩:=h2
 have w2:=wx.grow S2
 have e1:decide ((goT b [t] [u]).1=[])=true∨decide ((goT b [t] [u]).1=[])=false:=by cases decide ((goT b [t] [u]).1=[]) <;> simp
 refine⟨_,rfl,o,dx,_,rfl,w2.ob,Ci (by decide +kernel) (by decide +kernel) (by decide +kernel) (by decide +kernel),o,M1,H0,_,_,_,_,rfl,⟨dx,G,S,N,gs,rows,w2⟩,_,rfl,ite2 (fun he=>?_) (fun he=>?_)⟩
 ·have he:=of_decide_eq_true he
  have hp:(ats (goT b [t] [u]).2.1 0).parts≤8000000:=(kZ sl 0).2
  refine⟨_,rfl,o,dx,_,rfl,w2.ob,Ci (by decide +kernel) (by decide +kernel) (by decide +kernel) (by decide +kernel),o,M1,H0,_,_,_,_,rfl,⟨dx,G,S,N,gs,rows,w2⟩,fun x3 H3 S3 hx3=>⟨x3,_,M1,H0,rfl,w2.gh.grow S3,hx3,hp,fun y4 H4 S4 t4=>⟨_,rfl,(by show 3≤sizeLine; decide),fun p5 g5=>?_⟩⟩⟩
  have S5:=same_new g5 (.tup [.str (PySem.Str.ofString "told"),y4,nv (spT b [t] [u])])
  refine q p5 y4 _ (S0.trans (wx.gh.same.trans (S2.trans (S3.trans (S4.trans S5))))) (SqT.of (upd_same.trans ?_)) ?_
  ·unfold yF
   rw [if_pos he]
   rfl
  ·unfold Ml
   rw [if_pos he]
   exact t4.mono (.of S5)
 ·have he:¬ (goT b [t] [u]).1=[]:=fun z=>he (decide_eq_true z)
  refine⟨Nat.zero_le _,fun p4 g4=>⟨_,rfl,(by show 3≤sizeLine; decide),fun p5 g5=>?_⟩⟩
  obtain⟨S4,t4⟩:=cA (K:=K) (ts:=[]) g4 (bM.mpr rfl)
  have S5:=same_new g5 (.tup [.str (PySem.Str.ofString "out"),.ref p4,nv (spT b [t] [u])])
  refine q p5 (.ref p4) _ (S0.trans (wx.gh.same.trans (S2.trans (S4.trans S5)))) (SqT.of (upd_same.trans ?_)) ?_
  ·unfold yF
   rw [if_neg he]
   rfl
  ·unfold Ml
   rw [if_neg he]
   exact t4.mono (.of S5)
theorem Xf (O:Own K ao aq au aK aL aJ)
  {rB:Addr}{qY:FuncData} (Mi:Fun K "walked" "walked" oF rB qY) (Mg:FnOk P w K mg base CX0 39 rB qY ["stand","budget"] (JK K ao aq au aK aL aJ)) (Lw:Binds K qY ["stand","budget"] []) (KC:mg "walked"=some (.ref rB))
  {ux:Addr}{uf:FuncData} (Rk:Fun K "begin" "begin" rD ux uf) (Rf:FnOk P w K mg base CX0 39 ux uf ["text","tree"] (Ot K)) (QX:Binds K uf ["text","tree"] []) (Qi:mg "begin"=some (.ref ux))
  {gB:Addr}{pB:FuncData} (lO:Meth K aJ "tally" gB) (yx:FnOk P w K mg base CX0 39 gB pB ["self"] (Oo K ao aq au aK aL aJ)) (lK:Binds K pB ["self"] [])
  (F:Fun K "tally_of" "tally_of" lZ f fd):FnOk P w K mg base CX0 40 f fd ["text","tree","budget"] (Rn K):=by
 refine okQ F W0 (fun vs H Q E h=>?_) (fun cdv A outer s H vs Q E hr h=>?_)
 ·obtain⟨x,y,t,u,b,rfl,_⟩:=h
  rfl
 obtain⟨x,y,t,u,b,rfl,hx,hy,hsn,q⟩:=h
 refine⟨_,(aB (aQ (mJ (aG Mg hr rfl KC Mi.kp Lw .nil pass0 (aj (aG Rf hr rfl Qi Rk.kp QX .nil pass0 (aj (qv 0) (aj (qv 1) ak))) (aj (qv 2) ak))) O.cZ lO yx hr lK .nil pass0))),?_⟩
 refine⟨_,rfl,_,rfl,x,t,y,u,rfl,hx,hy,fun z H1 S1 tz=>⟨_,rfl,z,[t],[u],b,rfl,tz,hsn,fun o M' H' b' wf=>?_⟩⟩
 obtain⟨dx,G,S,N,gs,rows,wx⟩:=id wf
 exact⟨o,dx,_,rfl,wx.ob,Ci (by decide +kernel) (by decide +kernel) (by decide +kernel) (by decide +kernel),o,M',H1,_,_,_,_,rfl,wf,fun c H2 S2 hc=>q c _ (S1.trans (wx.gh.same.trans S2)) hc⟩
end
end d7
namespace d7
open PySem PySem.Spec PyProof.Rows L2 Sw
section
variable {P:Program}{w:World}{K:PySem.W.Frag}{mg:Str→Option Value}{base:Heap}{f:Addr}{fd:FuncData}
theorem adI
  (F:Fun K "first" "first" nD f fd):FnOk P w K mg base CX0 31 f fd ["tree"] (HJ K):=by
 refine okQ F adi (fun vs H Q E h=>?_) (fun cdv A outer s H vs Q E hr h=>?_)
 ·obtain⟨x,t,rfl,_⟩:=h
  rfl
 obtain⟨x,t,rfl,ht,hd,q⟩:=h
 have hE:=hr.un
 have hE:(A.deeper (envOfC "first" (defScope nD) s.heap.objs.size f cdv)).units+401<cLine:=by lia
 refine⟨_,(aA (cg (bA (Yz hE) (qv 0) (bh ak) (nomark _)) (aB (aQ (bh ak))) bR)
   (aB (aQ (gk jq (qv 0) aN (fun _ _=>rfl))))),?_⟩
 refine⟨_,rfl,Nat.zero_le _,fun p1 g1=>⟨t,leaf,ht.mono (.new g1),Az upd_same,by lia,_,rfl,ite2 (fun hb=>?_) (fun hb=>?_)⟩⟩
 ·have e:=(T.beq_iff _ _).mp hb
  rw [e] at q
  exact⟨Nat.zero_le _,fun p2 g2=>q _ _ ((same_new g1 _).trans (same_new g2 _)) (Az upd_same)⟩
 ·cases t with
  | node ts =>
   cases ts with
   | nil=>exact absurd ((T.beq_iff _ _).mpr rfl) hb
   | cons u us=>exact⟨_,rfl,amb (ht.mono (.new g1)) 0 rfl (fun z tz=>q _ _ (same_new g1 _) tz)⟩
theorem aft
  (F:Fun K "rest" "rest" uQ f fd):FnOk P w K mg base CX0 31 f fd ["tree"] (Et K):=by
 refine okQ F aeX (fun vs H Q E h=>?_) (fun cdv A outer s H vs Q E hr h=>?_)
 ·obtain⟨x,t,rfl,_⟩:=h
  rfl
 obtain⟨x,t,rfl,ht,q⟩:=h
 refine⟨_,(aB (aQ (wM HS (qv 0) (Ao aN) Aq))),?_⟩
 cases t with
 | node ts=>exact⟨_,rfl,1,rfl,ag8 ht 1 (fun z H' S tz=>q z H' S tz)⟩
theorem ZM (Z7:mg "min"=none) (fM:mg "len"=none) {jK:Value} (pQ:mg "NAMELESS"=some jK) (jP:RelV (.int 9) jK)
  {lN:Addr}{lH:FuncData} (Bh:Fun K "first" "first" nD lN lH) (Bg:FnOk P w K mg base CX0 31 lN lH ["tree"] (HJ K)) (Bd:Binds K lH ["tree"] []) (Ay:mg "first"=some (.ref lN))
  (F:Fun K "sort_of" "sort_of" oJ f fd):FnOk P w K mg base CX0 32 f fd ["word"] (Yj K):=by
 refine okQ F Zu (fun vs H Q E h=>?_) (fun cdv A outer s H vs Q E hr h=>?_)
 ·obtain⟨x,t,rfl,_⟩:=h
  rfl
 obtain⟨x,t,rfl,ht,h1,q⟩:=h
 refine⟨_,(aB (aQ (cG (acn rfl) rfl Z7 ain (aj (cG call_len_seq rfl fM qL (aj (aG Bg hr rfl Ay Bh.kp Bd .nil pass0 (aj (qv 0) ak)) ak)) (aj (aU (v:=.int 9) rfl pQ jP) ak))))),?_⟩
 refine⟨_,rfl,x,t,rfl,ht,h1,fun y H1 S1 t1=>?_⟩
 obtain⟨b,ys,rfl,hb',rb⟩:=cQ.mp (vX t1)
 refine⟨b,ys,rfl,.inr hb',_,_,rfl,?_⟩
 rw [rb.length,show (if (9:Int)<((ats t.kids 0).kids.length:Int) then (9:Int) else ((ats t.kids 0).kids.length:Int))=((aH t:Nat):Int) by rw [adb]; split <;> lia]
 exact q _ S1
theorem ZR
  {yh:Addr}{xP:FuncData} (WM:Fun K "rest" "rest" uQ yh xP) (Ww:FnOk P w K mg base CX0 31 yh xP ["tree"] (Et K)) (Wa:Binds K xP ["tree"] []) (U7:mg "rest"=some (.ref yh))
  (F:Fun K "load_of" "load_of" oN f fd):FnOk P w K mg base CX0 32 f fd ["word"] (Et K):=by
 refine okQ F Zw (fun vs H Q E h=>?_) (fun cdv A outer s H vs Q E hr h=>?_)
 ·obtain⟨x,t,rfl,_⟩:=h
  rfl
 obtain⟨x,t,rfl,ht,q⟩:=h
 refine⟨_,(aB (aQ (aG Ww hr rfl U7 WM.kp Wa .nil pass0 (aj (qv 0) ak)))),?_⟩
 exact⟨_,rfl,x,t,rfl,ht,fun y H' S ty=>q _ _ S ty⟩
theorem agU
  (F:Fun K "lay" "lay" uF f fd):FnOk P w K mg base CX0 31 f fd ["tree"] (Mt K):=by
 refine okQ F agi (fun vs H Q E h=>?_) (fun cdv A outer s H vs Q E hr h=>?_)
 ·obtain⟨x,t,rfl,_⟩:=h
  rfl
 obtain⟨x,t,rfl,ht,h1,h2,q⟩:=h
 refine⟨_,(aB (aQ (aX bB (bh (aj (bh ak) ak)) (qv 0)))),?_⟩
 have hl:=(show B 400 1000000 t from ⟨h1,h2⟩)
 rw [← h_ t] at hl
 have hl:=hl.len
 refine⟨Nat.zero_le _,fun p1 g1=>⟨(by show 1≤sizeLine; decide),fun p2 g2=>?_⟩⟩
 obtain⟨S1,t1⟩:=cA (K:=K) (ts:=[]) g1 (bM.mpr rfl)
 obtain⟨S2,t2⟩:=cA (K:=K) g2 (fQ t1)
 exact⟨_,rfl,cD t2 (vX (ht.mono (.of (S1.trans S2)))) (small (by rw [List.length_singleton]; lia)) (fun z H' S tz=>q _ _ (S1.trans (S2.trans S)) tz)⟩
theorem adF
  (F:Fun K "plain" "plain" tO f fd):FnOk P w K mg base CX0 31 f fd ["sort"] (Yk K):=by
 refine okQ F adg (fun vs H Q E h=>?_) (fun cdv A outer s H vs Q E hr h=>?_)
 ·obtain⟨n,rfl,_⟩:=h
  rfl
 obtain⟨n,rfl,h1,h6,q⟩:=h
 refine⟨_,(aB (aQ (bh (aj (aX oY (bh (aj (bh ak) ak)) (qv 0)) ak)))),?_⟩
 refine⟨Nat.zero_le _,fun p1 g1=>⟨(by show 1≤sizeLine; decide),fun p2 g2=>?_⟩⟩
 obtain⟨S1,t1⟩:=cA (K:=K) (ts:=[]) g1 (bM.mpr rfl)
 obtain⟨S2,t2⟩:=cA (K:=K) g2 (fQ t1)
 refine⟨_,rfl,ag7 n t2 rfl (by lia) (by lia) (by lia) (fun z H' S tz=>⟨(by show 1≤sizeLine; decide),fun p3 g3=>?_⟩)⟩
 obtain⟨S3,t3⟩:=cA (K:=K) g3 (fQ tz)
 exact q _ _ (S1.trans (S2.trans (S.trans S3))) t3
theorem afw {jM:Value} (m_:mg "FORK"=some jM) (jR:RelV (.int 7) jM)
  (F:Fun K "fork" "fork" qy f fd):FnOk P w K mg base CX0 31 f fd ["yes","no"] (Eu K):=by
 refine okQ F ae0 (fun vs H Q E h=>?_) (fun cdv A outer s H vs Q E hr h=>?_)
 ·obtain⟨x,t,y,u,rfl,_⟩:=h
  rfl
 obtain⟨x,t,y,u,rfl,ht,hu,⟨h1,h2⟩,⟨h3,h4⟩,q⟩:=h
 refine⟨_,(aB (aQ (aX bB (bh (aj (aX oY (bh (aj (bh ak) ak)) (aU (v:=.int 7) rfl m_ jR)) (aj (qv 0) ak))) (qv 1)))),?_⟩
 have hl:=(show B 400 1000000 u from ⟨h3,h4⟩)
 rw [← h_ u] at hl
 have hl:=hl.len
 refine⟨Nat.zero_le _,fun p1 g1=>⟨(by show 1≤sizeLine; decide),fun p2 g2=>?_⟩⟩
 obtain⟨S1,t1⟩:=cA (K:=K) (ts:=[]) g1 (bM.mpr rfl)
 obtain⟨S2,t2⟩:=cA (K:=K) g2 (fQ t1)
 refine aeB (k:=7) 7 t2 rfl rfl (by decide) (by decide) (fun z H' S tz=>⟨_,rfl,(by show 2≤sizeLine; decide),fun p3 g3=>?_⟩)
 obtain⟨S3,t3⟩:=cA (K:=K) g3 (Oe tz (ht.mono (.of (S1.trans (S2.trans S)))))
 exact⟨_,rfl,cD t3 (vX (hu.mono (.of (S1.trans (S2.trans (S.trans S3)))))) (Aj (by show 2+_≤_; lia)) (fun z4 H4 S4 t4=>q _ _ (S1.trans (S2.trans (S.trans (S3.trans S4)))) t4)⟩
theorem afu {dJ:Value} (eG:mg "WHILE"=some dJ) (dM:RelV (.int 8) dJ)
  (F:Fun K "loop" "loop" wD f fd):FnOk P w K mg base CX0 31 f fd ["body"] (abq K):=by
 refine okQ F aeY (fun vs H Q E h=>?_) (fun cdv A outer s H vs Q E hr h=>?_)
 ·obtain⟨x,t,rfl,_⟩:=h
  rfl
 obtain⟨x,t,rfl,ht,h1,h2,q⟩:=h
 refine⟨_,(aB (aQ (aX bB (bh (aj (aX oY (bh (aj (bh ak) ak)) (aU (v:=.int 8) rfl eG dM)) ak)) (qv 0)))),?_⟩
 have hl:=(show B 400 1000000 t from ⟨h1,h2⟩)
 rw [← h_ t] at hl
 have hl:=hl.len
 refine⟨Nat.zero_le _,fun p1 g1=>⟨(by show 1≤sizeLine; decide),fun p2 g2=>?_⟩⟩
 obtain⟨S1,t1⟩:=cA (K:=K) (ts:=[]) g1 (bM.mpr rfl)
 obtain⟨S2,t2⟩:=cA (K:=K) g2 (fQ t1)
 refine aeB (k:=8) 8 t2 rfl rfl (by decide) (by decide) (fun z H' S tz=>⟨(by show 1≤sizeLine; decide),fun p3 g3=>?_⟩)
 obtain⟨S3,t3⟩:=cA (K:=K) g3 (fQ tz)
 exact⟨_,rfl,cD t3 (vX (ht.mono (.of (S1.trans (S2.trans (S.trans S3)))))) (small (by show 1+_≤_; lia)) (fun z4 H4 S4 t4=>q _ _ (S1.trans (S2.trans (S.trans (S3.trans S4)))) t4)⟩
theorem adG
  (F:Fun K "parts" "parts" rC f fd):FnOk P w K mg base CX0 31 f fd ["tree"] (JM K):=by
 refine okQ F wz (fun vs H Q E h=>?_) (fun cdv A outer s H vs Q E hr h=>?_)
 ·obtain⟨x,t,rfl,_⟩:=h
  rfl
 obtain⟨x,t,rfl,ht,hz,q⟩:=h
 refine⟨_,(aA (bY (i:=1) wz.nd rfl (Or.inl rfl) (qD (aj (qv 0) ak)))
   (aA (bY (i:=2) wz.nd rfl (Or.inl rfl) aN)
   (aA (wL PassesOwn.never (wK (qv 1) (fun _=>rfl)) (aA (bY (i:=3) wz.nd rfl (Or.inl rfl) (qF PySem.F.plainAttrs_list PySem.F.slot_list_pop PySem.F.type_list_pop rW (qv 1)))
   (aA (abG (i:=2) wz.nd rfl (Or.inl rfl) aN Ba)
   (aB (cP (fK PySem.F.plainAttrs_list PySem.F.slot_list_extend PySem.F.type_list_extend YF (qv 1) (aj (qv 3) ak)))))))
   (aB (aQ (qv 2)))))),?_⟩
 refine⟨_,rfl,(by show 1≤sizeLine; decide),fun p hp=>?_⟩
 refine⟨Y7 K H x t.parts p,⟨_,[x],[t],0,none,rfl,same_new hp _,upd_same,cL.mpr ⟨x,[],rfl,ht.mono (Kt.new hp),bM.mpr rfl⟩,by rw [T.aF,T.aR]; lia,rfl⟩,?_⟩
 rintro m σ H' ⟨ys,ts,c,o,rfl,S,hl,htr,hc,rfl⟩
 refine⟨_,rfl,!ys.isEmpty,.inl ⟨ys,SqL.of hl,rfl⟩,?_⟩
 refine ite2 (fun hb=>?_) (fun hb=>?_)
 ·have hne:ys≠[]:=by rintro rfl; exact absurd hb (by decide)
  obtain⟨y,hy⟩:=afJ hne
  obtain⟨u,hu,hyu⟩:=htr.get hy
  rw [htr.length] at hu
  obtain⟨a,zs,rfl,h1,h2⟩:=Nu hyu
  have hpl:=T.MP hu
  refine⟨fun σ' H'=>∃ m',m'<T.aD ts∧Y7 K H x t.parts p m' σ' H',fun _ _ h=>h,?_⟩
  refine⟨_,rfl,.inl ⟨rfl,_,SqL.of hl⟩,p,ys,_,rfl,rfl,hl,hy,?_⟩
  refine⟨_,rfl,_,_,rfl,rfl,?_⟩
  have hk:=T.dH u
  have apk:=T.cV ts.dropLast
  have hlen2:=T.cV u.kids
  have e1:=htr.dropLast.length
  have e2:=h2.length
  refine⟨_,rfl,.inl ⟨rfl,_,SqL.of upd_same⟩,_,rfl,p,a,ys.dropLast,zs,rfl,rfl,upd_same,cO (Kt.lst hl) h1,Aj (by lia),?_⟩
  refine⟨_,?_,ys.dropLast++zs,ts.dropLast++u.kids,c+1,_,rfl,?_,upd_same,?_,?_,rfl⟩
  ·rw [T.cJ]
   lia
  ·rw [Ob]
   exact cY S hp
  ·rw [Ob]
   exact (htr.dropLast.append h2).mono (Kt.lst hl)
  ·rw [T.cJ]
   lia
 ·have hys:ys=[]:=by
   cases ys with
   | nil=>rfl
   | cons _ _=>exact absurd rfl hb
  subst hys
  have hts:ts=[]:=List.length_eq_zero_iff.mp htr.length.symm
  subst hts
  rw [T.aR] at hc
  refine⟨_,rfl,?_⟩
  have:(c:Int)=(t.parts:Int):=by lia
  rw [this]
  exact q _ S
theorem afx (Ig:mg "sum"=none) {jg:Value} (j_:mg "COPIED"=some jg) (iG:RelV (.int 13) jg) {oh:Value} (qG:mg "TWIN"=some oh) (mY:RelV (.int 2) oh)
  (F:Fun K "cost" "cost" wG f fd):FnOk P w K mg base CX0 31 f fd ["tally"] (abv K):=by
 refine okQ F ae1 (fun vs H Q E h=>?_) (fun cdv A outer s H vs Q E hr h=>?_)
 ·obtain⟨a,ns,rfl,_⟩:=h
  rfl
 obtain⟨a,ns,rfl,ha,hn,q⟩:=h
 refine⟨_,(aB (aQ (aX op_add (aX op_sub (cG (RB rfl) rfl Ig acp (aj (wM HS (qv 0) Aq (Ao (aU (v:=.int 13) rfl j_ iG))) ak)) (gk jq (qv 0) (aU (v:=.int 2) rfl qG mY) (fun _ _=>rfl))) (gk jq (qv 0) (aU (v:=.int 13) rfl j_ iG) (fun _ _=>rfl))))),?_⟩
 refine⟨_,rfl,13,rfl,a,_,rfl,ha,fun p H1 S1 h1=>?_⟩
 rw [show (some (13:Int))=some ((13:Nat):Int) from rfl,V1,YD] at h1
 have ha1:=cO (.of S1) ha
 refine⟨p,_,rfl,h1,_,rfl,a,_,_,_,rfl,rfl,ha1,Nf (k:=2) (by lia),_,_,rfl,rfl,_,rfl,a,_,_,_,rfl,rfl,ha1,Nf (k:=13) (by lia),_,_,rfl,rfl,q _ S1⟩
end
end d7
namespace d7
open PySem PySem.Spec PyProof.Rows L2 Sw
theorem all_mk {l:PySem.W.OpenLaw}{w:World}{K:PySem.W.Frag}{h:Heap}{mg:Str→Option Value}{fa f1 f2 f3 f4 f5 f6 f7 f8 f9 f10 f11 f12 f13 f14 f15 f16 f17 f18 f19 f20 f21 f22 f23 f24 f25 f26 f27 f28 f29 f30 f31 f32 f33 f34 f35 f36 f37 f38 f39 f40 f41 f42 f43 f44 f45 f46 f47 f48 f49 f50 f51:Addr} (X:K.In h) (G:h.Ns mainGlobals mg) (hfa:mg "law"=some (.ref fa))  {ao:Addr}{aq:Addr}{au:Addr}{aK:Addr}{aL:Addr}{aJ:Addr}{ig:Addr}{Ec Ek:Option Addr}{DY:Array (Option Value)}{Ed Ef Ei Ea tL Ej:Value}{jr:Addr}{Jb Jm:Option Addr}{Iu:Array (Option Value)}{Jd Jf Ji IV vH Jk:Value}{jV:Addr}{Kl Lx:Option Addr}{JQ:Array (Option Value)}{Kp K1 Lf J6 xW Lj:Value}{iI:Addr}{Fw GZ:Option Addr}{Ew:Array (Option Value)}{Fx FZ Gj Fo uY Gz:Value}{jX:Addr}{Ko Lz:Option Addr}{JT:Array (Option Value)}{Kr K4 Lh J8 xY Ln:Value}{lE:Addr}{M9 Nt:Option Addr}{Mv:Array (Option Value)}{M_ Nj Np MN yO Nq:Value}{jt:Addr}{Jc Jo:Option Addr}{Iw:Array (Option Value)}{Je Jg Jj IW vI Jl:Value}{jW:Addr}{Km Ly:Option Addr}{JR:Array (Option Value)}{Kq K3 Lg J7 xX Lk:Value}{ni:Addr}{P_ QZ:Option Addr}{Ox:Array (Option Value)}{Qa Qs QC Px Bc QH:Value}{sV:Addr}{Xn XM:Option Addr}{WY:Array (Option Value)}{Xo Xv Xx Xe Jx Xy:Value}{o_:Addr}{R5 Sd:Option Addr}{RJ:Array (Option Value)}{R6 R7 R8 RQ DR R9:Value}{qI:Addr}{Uy Wf:Option Addr}{TY:Array (Option Value)}{UG Vl VJ Uj GF V3:Value}{qJ:Addr}{Uz Wg:Option Addr}{T3:Array (Option Value)}{UJ Vm VL Uk GJ V4:Value}{lU:Value}{jL:Value}{n_:Value}{gY:Value}{uL:Value}{Ep:Value}{Em:Value}{Ag:Value}{En:Value}{El:Value}{v8:Value}{v9:Value}{uz:Addr}{YC:Obj}{p8:Addr}{Ib:Obj}{bE0 bE1 bE2 bE3 bE4 bE5 bE6 bE7 bE8 bE9 aen aem ael aek aej:Addr}{oE0 oE1 oE2 oE3 oE4 oE5 oE6 oE7 oE8 oE9 ag3 ag2 ag1 ag0 agZ:Obj}{jK:Value}{jM:Value}{dJ:Value}{yG:Value}{Eo:Value}{gG:Value}{uM:Value}{rN:Value}{k_:Value}{iH:Addr}{UW:Obj}{qw:Value}{qx:Value}{jg:Value}{oh:Value}{pH:Addr}{U0:Obj}{u9:Addr}{abV:Obj}{jz:Addr}{Fy:Obj}{ou:Value}
  {od1 an1 od2 an2 od3 an3 od4 an4 od5 an5 od6 an6 od7 an7 od8 an8 od9 an9 alv aph alu apg als apf alr ape alq apd alp apc alo apb aln apa alm ao_ alk ao9 alj ao8 ali ao7 alh ao6 alg ao5 alf ao4 ale ao3 ald ao2 alc ao1 alb ao0 ala aoZ ak_ aoY ak9 aoX ak8 aoW ak7 aoV ak6 aoU ak5 aoT ak4 aoS ak3 aoR ak2 aoQ ak1 aoP ak0 aoO akZ aoN akY aoM akX aoL akW aoK akV aoJ akU aoI akT aoH akS aoG akR aoF akQ aoE akP aiu:Option Addr}{sl1 sl2 sl3 sl4 sl5 sl6 sl7 sl8 sl9 aj0 ajZ ajY ajX ajW ajV ajU ajT ajS ajR ajQ ajP ajO ajN ajM ajL ajK ajJ ajI ajH ajG ajF ajE ajD ajC ajB ajA ajz ajy ajx ajw ajv aju ajt ajs ajr ajq ajp ajo ajn ajm ajl:Array (Option Value)}{oc1 kV1 dc1 pm1 cd1 ct1 oc2 kV2 dc2 pm2 cd2 ct2 oc3 kV3 dc3 pm3 cd3 ct3 oc4 kV4 dc4 pm4 cd4 ct4 oc5 kV5 dc5 pm5 cd5 ct5 oc6 kV6 dc6 pm6 cd6 ct6 oc7 kV7 dc7 pm7 cd7 ct7 oc8 kV8 dc8 pm8 cd8 ct8 oc9 kV9 dc9 pm9 cd9 ct9 ama amV anP akO aik aoD al_ amU anO akN aij aoC al9 amT anN akM aii aoB al8 amS anM akL aif aoA al7 amR anL akK aie aoz al6 amQ anK akJ aic aoy al5 amP anJ akI aib aox al4 amO anI akH aia aow al3 amN anH akG ah_ aov al2 amM anG akF ah9 aou al1 amL anF akE ah8 aot al0 amK anE akD ah7 aos alZ amJ anD akC ah6 aor alY amI anC akB ah5 aoq alX amH anB akA ah4 aop alW amG anA akz ah3 aoo alV amF anz aky ah2 aon alU amE anx akx ah1 aom alT amD anw akv ah0 aol alS amC anv aku ahZ aok alR amB anu akt ahY aoj alQ amA ant aks ahX aoi alP amy anr akr ahW aoh alO amx anq akq ahV aog alN amw anp akp ahU aof alM amv ano ako ahT aoe alL amu anm akn ahS aod alK amt anl akm ahR aoc alJ ams ank akl ahQ aob alI amr anj akk ahP aoa alH amq ani akj ahO an_ alG amo anh aki ahN an0 alF amn ang akh ahM anZ alE amm anf akg ahL anY alD aml ane akf ahK anW alC amk anc ake ahJ anV alB amj anb akd ahI anU alA ami ana akc ahH anT alz amh am_ akb ahG anS aly amg am9 aj_ ahF anR alx amf am8 aj9 ahE anQ alw ahh ahC agD aee ahD:Value}
  (a1:PySem.W.nsIn K mainGlobals "first"=some (some (.ref f1))) (l1:K.lookup f1=some ⟨oc1,od1,.func (PySem.W.fnOf "first" "first" (defArgs nD) (defBody nD) (defScope nD) .none kV1 dc1 pm1 an1 cd1 ct1),sl1⟩) (c1:PySem.W.codeIn K cd1 "first"=true) (k1:PySem.W.keepIn K (.ref f1)=true)
  (a2:PySem.W.nsIn K mainGlobals "rest"=some (some (.ref f2))) (l2:K.lookup f2=some ⟨oc2,od2,.func (PySem.W.fnOf "rest" "rest" (defArgs uQ) (defBody uQ) (defScope uQ) .none kV2 dc2 pm2 an2 cd2 ct2),sl2⟩) (c2:PySem.W.codeIn K cd2 "rest"=true) (k2:PySem.W.keepIn K (.ref f2)=true)
  (a3:PySem.W.nsIn K mainGlobals "parts"=some (some (.ref f3))) (l3:K.lookup f3=some ⟨oc3,od3,.func (PySem.W.fnOf "parts" "parts" (defArgs rC) (defBody rC) (defScope rC) .none kV3 dc3 pm3 an3 cd3 ct3),sl3⟩) (c3:PySem.W.codeIn K cd3 "parts"=true) (k3:PySem.W.keepIn K (.ref f3)=true)
  (a4:PySem.W.nsIn K mainGlobals "sort_of"=some (some (.ref f4))) (l4:K.lookup f4=some ⟨oc4,od4,.func (PySem.W.fnOf "sort_of" "sort_of" (defArgs oJ) (defBody oJ) (defScope oJ) .none kV4 dc4 pm4 an4 cd4 ct4),sl4⟩) (c4:PySem.W.codeIn K cd4 "sort_of"=true) (k4:PySem.W.keepIn K (.ref f4)=true)
  (a5:PySem.W.nsIn K mainGlobals "load_of"=some (some (.ref f5))) (l5:K.lookup f5=some ⟨oc5,od5,.func (PySem.W.fnOf "load_of" "load_of" (defArgs oN) (defBody oN) (defScope oN) .none kV5 dc5 pm5 an5 cd5 ct5),sl5⟩) (c5:PySem.W.codeIn K cd5 "load_of"=true) (k5:PySem.W.keepIn K (.ref f5)=true)
  (a6:PySem.W.nsIn K mainGlobals "lay"=some (some (.ref f6))) (l6:K.lookup f6=some ⟨oc6,od6,.func (PySem.W.fnOf "lay" "lay" (defArgs uF) (defBody uF) (defScope uF) .none kV6 dc6 pm6 an6 cd6 ct6),sl6⟩) (c6:PySem.W.codeIn K cd6 "lay"=true) (k6:PySem.W.keepIn K (.ref f6)=true)
  (a7:PySem.W.nsIn K mainGlobals "plain"=some (some (.ref f7))) (l7:K.lookup f7=some ⟨oc7,od7,.func (PySem.W.fnOf "plain" "plain" (defArgs tO) (defBody tO) (defScope tO) .none kV7 dc7 pm7 an7 cd7 ct7),sl7⟩) (c7:PySem.W.codeIn K cd7 "plain"=true) (k7:PySem.W.keepIn K (.ref f7)=true)
  (a8:PySem.W.nsIn K mainGlobals "fork"=some (some (.ref f8))) (l8:K.lookup f8=some ⟨oc8,od8,.func (PySem.W.fnOf "fork" "fork" (defArgs qy) (defBody qy) (defScope qy) .none kV8 dc8 pm8 an8 cd8 ct8),sl8⟩) (c8:PySem.W.codeIn K cd8 "fork"=true) (k8:PySem.W.keepIn K (.ref f8)=true)
  (a9:PySem.W.nsIn K mainGlobals "loop"=some (some (.ref f9))) (l9:K.lookup f9=some ⟨oc9,od9,.func (PySem.W.fnOf "loop" "loop" (defArgs wD) (defBody wD) (defScope wD) .none kV9 dc9 pm9 an9 cd9 ct9),sl9⟩) (c9:PySem.W.codeIn K cd9 "loop"=true) (k9:PySem.W.keepIn K (.ref f9)=true)
  (a10:PySem.W.nsIn K mainGlobals "plains"=some (some (.ref f10))) (l10:K.lookup f10=some ⟨ama,alv,.func (PySem.W.fnOf "plains" "plains" (defArgs dR) (defBody dR) (defScope dR) .none amV anP akO aph aik aoD),aj0⟩) (c10:PySem.W.codeIn K aik "plains"=true) (k10:PySem.W.keepIn K (.ref f10)=true)
  (a11:PySem.W.nsIn K mainGlobals "selfrunner"=some (some (.ref f11))) (l11:K.lookup f11=some ⟨al_,alu,.func (PySem.W.fnOf "selfrunner" "selfrunner" (defArgs jj) (defBody jj) (defScope jj) .none amU anO akN apg aij aoC),ajZ⟩) (c11:PySem.W.codeIn K aij "selfrunner"=true) (k11:PySem.W.keepIn K (.ref f11)=true)
  (a12:PySem.W.nsIn K mainGlobals "opening"=some (some (.ref f12))) (l12:K.lookup f12=some ⟨al9,als,.func (PySem.W.fnOf "opening" "opening" (defArgs oM) (defBody oM) (defScope oM) .none amT anN akM apf aii aoB),ajY⟩) (c12:PySem.W.codeIn K aii "opening"=true) (k12:PySem.W.keepIn K (.ref f12)=true)
  (a13:PySem.W.nsIn K mainGlobals "from_head"=some (some (.ref f13))) (l13:K.lookup f13=some ⟨al8,alr,.func (PySem.W.fnOf "from_head" "from_head" (defArgs j8) (defBody j8) (defScope j8) .none amS anM akL ape aif aoA),ajX⟩) (c13:PySem.W.codeIn K aif "from_head"=true) (k13:PySem.W.keepIn K (.ref f13)=true)
  (a14:PySem.W.nsIn K mainGlobals "stepped"=some (some (.ref f14))) (l14:K.lookup f14=some ⟨al7,alq,.func (PySem.W.fnOf "stepped" "stepped" (defArgs oH) (defBody oH) (defScope oH) .none amR anL akK apd aie aoz),ajW⟩) (c14:PySem.W.codeIn K aie "stepped"=true) (k14:PySem.W.keepIn K (.ref f14)=true)
  (a15:PySem.W.nsIn K mainGlobals "by_sort"=some (some (.ref f15))) (l15:K.lookup f15=some ⟨al6,alp,.func (PySem.W.fnOf "by_sort" "by_sort" (defArgs oR) (defBody oR) (defScope oR) .none amQ anK akJ apc aic aoy),ajV⟩) (c15:PySem.W.codeIn K aic "by_sort"=true) (k15:PySem.W.keepIn K (.ref f15)=true)
  (a16:PySem.W.nsIn K mainGlobals "gone_of"=some (some (.ref f16))) (l16:K.lookup f16=some ⟨al5,alo,.func (PySem.W.fnOf "gone_of" "gone_of" (defArgs oO) (defBody oO) (defScope oO) .none amP anJ akI apb aib aox),ajU⟩) (c16:PySem.W.codeIn K aib "gone_of"=true) (k16:PySem.W.keepIn K (.ref f16)=true)
  (a17:PySem.W.nsIn K mainGlobals "while_gone"=some (some (.ref f17))) (l17:K.lookup f17=some ⟨al4,aln,.func (PySem.W.fnOf "while_gone" "while_gone" (defArgs ji) (defBody ji) (defScope ji) .none amO anI akH apa aia aow),ajT⟩) (c17:PySem.W.codeIn K aia "while_gone"=true) (k17:PySem.W.keepIn K (.ref f17)=true)
  (a18:PySem.W.nsIn K mainGlobals "nameless_gone"=some (some (.ref f18))) (l18:K.lookup f18=some ⟨al3,alm,.func (PySem.W.fnOf "nameless_gone" "nameless_gone" (defArgs gb) (defBody gb) (defScope gb) .none amN anH akG ao_ ah_ aov),ajS⟩) (c18:PySem.W.codeIn K ah_ "nameless_gone"=true) (k18:PySem.W.keepIn K (.ref f18)=true)
  (a19:PySem.W.nsIn K mainGlobals "begin"=some (some (.ref f19))) (l19:K.lookup f19=some ⟨al2,alk,.func (PySem.W.fnOf "begin" "begin" (defArgs rD) (defBody rD) (defScope rD) .none amM anG akF ao9 ah9 aou),ajR⟩) (c19:PySem.W.codeIn K ah9 "begin"=true) (k19:PySem.W.keepIn K (.ref f19)=true)
  (a20:PySem.W.nsIn K mainGlobals "place_of"=some (some (.ref f20))) (l20:K.lookup f20=some ⟨al1,alj,.func (PySem.W.fnOf "place_of" "place_of" (defArgs jO) (defBody jO) (defScope jO) .none amL anF akE ao8 ah8 aot),ajQ⟩) (c20:PySem.W.codeIn K ah8 "place_of"=true) (k20:PySem.W.keepIn K (.ref f20)=true)
  (a21:PySem.W.nsIn K mainGlobals "cost"=some (some (.ref f21))) (l21:K.lookup f21=some ⟨al0,ali,.func (PySem.W.fnOf "cost" "cost" (defArgs wG) (defBody wG) (defScope wG) .none amK anE akD ao7 ah7 aos),ajP⟩) (c21:PySem.W.codeIn K ah7 "cost"=true) (k21:PySem.W.keepIn K (.ref f21)=true)
  (a22:PySem.W.nsIn K mainGlobals "added"=some (some (.ref f22))) (l22:K.lookup f22=some ⟨alZ,alh,.func (PySem.W.fnOf "added" "added" (defArgs pL) (defBody pL) (defScope pL) .none amJ anD akC ao6 ah6 aor),ajO⟩) (c22:PySem.W.codeIn K ah6 "added"=true) (k22:PySem.W.keepIn K (.ref f22)=true)
  (a23:PySem.W.nsIn K mainGlobals "turned"=some (some (.ref f23))) (l23:K.lookup f23=some ⟨alY,alg,.func (PySem.W.fnOf "turned" "turned" (defArgs oG) (defBody oG) (defScope oG) .none amI anC akB ao5 ah5 aoq),ajN⟩) (c23:PySem.W.codeIn K ah5 "turned"=true) (k23:PySem.W.keepIn K (.ref f23)=true)
  (a24:PySem.W.nsIn K mainGlobals "selfmade"=some (some (.ref f24))) (l24:K.lookup f24=some ⟨alX,alf,.func (PySem.W.fnOf "selfmade" "selfmade" (defArgs mj) (defBody mj) (defScope mj) .none amH anB akA ao4 ah4 aop),ajM⟩) (c24:PySem.W.codeIn K ah4 "selfmade"=true) (k24:PySem.W.keepIn K (.ref f24)=true)
  (a25:PySem.W.nsIn K mainGlobals "selfmaker"=some (some (.ref f25))) (l25:K.lookup f25=some ⟨alW,ale,.func (PySem.W.fnOf "selfmaker" "selfmaker" (defArgs j7) (defBody j7) (defScope j7) .none amG anA akz ao3 ah3 aoo),ajL⟩) (c25:PySem.W.codeIn K ah3 "selfmaker"=true) (k25:PySem.W.keepIn K (.ref f25)=true)
  (a26:PySem.W.nsIn K mainGlobals "lay_made"=some (some (.ref f26))) (l26:K.lookup f26=some ⟨alV,ald,.func (PySem.W.fnOf "lay_made" "lay_made" (defArgs mq) (defBody mq) (defScope mq) .none amF anz aky ao2 ah2 aon),ajK⟩) (c26:PySem.W.codeIn K ah2 "lay_made"=true) (k26:PySem.W.keepIn K (.ref f26)=true)
  (a27:PySem.W.nsIn K mainGlobals "knot"=some (some (.ref f27))) (l27:K.lookup f27=some ⟨alU,alc,.func (PySem.W.fnOf "knot" "knot" (defArgs wF) (defBody wF) (defScope wF) .none amE anx akx ao1 ah1 aom),ajJ⟩) (c27:PySem.W.codeIn K ah1 "knot"=true) (k27:PySem.W.keepIn K (.ref f27)=true)
  (a28:PySem.W.nsIn K mainGlobals "knot_body"=some (some (.ref f28))) (l28:K.lookup f28=some ⟨alT,alb,.func (PySem.W.fnOf "knot_body" "knot_body" (defArgs iM) (defBody iM) (defScope iM) .none amD anw akv ao0 ah0 aol),ajI⟩) (c28:PySem.W.codeIn K ah0 "knot_body"=true) (k28:PySem.W.keepIn K (.ref f28)=true)
  (a29:PySem.W.nsIn K mainGlobals "both_run"=some (some (.ref f29))) (l29:K.lookup f29=some ⟨alS,ala,.func (PySem.W.fnOf "both_run" "both_run" (defArgs mF) (defBody mF) (defScope mF) .none amC anv aku aoZ ahZ aok),ajH⟩) (c29:PySem.W.codeIn K ahZ "both_run"=true) (k29:PySem.W.keepIn K (.ref f29)=true)
  (a30:PySem.W.nsIn K mainGlobals "knot_tally"=some (some (.ref f30))) (l30:K.lookup f30=some ⟨alR,ak_,.func (PySem.W.fnOf "knot_tally" "knot_tally" (defArgs jk) (defBody jk) (defScope jk) .none amB anu akt aoY ahY aoj),ajG⟩) (c30:PySem.W.codeIn K ahY "knot_tally"=true) (k30:PySem.W.keepIn K (.ref f30)=true)
  (a31:PySem.W.nsIn K mainGlobals "first_of"=some (some (.ref f31))) (l31:K.lookup f31=some ⟨alQ,ak9,.func (PySem.W.fnOf "first_of" "first_of" (defArgs mC) (defBody mC) (defScope mC) .none amA ant aks aoX ahX aoi),ajF⟩) (c31:PySem.W.codeIn K ahX "first_of"=true) (k31:PySem.W.keepIn K (.ref f31)=true)
  (a32:PySem.W.nsIn K mainGlobals "rest_of"=some (some (.ref f32))) (l32:K.lookup f32=some ⟨alP,ak8,.func (PySem.W.fnOf "rest_of" "rest_of" (defArgs oK) (defBody oK) (defScope oK) .none amy anr akr aoW ahW aoh),ajE⟩) (c32:PySem.W.codeIn K ahW "rest_of"=true) (k32:PySem.W.keepIn K (.ref f32)=true)
  (a33:PySem.W.nsIn K mainGlobals "later"=some (some (.ref f33))) (l33:K.lookup f33=some ⟨alO,ak7,.func (PySem.W.fnOf "later" "later" (defArgs tQ) (defBody tQ) (defScope tQ) .none amx anq akq aoV ahV aog),ajD⟩) (c33:PySem.W.codeIn K ahV "later"=true) (k33:PySem.W.keepIn K (.ref f33)=true)
  (a34:PySem.W.nsIn K mainGlobals "unfronted"=some (some (.ref f34))) (l34:K.lookup f34=some ⟨alN,ak6,.func (PySem.W.fnOf "unfronted" "unfronted" (defArgs iK) (defBody iK) (defScope iK) .none amw anp akp aoU ahU aof),ajC⟩) (c34:PySem.W.codeIn K ahU "unfronted"=true) (k34:PySem.W.keepIn K (.ref f34)=true)
  (a35:PySem.W.nsIn K mainGlobals "parts_within"=some (some (.ref f35))) (l35:K.lookup f35=some ⟨alM,ak5,.func (PySem.W.fnOf "parts_within" "parts_within" (defArgs gM) (defBody gM) (defScope gM) .none amv ano ako aoT ahT aoe),ajB⟩) (c35:PySem.W.codeIn K ahT "parts_within"=true) (k35:PySem.W.keepIn K (.ref f35)=true)
  (a36:PySem.W.nsIn K mainGlobals "as_tree"=some (some (.ref f36))) (l36:K.lookup f36=some ⟨alL,ak4,.func (PySem.W.fnOf "as_tree" "as_tree" (defArgs oU) (defBody oU) (defScope oU) .none amu anm akn aoS ahS aod),ajA⟩) (c36:PySem.W.codeIn K ahS "as_tree"=true) (k36:PySem.W.keepIn K (.ref f36)=true)
  (a37:PySem.W.nsIn K mainGlobals "run"=some (some (.ref f37))) (l37:K.lookup f37=some ⟨alK,ak3,.func (PySem.W.fnOf "run" "run" (defArgs BJ) (defBody BJ) (defScope BJ) .none amt anl akm aoR ahR aoc),ajz⟩) (c37:PySem.W.codeIn K ahR "run"=true) (k37:PySem.W.keepIn K (.ref f37)=true)
  (a38:PySem.W.nsIn K mainGlobals "tally_of"=some (some (.ref f38))) (l38:K.lookup f38=some ⟨alJ,ak2,.func (PySem.W.fnOf "tally_of" "tally_of" (defArgs lZ) (defBody lZ) (defScope lZ) .none ams ank akl aoQ ahQ aob),ajy⟩) (c38:PySem.W.codeIn K ahQ "tally_of"=true) (k38:PySem.W.keepIn K (.ref f38)=true)
  (a39:PySem.W.nsIn K mainGlobals "walked"=some (some (.ref f39))) (l39:K.lookup f39=some ⟨alI,ak1,.func (PySem.W.fnOf "walked" "walked" (defArgs oF) (defBody oF) (defScope oF) .none amr anj akk aoP ahP aoa),ajx⟩) (c39:PySem.W.codeIn K ahP "walked"=true) (k39:PySem.W.keepIn K (.ref f39)=true)
  (a40:PySem.W.nsIn K mainGlobals "work"=some (some (.ref f40))) (l40:K.lookup f40=some ⟨alH,ak0,.func (PySem.W.fnOf "work" "work" (defArgs wC) (defBody wC) (defScope wC) .none amq ani akj aoO ahO an_),ajw⟩) (c40:PySem.W.codeIn K ahO "work"=true) (k40:PySem.W.keepIn K (.ref f40)=true)
  (a41:PySem.W.nsIn K mainGlobals "_law_deck"=some (some (.ref f41))) (l41:K.lookup f41=some ⟨alG,akZ,.func (PySem.W.fnOf "_law_deck" "_law_deck" (defArgs iR) (defBody iR) (defScope iR) .none amo anh aki aoN ahN an0),ajv⟩) (c41:PySem.W.codeIn K ahN "_law_deck"=true) (k41:PySem.W.keepIn K (.ref f41)=true)
  (a42:PySem.W.nsIn K mainGlobals "_law_next"=some (some (.ref f42))) (l42:K.lookup f42=some ⟨alF,akY,.func (PySem.W.fnOf "_law_next" "_law_next" (defArgs gU) (defBody gU) (defScope gU) .none amn ang akh aoM ahM anZ),aju⟩) (c42:PySem.W.codeIn K ahM "_law_next"=true) (k42:PySem.W.keepIn K (.ref f42)=true)
  (a43:PySem.W.nsIn K mainGlobals "_law_tree"=some (some (.ref f43))) (l43:K.lookup f43=some ⟨alE,akX,.func (PySem.W.fnOf "_law_tree" "_law_tree" (defArgs gR) (defBody gR) (defScope gR) .none amm anf akg aoL ahL anY),ajt⟩) (c43:PySem.W.codeIn K ahL "_law_tree"=true) (k43:PySem.W.keepIn K (.ref f43)=true)
  (a44:PySem.W.nsIn K mainGlobals "_law_leaves"=some (some (.ref f44))) (l44:K.lookup f44=some ⟨alD,akW,.func (PySem.W.fnOf "_law_leaves" "_law_leaves" (defArgs eV) (defBody eV) (defScope eV) .none aml ane akf aoK ahK anW),ajs⟩) (c44:PySem.W.codeIn K ahK "_law_leaves"=true) (k44:PySem.W.keepIn K (.ref f44)=true)
  (a45:PySem.W.nsIn K mainGlobals "_law_word"=some (some (.ref f45))) (l45:K.lookup f45=some ⟨alC,akV,.func (PySem.W.fnOf "_law_word" "_law_word" (defArgs nF) (defBody nF) (defScope nF) .none amk anc ake aoJ ahJ anV),ajr⟩) (c45:PySem.W.codeIn K ahJ "_law_word"=true) (k45:PySem.W.keepIn K (.ref f45)=true)
  (a46:PySem.W.nsIn K mainGlobals "_law_text"=some (some (.ref f46))) (l46:K.lookup f46=some ⟨alB,akU,.func (PySem.W.fnOf "_law_text" "_law_text" (defArgs iQ) (defBody iQ) (defScope iQ) .none amj anb akd aoI ahI anU),ajq⟩) (c46:PySem.W.codeIn K ahI "_law_text"=true) (k46:PySem.W.keepIn K (.ref f46)=true)
  (a47:PySem.W.nsIn K mainGlobals "_law_whole"=some (some (.ref f47))) (l47:K.lookup f47=some ⟨alA,akT,.func (PySem.W.fnOf "_law_whole" "_law_whole" (defArgs jl) (defBody jl) (defScope jl) .none ami ana akc aoH ahH anT),ajp⟩) (c47:PySem.W.codeIn K ahH "_law_whole"=true) (k47:PySem.W.keepIn K (.ref f47)=true)
  (a48:PySem.W.nsIn K mainGlobals "_law_lay"=some (some (.ref f48))) (l48:K.lookup f48=some ⟨alz,akS,.func (PySem.W.fnOf "_law_lay" "_law_lay" (defArgs mH) (defBody mH) (defScope mH) .none amh am_ akb aoG ahG anS),ajo⟩) (c48:PySem.W.codeIn K ahG "_law_lay"=true) (k48:PySem.W.keepIn K (.ref f48)=true)
  (a49:PySem.W.nsIn K mainGlobals "_law_plain"=some (some (.ref f49))) (l49:K.lookup f49=some ⟨aly,akR,.func (PySem.W.fnOf "_law_plain" "_law_plain" (defArgs jm) (defBody jm) (defScope jm) .none amg am9 aj_ aoF ahF anR),ajn⟩) (c49:PySem.W.codeIn K ahF "_law_plain"=true) (k49:PySem.W.keepIn K (.ref f49)=true)
  (a50:PySem.W.nsIn K mainGlobals "_law_maker"=some (some (.ref f50))) (l50:K.lookup f50=some ⟨alx,akQ,.func (PySem.W.fnOf "_law_maker" "_law_maker" (defArgs jo) (defBody jo) (defScope jo) .none amf am8 aj9 aoE ahE anQ),ajm⟩) (c50:PySem.W.codeIn K ahE "_law_maker"=true) (k50:PySem.W.keepIn K (.ref f50)=true)
  (a51:PySem.W.nsIn K mainGlobals "law"=some (some (.ref f51))) (l51:K.lookup f51=some ⟨alw,akP,.func (PySem.W.fnOf "law" "law" (defArgs rP) (defBody rP) (defScope rP) .none ahh ahC agD aiu aee ahD),ajl⟩) (c51:PySem.W.codeIn K aee "law"=true) (k51:PySem.W.keepIn K (.ref f51)=true)
  (Du:PySem.W.nsIn K mainGlobals "Fronted"=some (some (.ref ao)))
  (BL:PySem.W.plainGet K ao Str.empty=true)
  (Cq:PySem.W.hasDictIn K ao=true)
  (BK:PySem.W.plainOver K ao=true)
  (Bx:PySem.W.findIn K (.ref ao) "__setattr__"=some (some (.builtin "object.__setattr__")))
  (Ca:PySem.W.makesIn K ao=true)
  (Cm:PySem.W.keepIn K (.ref ao)=true)
  (tV:PySem.W.findIn K (.ref ao) "item"=some none)
  (qP:PySem.W.findIn K (.ref ao) "behind"=some none)
  (LK:PySem.W.nsIn K mainGlobals "Later"=some (some (.ref aq)))
  (J_:PySem.W.plainGet K aq Str.empty=true)
  (K6:PySem.W.hasDictIn K aq=true)
  (J4:PySem.W.plainOver K aq=true)
  (J1:PySem.W.findIn K (.ref aq) "__setattr__"=some (some (.builtin "object.__setattr__")))
  (Ky:PySem.W.makesIn K aq=true)
  (KY:PySem.W.keepIn K (.ref aq)=true)
  (wU:PySem.W.findIn K (.ref aq) "tree"=some none)
  (vh:PySem.W.findIn K (.ref aq) "place"=some none)
  (Q6:PySem.W.nsIn K mainGlobals "Word"=some (some (.ref au)))
  (Py:PySem.W.plainGet K au Str.empty=true)
  (Qt:PySem.W.hasDictIn K au=true)
  (Pn:PySem.W.plainOver K au=true)
  (Pa:PySem.W.findIn K (.ref au) "__setattr__"=some (some (.builtin "object.__setattr__")))
  (Qc:PySem.W.makesIn K au=true)
  (Qo:PySem.W.keepIn K (.ref au)=true)
  (zf:PySem.W.findIn K (.ref au) "kind"=some none)
  (za:PySem.W.findIn K (.ref au) "load"=some none)
  (B_:PySem.W.findIn K (.ref au) "yes"=some none)
  (FJ:PySem.W.findIn K (.ref au) "no"=some none)
  (zj:PySem.W.findIn K (.ref au) "body"=some none)
  (yZ:PySem.W.findIn K (.ref au) "size"=some none)
  (Q8:PySem.W.nsIn K mainGlobals "Text"=some (some (.ref aK)))
  (PB:PySem.W.plainGet K aK Str.empty=true)
  (Qv:PySem.W.hasDictIn K aK=true)
  (Pu:PySem.W.plainOver K aK=true)
  (Pg:PySem.W.findIn K (.ref aK) "__setattr__"=some (some (.builtin "object.__setattr__")))
  (Qe:PySem.W.makesIn K aK=true)
  (Qq:PySem.W.keepIn K (.ref aK)=true)
  (zp:PySem.W.findIn K (.ref aK) "tree"=some none)
  (wR:PySem.W.findIn K (.ref aK) "words"=some none)
  (LQ:PySem.W.nsIn K mainGlobals "Going"=some (some (.ref aL)))
  (Ka:PySem.W.plainGet K aL Str.empty=true)
  (K7:PySem.W.hasDictIn K aL=true)
  (J5:PySem.W.plainOver K aL=true)
  (J2:PySem.W.findIn K (.ref aL) "__setattr__"=some (some (.builtin "object.__setattr__")))
  (Kz:PySem.W.makesIn K aL=true)
  (KZ:PySem.W.keepIn K (.ref aL)=true)
  (wV:PySem.W.findIn K (.ref aL) "text"=some none)
  (vm:PySem.W.findIn K (.ref aL) "place"=some none)
  (Q7:PySem.W.nsIn K mainGlobals "Walk"=some (some (.ref aJ)))
  (Pz:PySem.W.plainGet K aJ Str.empty=true)
  (Qu:PySem.W.hasDictIn K aJ=true)
  (Pq:PySem.W.plainOver K aJ=true)
  (Pb:PySem.W.findIn K (.ref aJ) "__setattr__"=some (some (.builtin "object.__setattr__")))
  (Qd:PySem.W.makesIn K aJ=true)
  (Qp:PySem.W.keepIn K (.ref aJ)=true)
  (vg:PySem.W.findIn K (.ref aJ) "goings"=some none)
  (wQ:PySem.W.findIn K (.ref aJ) "stack"=some none)
  (tU:PySem.W.findIn K (.ref aJ) "numbers"=some none)
  (zm:PySem.W.findIn K (.ref aJ) "left"=some none)
  (Cr:PySem.W.findIn K (.ref ao) "__eq__"=some (some (.builtin "object.__eq__")))
  (BR:PySem.W.mroIn K ao (.type "object")=some true)
  (Br:PySem.W.mroIn K ao (.type "tuple")=some false)
  (Bw:PySem.W.subIn K (.type "tuple") (.ref ao)=some false)
  (C_:PySem.W.findIn K (.ref ao) "__class__"=some (some (.builtin "object.__class__")))
  (K8:PySem.W.findIn K (.ref aq) "__eq__"=some (some (.builtin "object.__eq__")))
  (Ks:PySem.W.mroIn K aq (.type "object")=some true)
  (JB:PySem.W.mroIn K aq (.type "tuple")=some false)
  (J0:PySem.W.subIn K (.type "tuple") (.ref aq)=some false)
  (Lr:PySem.W.findIn K (.ref aq) "__class__"=some (some (.builtin "object.__class__")))
  (cn:PySem.W.specialIn K (.builtin "object.__class__") "__get__"=some (some (.builtin "getset_descriptor.__get__")))
  (ct:PySem.W.takesIn K (.builtin "object.__class__")=some true)
  (iTF:PySem.W.kitOne K (.type "tuple") (.ref ao)=some false)
  (iTL:PySem.W.kitOne K (.type "tuple") (.ref aq)=some false)
  (iFF:PySem.W.kitOne K (.ref ao) (.ref ao)=some true)
  (iLF:PySem.W.kitOne K (.ref aq) (.ref ao)=some false)
  (iLL:PySem.W.kitOne K (.ref aq) (.ref aq)=some true)
  (fJ:PySem.W.findIn K (.ref ao) "__init__"=some (some (.ref ig)))
  (o9:PySem.W.isFn K (.ref ig)=true)
  (o7:K.lookup ig=some ⟨Ed,Ec,.func (PySem.W.fnOf "__init__" "Fronted.__init__" (defArgs fC) (defBody fC) (defScope fC) .none Ef Ei Ea Ek tL Ej),DY⟩)
  (pD:PySem.W.codeIn K tL "Fronted.__init__"=true)
  (o8:PySem.W.keepIn K (.ref ig)=true)
  (gQ:PySem.W.findIn K (.ref aq) "__init__"=some (some (.ref jr)))
  (qW:PySem.W.isFn K (.ref jr)=true)
  (qQ:K.lookup jr=some ⟨Jd,Jb,.func (PySem.W.fnOf "__init__" "Later.__init__" (defArgs gO) (defBody gO) (defScope gO) .none Jf Ji IV Jm vH Jk),Iu⟩)
  (qZ:PySem.W.codeIn K vH "Later.__init__"=true)
  (qT:PySem.W.keepIn K (.ref jr)=true)
  (iC:PySem.W.findIn K (.ref au) "__init__"=some (some (.ref jV)))
  (sJ:PySem.W.isFn K (.ref jV)=true)
  (rZ:K.lookup jV=some ⟨Kp,Kl,.func (PySem.W.fnOf "__init__" "Word.__init__" (defArgs iw) (defBody iw) (defScope iw) .none K1 Lf J6 Lx xW Lj),JQ⟩)
  (sY:PySem.W.codeIn K xW "Word.__init__"=true)
  (sE:PySem.W.keepIn K (.ref jV)=true)
  (gF:PySem.W.findIn K (.ref au) "body_parts"=some (some (.ref iI)))
  (qj:PySem.W.isFn K (.ref iI)=true)
  (qg:K.lookup iI=some ⟨Fx,Fw,.func (PySem.W.fnOf "body_parts" "Word.body_parts" (defArgs gC) (defBody gC) (defScope gC) .none FZ Gj Fo GZ uY Gz),Ew⟩)
  (ql:PySem.W.codeIn K uY "Word.body_parts"=true)
  (kY:PySem.W.keepIn K (.ref iI)=true)
  (dI:PySem.W.findIn K (.ref aK) "__init__"=some (some (.ref jX)))
  (sS:PySem.W.isFn K (.ref jX)=true)
  (sy:K.lookup jX=some ⟨Kr,Ko,.func (PySem.W.fnOf "__init__" "Text.__init__" (defArgs iy) (defBody iy) (defScope iy) .none K4 Lh J8 Lz xY Ln),JT⟩)
  (tD:PySem.W.codeIn K xY "Text.__init__"=true)
  (sI:PySem.W.keepIn K (.ref jX)=true)
  (jf:PySem.W.findIn K (.ref aK) "word_at"=some (some (.ref lE)))
  (tY:PySem.W.isFn K (.ref lE)=true)
  (tX:K.lookup lE=some ⟨M_,M9,.func (PySem.W.fnOf "word_at" "Text.word_at" (defArgs jc) (defBody jc) (defScope jc) .none Nj Np MN Nt yO Nq),Mv⟩)
  (uo:PySem.W.codeIn K yO "Text.word_at"=true)
  (pU:PySem.W.keepIn K (.ref lE)=true)
  (dh:PySem.W.findIn K (.ref aL) "__init__"=some (some (.ref jt)))
  (qX:PySem.W.isFn K (.ref jt)=true)
  (qR:K.lookup jt=some ⟨Je,Jc,.func (PySem.W.fnOf "__init__" "Going.__init__" (defArgs gP) (defBody gP) (defScope gP) .none Jg Jj IW Jo vI Jl),Iw⟩)
  (q_:PySem.W.codeIn K vI "Going.__init__"=true)
  (qU:PySem.W.keepIn K (.ref jt)=true)
  (iD:PySem.W.findIn K (.ref aJ) "__init__"=some (some (.ref jW)))
  (sO:PySem.W.isFn K (.ref jW)=true)
  (su:K.lookup jW=some ⟨Kq,Km,.func (PySem.W.fnOf "__init__" "Walk.__init__" (defArgs gj) (defBody gj) (defScope gj) .none K3 Lg J7 Ly xX Lk),JR⟩)
  (sZ:PySem.W.codeIn K xX "Walk.__init__"=true)
  (sH:PySem.W.keepIn K (.ref jW)=true)
  (eZ:PySem.W.findIn K (.ref aJ) "at_end"=some (some (.ref ni)))
  (vp:PySem.W.isFn K (.ref ni)=true)
  (vo:K.lookup ni=some ⟨Qa,P_,.func (PySem.W.fnOf "at_end" "Walk.at_end" (defArgs jD) (defBody jD) (defScope jD) .none Qs QC Px QZ Bc QH),Ox⟩)
  (vA:PySem.W.codeIn K Bc "Walk.at_end"=true)
  (qN:PySem.W.keepIn K (.ref ni)=true)
  (iJ:PySem.W.findIn K (.ref aJ) "top"=some (some (.ref sV)))
  (Cp:PySem.W.isFn K (.ref sV)=true)
  (Cj:K.lookup sV=some ⟨Xo,Xn,.func (PySem.W.fnOf "top" "Walk.top" (defArgs pN) (defBody pN) (defScope pN) .none Xv Xx Xe XM Jx Xy),WY⟩)
  (Dc:PySem.W.codeIn K Jx "Walk.top"=true)
  (vL:PySem.W.keepIn K (.ref sV)=true)
  (gB:PySem.W.findIn K (.ref aJ) "tally"=some (some (.ref o_)))
  (xr:PySem.W.isFn K (.ref o_)=true)
  (wZ:K.lookup o_=some ⟨R6,R5,.func (PySem.W.fnOf "tally" "Walk.tally" (defArgs lq) (defBody lq) (defScope lq) .none R7 R8 RQ Sd DR R9),RJ⟩)
  (xZ:PySem.W.codeIn K DR "Walk.tally"=true)
  (sG:PySem.W.keepIn K (.ref o_)=true)
  (nT:PySem.W.findIn K (.ref aJ) "step"=some (some (.ref qI)))
  (zE:PySem.W.isFn K (.ref qI)=true)
  (zA:K.lookup qI=some ⟨UG,Uy,.func (PySem.W.fnOf "step" "Walk.step" (defArgs nH) (defBody nH) (defScope nH) .none Vl VJ Uj Wf GF V3),TY⟩)
  (zN:PySem.W.codeIn K GF "Walk.step"=true)
  (uG:PySem.W.keepIn K (.ref qI)=true)
  (nU:PySem.W.findIn K (.ref aJ) "move"=some (some (.ref qJ)))
  (zF:PySem.W.isFn K (.ref qJ)=true)
  (zB:K.lookup qJ=some ⟨UJ,Uz,.func (PySem.W.fnOf "move" "Walk.move" (defArgs nJ) (defBody nJ) (defScope nJ) .none Vm VL Uk Wg GJ V4),T3⟩)
  (zO:PySem.W.codeIn K GJ "Walk.move"=true)
  (uH:PySem.W.keepIn K (.ref qJ)=true)
  (Gg:PySem.W.nsIn K mainGlobals "FORK_NO"=some (some lU))
  (lV:RelV (.int 8) lU)
  (Cy:PySem.W.nsIn K mainGlobals "FORK_YES"=some (some jL))
  (jQ:RelV (.int 7) jL)
  (xG:PySem.W.nsIn K mainGlobals "WHILE_PAST"=some (some n_))
  (oV:RelV (.int 10) n_)
  (xH:PySem.W.nsIn K mainGlobals "WHILE_INTO"=some (some gY))
  (gZ:RelV (.int 9) gY)
  (Ge:PySem.W.nsIn K mainGlobals "NO_WORD"=some (some uL))
  (uR:RelV (.int 11) uL)
  (VB:PySem.W.nsIn K mainGlobals "DROP"=some (some Ep))
  (Fg:RelV (.int 1) Ep)
  (Vu:PySem.W.nsIn K mainGlobals "SWAP"=some (some Em))
  (Fb:RelV (.int 3) Em)
  (Qz:PySem.W.nsIn K mainGlobals "FRONT"=some (some Ag))
  (Al:RelV (.int 4) Ag)
  (Vw:PySem.W.nsIn K mainGlobals "PART"=some (some En))
  (Fd:RelV (.int 5) En)
  (Vt:PySem.W.nsIn K mainGlobals "TURN"=some (some El))
  (E_:RelV (.int 6) El)
  (K_:PySem.W.nsIn K mainGlobals "PLACES"=some (some v8))
  (wI:RelV (.int 15) v8)
  (Lb:PySem.W.nsIn K mainGlobals "BODIES"=some (some v9))
  (wJ:RelV (.int 14) v9)
  (Qy:PySem.W.nsIn K mainGlobals "LOOKS"=some (some (.ref uz)))
  (Qn:K.lookup uz=some YC)
  (Oh:jA YC [.int 0,.int 1,.int 1,.int 2,.int 2,.int 1,.int 3,.int 1,.int 1,.int 1,.int 1,.int 0,.int 0])
  (Qx:PySem.W.nsIn K mainGlobals "NAMES"=some (some (.ref p8)))
  (Ij:K.lookup p8=some Ib)
  (N8:jA Ib [.str (PySem.Str.ofString "lay"),.str (PySem.Str.ofString "drop"),.str (PySem.Str.ofString "twin"),.str (PySem.Str.ofString "swap"),.str (PySem.Str.ofString "front"),.str (PySem.Str.ofString "part"),.str (PySem.Str.ofString "turn"),.str (PySem.Str.ofString "fork"),.str (PySem.Str.ofString "while")])
  (N_:Ib.cls=.type "tuple"∧Ib.dict=none)
  (Cv:PySem.W.nsIn K mainGlobals "NAMELESS"=some (some jK))
  (jP:RelV (.int 9) jK)
  (Vy:PySem.W.nsIn K mainGlobals "FORK"=some (some jM))
  (jR:RelV (.int 7) jM)
  (Qw:PySem.W.nsIn K mainGlobals "WHILE"=some (some dJ))
  (dM:RelV (.int 8) dJ)
  (aap:PySem.W.nsIn K mainGlobals "LAY"=some (some yG))
  (yH:RelV (.int 0) yG)
  (Vx:PySem.W.nsIn K mainGlobals "LAID"=some (some Eo))
  (Fe:RelV (.str (PySem.Str.ofString "turn turn front turn turn front swap")) Eo)
  (vq:PySem.W.nsIn K mainGlobals "TOP_REACHED"=some (some gG))
  (gH:RelV (.str (PySem.Str.ofString "turn turn front turn part")) gG)
  (Gf:PySem.W.nsIn K mainGlobals "INTO_NO"=some (some uM))
  (uT:RelV (.str (PySem.Str.ofString "front swap turn part drop front")) uM)
  (Cw:PySem.W.nsIn K mainGlobals "INTO_YES"=some (some rN))
  (rR:RelV (.str (PySem.Str.ofString "front swap turn part swap drop front")) rN)
  (tZ:PySem.W.nsIn K mainGlobals "STACK_PARTED"=some (some k_))
  (lu:RelV (.str (PySem.Str.ofString "drop front swap part")) k_)
  (K9:PySem.W.nsIn K mainGlobals "WORKED"=some (some (.ref iH)))
  (KQ:K.lookup iH=some UW)
  (JF:jA UW [.str (PySem.Str.ofString ""),.str (PySem.Str.ofString "drop"),.str (PySem.Str.ofString "twin turn swap front swap front"),.str (PySem.Str.ofString "swap part swap turn front swap front"),.str (PySem.Str.ofString "swap part turn front front"),.str (PySem.Str.ofString "part turn turn front swap front"),.str (PySem.Str.ofString "swap part swap part swap turn front turn front swap front")])
  (zG:PySem.W.nsIn K mainGlobals "PAST_BODY"=some (some qw))
  (qz:RelV (.str (PySem.Str.ofString "front turn drop swap")) qw)
  (zH:PySem.W.nsIn K mainGlobals "INTO_BODY"=some (some qx))
  (qC:RelV (.str (PySem.Str.ofString "front swap turn part swap twin turn front turn part turn front front swap front")) qx)
  (La:PySem.W.nsIn K mainGlobals "COPIED"=some (some jg))
  (iG:RelV (.int 13) jg)
  (Vs:PySem.W.nsIn K mainGlobals "TWIN"=some (some oh))
  (mY:RelV (.int 2) oh)
  (Ld:PySem.W.nsIn K mainGlobals "ALWAYS"=some (some (.ref pH)))
  (KR:K.lookup pH=some U0)
  (JG:jA U0 [.int 2,.int 2,.int 0,.int 1,.int 2,.int 2,.int 2,.int 0,.int 0,.int 0,.int 1,.int 0,.int 1,.int 0,.int 0])
  (Vz:PySem.W.nsIn K mainGlobals "EACH"=some (some (.ref u9)))
  (Vk:K.lookup u9=some abV)
  (Tf:jA abV [.ref bE0,.ref bE1,.ref bE2,.ref bE3,.ref bE4,.ref bE5,.ref bE6,.ref bE7,.ref bE8,.ref bE9,.ref aen,.ref aem,.ref ael,.ref aek,.ref aej])
  (lE0:K.lookup bE0=some oE0) (tE0:jA oE0 [.int 0,.int 1,.int 0,.int 1,.int 2,.int 3,.int 4,.int 1,.int 1,.int 1,.int 0,.int 0,.int 3,.int 0,.int 1169])
  (lE1:K.lookup bE1=some oE1) (tE1:jA oE1 [.int 0,.int 4,.int 0,.int 3,.int 1,.int 5,.int 0,.int 2,.int 1,.int 1,.int 0,.int 0,.int 4,.int 0,.int 1169])
  (lE2:K.lookup bE2=some oE2) (tE2:jA oE2 [.int 0,.int 4,.int 1,.int 6,.int 3,.int 6,.int 1,.int 3,.int 1,.int 1,.int 0,.int 0,.int 5,.int 0,.int 1169])
  (lE3:K.lookup bE3=some oE3) (tE3:jA oE3 [.int 0,.int 5,.int 0,.int 8,.int 3,.int 8,.int 1,.int 4,.int 1,.int 1,.int 0,.int 0,.int 6,.int 0,.int 1169])
  (lE4:K.lookup bE4=some oE4) (tE4:jA oE4 [.int 0,.int 6,.int 0,.int 7,.int 3,.int 9,.int 1,.int 5,.int 1,.int 1,.int 0,.int 0,.int 7,.int 0,.int 1169])
  (lE5:K.lookup bE5=some oE5) (tE5:jA oE5 [.int 0,.int 7,.int 0,.int 8,.int 3,.int 10,.int 2,.int 6,.int 1,.int 1,.int 0,.int 0,.int 8,.int 0,.int 1169])
  (lE6:K.lookup bE6=some oE6) (tE6:jA oE6 [.int 0,.int 8,.int 0,.int 12,.int 4,.int 12,.int 2,.int 7,.int 1,.int 1,.int 0,.int 0,.int 9,.int 0,.int 1169])
  (lE7:K.lookup bE7=some oE7) (tE7:jA oE7 [.int 0,.int 9,.int 0,.int 9,.int 3,.int 12,.int 4,.int 9,.int 1,.int 1,.int 0,.int 0,.int 11,.int 0,.int 1169])
  (lE8:K.lookup bE8=some oE8) (tE8:jA oE8 [.int 0,.int 9,.int 0,.int 8,.int 3,.int 12,.int 4,.int 8,.int 2,.int 1,.int 0,.int 0,.int 11,.int 0,.int 1169])
  (lE9:K.lookup bE9=some oE9) (tE9:jA oE9 [.int 0,.int 0,.int 1,.int 19,.int 15,.int 14,.int 7,.int 10,.int 1,.int 1,.int 0,.int 0,.int 12,.int 0,.int 1169])
  (adW:K.lookup aen=some ag3) (ac9:jA ag3 [.int 0,.int 1,.int 0,.int 17,.int 11,.int 12,.int 4,.int 9,.int 2,.int 1,.int 0,.int 0,.int 12,.int 0,.int 1169])
  (adV:K.lookup aem=some ag2) (ac8:jA ag2 [.int 0,.int 10,.int 0,.int 8,.int 1,.int 11,.int 0,.int 10,.int 0,.int 1,.int 0,.int 0,.int 11,.int 0,.int 1169])
  (adU:K.lookup ael=some ag1) (ac7:jA ag1 [.int 0,.int 1,.int 0,.int 0,.int 0,.int 1,.int 0,.int 0,.int 1,.int 1,.int 0,.int 0,.int 2,.int 0,.int 1169])
  (adT:K.lookup aek=some ag0) (ac6:jA ag0 [.int 0,.int 0,.int 0,.int 0,.int 0,.int 0,.int 0,.int 0,.int 0,.int 0,.int 0,.int 0,.int 0,.int 1,.int 0])
  (adS:K.lookup aej=some agZ) (ac5:jA agZ [.int 0,.int 0,.int 0,.int 0,.int 0,.int 0,.int 0,.int 0,.int 0,.int 0,.int 0,.int 0,.int 0,.int 1,.int 0])
  (xJ:PySem.W.nsIn K mainGlobals "KNOT_WORDS"=some (some (.ref jz)))
  (xg:K.lookup jz=some Fy)
  (wg:jA Fy [.int 3,.int 0,.int 1,.int 2,.int 4,.int 0,.int 0,.int 0,.int 0,.int 0,.int 0,.int 0,.int 0,.int 0,.int 0])
  (Vv:PySem.W.nsIn K mainGlobals "SHUT"=some (some ou))
  (oW:RelV (.int 12) ou)
  (Zc:PySem.W.nsIn K mainGlobals "min"=some none) (Zd:PySem.W.nsIn K mainGlobals "len"=some none) (N6:PySem.W.nsIn K mainGlobals "tuple"=some none) (Bl:PySem.W.nsIn K mainGlobals "reversed"=some none) (N7:PySem.W.nsIn K mainGlobals "range"=some none) (Zb:PySem.W.nsIn K mainGlobals "sum"=some none) (Za:PySem.W.nsIn K mainGlobals "zip"=some none) (S_:PySem.W.nsIn K mainGlobals "list"=some none) (vY:PySem.W.nsIn K mainGlobals "isinstance"=some none) (Tc:PySem.W.nsIn K mainGlobals "bool"=some none) (Ze:PySem.W.nsIn K mainGlobals "int"=some none) (Zf:PySem.W.nsIn K mainGlobals "all"=some none) :
  ∃ fd:FuncData,(∀ (s:Shared) (v:Value),BindsTo s fd ⟨[v],[]⟩ [("_law_script",v)])∧∀ base:Heap,K.In base→base.Ns mainGlobals mg→FnOk l.prog w K mg base CX0 60 fa fd ["_law_script"] (spLaw K):=by
 have e:=hfa.symm.trans (PySem.W.mg_of X G a51)
 cases e
 have F1:=fun_mk (st:=nD) l1 c1 k1
 have F2:=fun_mk (st:=uQ) l2 c2 k2
 have F3:=fun_mk (st:=rC) l3 c3 k3
 have F4:=fun_mk (st:=oJ) l4 c4 k4
 have F5:=fun_mk (st:=oN) l5 c5 k5
 have F6:=fun_mk (st:=uF) l6 c6 k6
 have F7:=fun_mk (st:=tO) l7 c7 k7
 have F8:=fun_mk (st:=qy) l8 c8 k8
 have F9:=fun_mk (st:=wD) l9 c9 k9
 have F10:=fun_mk (st:=dR) l10 c10 k10
 have F11:=fun_mk (st:=jj) l11 c11 k11
 have F12:=fun_mk (st:=oM) l12 c12 k12
 have F13:=fun_mk (st:=j8) l13 c13 k13
 have F14:=fun_mk (st:=oH) l14 c14 k14
 have F15:=fun_mk (st:=oR) l15 c15 k15
 have F16:=fun_mk (st:=oO) l16 c16 k16
 have F17:=fun_mk (st:=ji) l17 c17 k17
 have F18:=fun_mk (st:=gb) l18 c18 k18
 have F19:=fun_mk (st:=rD) l19 c19 k19
 have F20:=fun_mk (st:=jO) l20 c20 k20
 have F21:=fun_mk (st:=wG) l21 c21 k21
 have F22:=fun_mk (st:=pL) l22 c22 k22
 have F23:=fun_mk (st:=oG) l23 c23 k23
 have F24:=fun_mk (st:=mj) l24 c24 k24
 have F25:=fun_mk (st:=j7) l25 c25 k25
 have F26:=fun_mk (st:=mq) l26 c26 k26
 have F27:=fun_mk (st:=wF) l27 c27 k27
 have F28:=fun_mk (st:=iM) l28 c28 k28
 have F29:=fun_mk (st:=mF) l29 c29 k29
 have F30:=fun_mk (st:=jk) l30 c30 k30
 have F31:=fun_mk (st:=mC) l31 c31 k31
 have F32:=fun_mk (st:=oK) l32 c32 k32
 have F33:=fun_mk (st:=tQ) l33 c33 k33
 have F34:=fun_mk (st:=iK) l34 c34 k34
 have F35:=fun_mk (st:=gM) l35 c35 k35
 have F36:=fun_mk (st:=oU) l36 c36 k36
 have F37:=fun_mk (st:=BJ) l37 c37 k37
 have F38:=fun_mk (st:=lZ) l38 c38 k38
 have F39:=fun_mk (st:=oF) l39 c39 k39
 have F40:=fun_mk (st:=wC) l40 c40 k40
 have F41:=fun_mk (st:=iR) l41 c41 k41
 have F42:=fun_mk (st:=gU) l42 c42 k42
 have F43:=fun_mk (st:=gR) l43 c43 k43
 have F44:=fun_mk (st:=eV) l44 c44 k44
 have F45:=fun_mk (st:=nF) l45 c45 k45
 have F46:=fun_mk (st:=iQ) l46 c46 k46
 have F47:=fun_mk (st:=jl) l47 c47 k47
 have F48:=fun_mk (st:=mH) l48 c48 k48
 have F49:=fun_mk (st:=jm) l49 c49 k49
 have F50:=fun_mk (st:=jo) l50 c50 k50
 have F51:=fun_mk (st:=rP) l51 c51 k51
 have b1:=F1.binds (ps:=["tree"]) fun _ _ _ _ _ _ us hl=>match us,hl with | [_],_=>rfl
 have m1:=PySem.W.mg_of X G a1
 have b2:=F2.binds (ps:=["tree"]) fun _ _ _ _ _ _ us hl=>match us,hl with | [_],_=>rfl
 have m2:=PySem.W.mg_of X G a2
 have b3:=F3.binds (ps:=["tree"]) fun _ _ _ _ _ _ us hl=>match us,hl with | [_],_=>rfl
 have m3:=PySem.W.mg_of X G a3
 have b4:=F4.binds (ps:=["word"]) fun _ _ _ _ _ _ us hl=>match us,hl with | [_],_=>rfl
 have m4:=PySem.W.mg_of X G a4
 have b5:=F5.binds (ps:=["word"]) fun _ _ _ _ _ _ us hl=>match us,hl with | [_],_=>rfl
 have m5:=PySem.W.mg_of X G a5
 have b6:=F6.binds (ps:=["tree"]) fun _ _ _ _ _ _ us hl=>match us,hl with | [_],_=>rfl
 have m6:=PySem.W.mg_of X G a6
 have b7:=F7.binds (ps:=["sort"]) fun _ _ _ _ _ _ us hl=>match us,hl with | [_],_=>rfl
 have m7:=PySem.W.mg_of X G a7
 have b8:=F8.binds (ps:=["yes","no"]) fun _ _ _ _ _ _ us hl=>match us,hl with | [_,_],_=>rfl
 have m8:=PySem.W.mg_of X G a8
 have b9:=F9.binds (ps:=["body"]) fun _ _ _ _ _ _ us hl=>match us,hl with | [_],_=>rfl
 have m9:=PySem.W.mg_of X G a9
 have b10:=F10.binds (ps:=["names"]) fun _ _ _ _ _ _ us hl=>match us,hl with | [_],_=>rfl
 have m10:=PySem.W.mg_of X G a10
 have b11:=F11.binds (ps:=[]) fun _ _ _ _ _ _ us hl=>match us,hl with | [],_=>rfl
 have m11:=PySem.W.mg_of X G a11
 have b12:=F12.binds (ps:=[]) fun _ _ _ _ _ _ us hl=>match us,hl with | [],_=>rfl
 have m12:=PySem.W.mg_of X G a12
 have b13:=F13.binds (ps:=[]) fun _ _ _ _ _ _ us hl=>match us,hl with | [],_=>rfl
 have m13:=PySem.W.mg_of X G a13
 have b14:=F14.binds (ps:=[]) fun _ _ _ _ _ _ us hl=>match us,hl with | [],_=>rfl
 have m14:=PySem.W.mg_of X G a14
 have b15:=F15.binds (ps:=[]) fun _ _ _ _ _ _ us hl=>match us,hl with | [],_=>rfl
 have m15:=PySem.W.mg_of X G a15
 have b16:=F16.binds (ps:=["sort"]) fun _ _ _ _ _ _ us hl=>match us,hl with | [_],_=>rfl
 have m16:=PySem.W.mg_of X G a16
 have b17:=F17.binds (ps:=[]) fun _ _ _ _ _ _ us hl=>match us,hl with | [],_=>rfl
 have m17:=PySem.W.mg_of X G a17
 have b18:=F18.binds (ps:=[]) fun _ _ _ _ _ _ us hl=>match us,hl with | [],_=>rfl
 have m18:=PySem.W.mg_of X G a18
 have b19:=F19.binds (ps:=["text","tree"]) fun _ _ _ _ _ _ us hl=>match us,hl with | [_,_],_=>rfl
 have m19:=PySem.W.mg_of X G a19
 have b20:=F20.binds (ps:=["sort","top"]) fun _ _ _ _ _ _ us hl=>match us,hl with | [_,_],_=>rfl
 have m20:=PySem.W.mg_of X G a20
 have b21:=F21.binds (ps:=["tally"]) fun _ _ _ _ _ _ us hl=>match us,hl with | [_],_=>rfl
 have m21:=PySem.W.mg_of X G a21
 have b22:=F22.binds (ps:=["one","other"]) fun _ _ _ _ _ _ us hl=>match us,hl with | [_,_],_=>rfl
 have m22:=PySem.W.mg_of X G a22
 have b23:=F23.binds (ps:=["tally"]) fun _ _ _ _ _ _ us hl=>match us,hl with | [_],_=>rfl
 have m23:=PySem.W.mg_of X G a23
 have b24:=F24.binds (ps:=["body"]) fun _ _ _ _ _ _ us hl=>match us,hl with | [_],_=>rfl
 have m24:=PySem.W.mg_of X G a24
 have b25:=F25.binds (ps:=[]) fun _ _ _ _ _ _ us hl=>match us,hl with | [],_=>rfl
 have m25:=PySem.W.mg_of X G a25
 have b26:=F26.binds (ps:=[]) fun _ _ _ _ _ _ us hl=>match us,hl with | [],_=>rfl
 have m26:=PySem.W.mg_of X G a26
 have b27:=F27.binds (ps:=["text"]) fun _ _ _ _ _ _ us hl=>match us,hl with | [_],_=>rfl
 have m27:=PySem.W.mg_of X G a27
 have b28:=F28.binds (ps:=["text"]) fun _ _ _ _ _ _ us hl=>match us,hl with | [_],_=>rfl
 have m28:=PySem.W.mg_of X G a28
 have b29:=F29.binds (ps:=["own_made"]) fun _ _ _ _ _ _ us hl=>match us,hl with | [_],_=>rfl
 have m29:=PySem.W.mg_of X G a29
 have b30:=F30.binds (ps:=["text","one","other"]) fun _ _ _ _ _ _ us hl=>match us,hl with | [_,_,_],_=>rfl
 have m30:=PySem.W.mg_of X G a30
 have b31:=F31.binds (ps:=["row"]) fun _ _ _ _ _ _ us hl=>match us,hl with | [_],_=>rfl
 have m31:=PySem.W.mg_of X G a31
 have b32:=F32.binds (ps:=["row"]) fun _ _ _ _ _ _ us hl=>match us,hl with | [_],_=>rfl
 have m32:=PySem.W.mg_of X G a32
 have b33:=F33.binds (ps:=["tree","place"]) fun _ _ _ _ _ _ us hl=>match us,hl with | [_,_],_=>rfl
 have m33:=PySem.W.mg_of X G a33
 have b34:=F34.binds (ps:=["row"]) fun _ _ _ _ _ _ us hl=>match us,hl with | [_],_=>rfl
 have m34:=PySem.W.mg_of X G a34
 have b35:=F35.binds (ps:=["row","most"]) fun _ _ _ _ _ _ us hl=>match us,hl with | [_,_],_=>rfl
 have m35:=PySem.W.mg_of X G a35
 have b36:=F36.binds (ps:=["row"]) fun _ _ _ _ _ _ us hl=>match us,hl with | [_],_=>rfl
 have m36:=PySem.W.mg_of X G a36
 have b37:=F37.binds (ps:=["text","tree","budget"]) fun _ _ _ _ _ _ us hl=>match us,hl with | [_,_,_],_=>rfl
 have m37:=PySem.W.mg_of X G a37
 have b38:=F38.binds (ps:=["text","tree","budget"]) fun _ _ _ _ _ _ us hl=>match us,hl with | [_,_,_],_=>rfl
 have m38:=PySem.W.mg_of X G a38
 have b39:=F39.binds (ps:=["stand","budget"]) fun _ _ _ _ _ _ us hl=>match us,hl with | [_,_],_=>rfl
 have m39:=PySem.W.mg_of X G a39
 have b40:=F40.binds (ps:=["step","load","stack"]) fun _ _ _ _ _ _ us hl=>match us,hl with | [_,_,_],_=>rfl
 have m40:=PySem.W.mg_of X G a40
 have b41:=F41.binds (ps:=["_law_script"]) fun _ _ _ _ _ _ us hl=>match us,hl with | [_],_=>rfl
 have m41:=PySem.W.mg_of X G a41
 have b42:=F42.binds (ps:=["_law_deck_here","_law_many"]) fun _ _ _ _ _ _ us hl=>match us,hl with | [_,_],_=>rfl
 have m42:=PySem.W.mg_of X G a42
 have b43:=F43.binds (ps:=["_law_deck_here","_law_deep"]) fun _ _ _ _ _ _ us hl=>match us,hl with | [_,_],_=>rfl
 have m43:=PySem.W.mg_of X G a43
 have b44:=F44.binds (ps:=["_law_many"]) fun _ _ _ _ _ _ us hl=>match us,hl with | [_],_=>rfl
 have m44:=PySem.W.mg_of X G a44
 have b45:=F45.binds (ps:=["_law_deck_here","_law_deep"]) fun _ _ _ _ _ _ us hl=>match us,hl with | [_,_],_=>rfl
 have m45:=PySem.W.mg_of X G a45
 have b46:=F46.binds (ps:=["_law_deck_here","_law_deep"]) fun _ _ _ _ _ _ us hl=>match us,hl with | [_,_],_=>rfl
 have m46:=PySem.W.mg_of X G a46
 have b47:=F47.binds (ps:=["_law_found"]) fun _ _ _ _ _ _ us hl=>match us,hl with | [_],_=>rfl
 have m47:=PySem.W.mg_of X G a47
 have b48:=F48.binds (ps:=["_law_tree_here"]) fun _ _ _ _ _ _ us hl=>match us,hl with | [_],_=>rfl
 have m48:=PySem.W.mg_of X G a48
 have b49:=F49.binds (ps:=["_law_sort"]) fun _ _ _ _ _ _ us hl=>match us,hl with | [_],_=>rfl
 have m49:=PySem.W.mg_of X G a49
 have b50:=F50.binds (ps:=["_law_deck_here"]) fun _ _ _ _ _ _ us hl=>match us,hl with | [_],_=>rfl
 have m50:=PySem.W.mg_of X G a50
 have Z7:=PySem.W.mg_none_of X G Zc
 have fM:=PySem.W.mg_none_of X G Zd
 have cF:=PySem.W.mg_none_of X G N6
 have mK:=PySem.W.mg_none_of X G Bl
 have je:=PySem.W.mg_none_of X G N7
 have Ig:=PySem.W.mg_none_of X G Zb
 have Ie:=PySem.W.mg_none_of X G Za
 have Ax:=PySem.W.mg_none_of X G S_
 have bO:=PySem.W.mg_none_of X G vY
 have U9:=PySem.W.mg_none_of X G Tc
 have Z9:=PySem.W.mg_none_of X G Ze
 have aad:=PySem.W.mg_none_of X G Zf
 have dW:=PySem.W.mg_of X G Du
 have jG:=PySem.W.mg_of X G LK
 have Vb:=PySem.W.mg_of X G Q6
 have uW:=PySem.W.mg_of X G Q8
 have rE:=PySem.W.mg_of X G LQ
 have Vc:=PySem.W.mg_of X G Q7
 have O:Own K ao aq au aK aL aJ:=⟨⟨⟨BL,Cq,BK,Bx⟩,Cr,BR,Br,Bw,C_,cn,ct⟩,⟨⟨J_,K6,J4,J1⟩,K8,Ks,JB,J0,Lr,cn,ct⟩,⟨Py,Qt,Pn,Pa⟩,⟨PB,Qv,Pu,Pg⟩,⟨Ka,K7,J5,J2⟩,⟨Pz,Qu,Pq,Pb⟩,tV,qP,wU,vh,zf,za,B_,FJ,zj,yZ,zp,wR,wV,vm,vg,wQ,tU,zm,iTF,iTL,iFF,iLF,iLL⟩
 have vf:=fun_mk (st:=fC) o7 pD o8
 have pG:=vf.binds (ps:=["self","item","behind"]) fun _ _ _ _ _ _ us hl=>match us,hl with | [_,_,_],_=>rfl
 have Dw:Mk K ao ig:=⟨Ca,fJ,o9,Cm⟩
 have yC:=fun_mk (st:=gO) qQ qZ qT
 have rm:=yC.binds (ps:=["self","tree","place"]) fun _ _ _ _ _ _ us hl=>match us,hl with | [_,_,_],_=>rfl
 have Mf:Mk K aq jr:=⟨Ky,gQ,qW,KY⟩
 have yR:=fun_mk (st:=iw) rZ sY sE
 have tE:=yR.binds (ps:=["self","tree"]) fun _ _ _ _ _ _ us hl=>match us,hl with | [_,_],_=>rfl
 have Q_:Mk K au jV:=⟨Qc,iC,sJ,Qo⟩
 have vJ:=fun_mk (st:=gC) qg ql kY
 have qm:=vJ.binds (ps:=["self"]) fun _ _ _ _ _ _ us hl=>match us,hl with | [_],_=>rfl
 have qp:Meth K au "body_parts" iI:=⟨gF,qj,kY⟩
 have yU:=fun_mk (st:=iy) sy tD sI
 have eF:=yU.binds (ps:=["self","tree"]) fun _ _ _ _ _ _ us hl=>match us,hl with | [_,_],_=>rfl
 have rM:Mk K aK jX:=⟨Qe,dI,sS,Qq⟩
 have Bj:=fun_mk (st:=jc) tX uo pU
 have uq:=Bj.binds (ps:=["self","place"]) fun _ _ _ _ _ _ us hl=>match us,hl with | [_,_],_=>rfl
 have uE:Meth K aK "word_at" lE:=⟨jf,tY,pU⟩
 have yD:=fun_mk (st:=gP) qR q_ qU
 have dX:=yD.binds (ps:=["self","text"]) fun _ _ _ _ _ _ us hl=>match us,hl with | [_,_],_=>rfl
 have pI:Mk K aL jt:=⟨Kz,dh,qX,KZ⟩
 have yS:=fun_mk (st:=gj) su sZ sH
 have tG:=yS.binds (ps:=["self","stand","budget"]) fun _ _ _ _ _ _ us hl=>match us,hl with | [_,_,_],_=>rfl
 have Ra:Mk K aJ jW:=⟨Qd,iD,sO,Qp⟩
 have DX:=fun_mk (st:=jD) vo vA qN
 have jH:=DX.binds (ps:=["self"]) fun _ _ _ _ _ _ us hl=>match us,hl with | [_],_=>rfl
 have jJ:Meth K aJ "at_end" ni:=⟨eZ,vp,qN⟩
 have NT:=fun_mk (st:=pN) Cj Dc vL
 have mR:=NT.binds (ps:=["self"]) fun _ _ _ _ _ _ us hl=>match us,hl with | [_],_=>rfl
 have mW:Meth K aJ "top" sV:=⟨iJ,Cp,vL⟩
 have Hw:=fun_mk (st:=lq) wZ xZ sG
 have lK:=Hw.binds (ps:=["self"]) fun _ _ _ _ _ _ us hl=>match us,hl with | [_],_=>rfl
 have lO:Meth K aJ "tally" o_:=⟨gB,xr,sG⟩
 have Jy:=fun_mk (st:=nH) zA zN uG
 have zT:=Jy.binds (ps:=["self"]) fun _ _ _ _ _ _ us hl=>match us,hl with | [_],_=>rfl
 have zZ:Meth K aJ "step" qI:=⟨nT,zE,uG⟩
 have Jz:=fun_mk (st:=nJ) zB zO uH
 have zU:=Jz.binds (ps:=["self","step","going","word"]) fun _ _ _ _ _ _ us hl=>match us,hl with | [_,_,_,_],_=>rfl
 have z_:Meth K aJ "move" qJ:=⟨nU,zF,uH⟩
 have rG:=PySem.W.mg_of X G Gg
 have pR:=PySem.W.mg_of X G Cy
 have wX:=PySem.W.mg_of X G xG
 have lD:=PySem.W.mg_of X G xH
 have FQ:=PySem.W.mg_of X G Ge
 have Vi:=PySem.W.mg_of X G VB
 have Ve:=PySem.W.mg_of X G Vu
 have Ql:=PySem.W.mg_of X G Qz
 have Vf:=PySem.W.mg_of X G Vw
 have Vd:=PySem.W.mg_of X G Vt
 have KH:=PySem.W.mg_of X G K_
 have KJ:=PySem.W.mg_of X G Lb
 have Qk:=PySem.W.mg_of X G Qy
 have Pk:=fun H=>Oh.sq (H:=H) Qn
 have Qj:=PySem.W.mg_of X G Qx
 have Pj:=fun H=>N8.sq (H:=H) Ij
 have Og:∃ ob,K.lookup p8=some ob∧ob.cls=.type "tuple"∧ob.dict=none:=⟨_,Ij,N_⟩
 have pQ:=PySem.W.mg_of X G Cv
 have m_:=PySem.W.mg_of X G Vy
 have eG:=PySem.W.mg_of X G Qw
 have Ii:=PySem.W.mg_of X G aap
 have Vg:=PySem.W.mg_of X G Vx
 have jF:=PySem.W.mg_of X G vq
 have FW:=PySem.W.mg_of X G Gf
 have Cg:=PySem.W.mg_of X G Cw
 have tW:=PySem.W.mg_of X G tZ
 have KD:=PySem.W.mg_of X G K9
 have oX:=fun H=>JF.sq (H:=H) KQ
 have zx:=PySem.W.mg_of X G zG
 have zy:=PySem.W.mg_of X G zH
 have j_:=PySem.W.mg_of X G La
 have qG:=PySem.W.mg_of X G Vs
 have KN:=PySem.W.mg_of X G Ld
 have J3:=fun H=>JG.sq (H:=H) KR
 have Vh:=PySem.W.mg_of X G Vz
 have Fl:=fun H=>Tf.sq (H:=H) Vk
 have Fl:∀ H,aeL K H u9 vN:=fun H=>⟨_,Fl H,.cons ⟨bE0,rfl,tE0.sq lE0⟩ (.cons ⟨bE1,rfl,tE1.sq lE1⟩ (.cons ⟨bE2,rfl,tE2.sq lE2⟩ (.cons ⟨bE3,rfl,tE3.sq lE3⟩ (.cons ⟨bE4,rfl,tE4.sq lE4⟩ (.cons ⟨bE5,rfl,tE5.sq lE5⟩ (.cons ⟨bE6,rfl,tE6.sq lE6⟩ (.cons ⟨bE7,rfl,tE7.sq lE7⟩ (.cons ⟨bE8,rfl,tE8.sq lE8⟩ (.cons ⟨bE9,rfl,tE9.sq lE9⟩ (.cons ⟨aen,rfl,ac9.sq adW⟩ (.cons ⟨aem,rfl,ac8.sq adV⟩ (.cons ⟨ael,rfl,ac7.sq adU⟩ (.cons ⟨aek,rfl,ac6.sq adT⟩ (.cons ⟨aej,rfl,ac5.sq adS⟩ (.nil)))))))))))))))⟩
 have wY:=PySem.W.mg_of X G xJ
 have wO:=fun H=>wg.sq (H:=H) xg
 have rY:=PySem.W.mg_of X G Vv
 refine⟨PySem.W.fnOf "law" "law" (defArgs rP) (defBody rP) (defScope rP) .none ahh ahC agD aiu aee ahD,fun s v=>.of_eq rfl,fun base _ _=>?_⟩
 have O1:=adI (P:=l.prog) (w:=w) (mg:=mg) (base:=base) F1
 have O2:=aft (P:=l.prog) (w:=w) (mg:=mg) (base:=base) F2
 have O3:=adG (P:=l.prog) (w:=w) (mg:=mg) (base:=base) F3
 have O6:=agU (P:=l.prog) (w:=w) (mg:=mg) (base:=base) F6
 have O7:=adF (P:=l.prog) (w:=w) (mg:=mg) (base:=base) F7
 have O8:=afw (P:=l.prog) (w:=w) (mg:=mg) (base:=base) m_ jR F8
 have O9:=afu (P:=l.prog) (w:=w) (mg:=mg) (base:=base) eG dM F9
 have O19:=adJ (P:=l.prog) (w:=w) (mg:=mg) (base:=base) F19
 have O20:=Xh (P:=l.prog) (w:=w) (mg:=mg) (base:=base) O m_ jR rG lV pR jQ eG dM wX oV lD gZ pQ jP FQ uR F20
 have O21:=afx (P:=l.prog) (w:=w) (mg:=mg) (base:=base) Ig j_ iG qG mY F21
 have O22:=adK (P:=l.prog) (w:=w) (mg:=mg) (base:=base) cF Ie F22
 have O34:=Uq (P:=l.prog) (w:=w) (mg:=mg) (base:=base) O bO jG F34
 have O42:=Uu (P:=l.prog) (w:=w) (mg:=mg) (base:=base) fM F42
 have O44:=PX (P:=l.prog) (w:=w) (mg:=mg) (base:=base) F44
 have O47:=RZ (P:=l.prog) (w:=w) (mg:=mg) (base:=base) bO U9 Z9 F47
 have O48:=Xl (P:=l.prog) (w:=w) (mg:=mg) (base:=base) F48
 have Hr:=Eb (P:=l.prog) (w:=w) (mg:=mg) (base:=base) O vf
 have L_:=I_ (P:=l.prog) (w:=w) (mg:=mg) (base:=base) O yC
 have yP:=Kh (P:=l.prog) (w:=w) (mg:=mg) (base:=base) O yU
 have yu:=Ja (P:=l.prog) (w:=w) (mg:=mg) (base:=base) O yD
 have DW:=P0 (P:=l.prog) (w:=w) (mg:=mg) (base:=base) O DX
 have Nx:=Xm (P:=l.prog) (w:=w) (mg:=mg) (base:=base) O NT
 have Hq:=R4 (P:=l.prog) (w:=w) (mg:=mg) (base:=base) O cF Hw
 have O4:=ZM (P:=l.prog) (w:=w) (mg:=mg) (base:=base) Z7 fM pQ jP F1 (O1.mono (by decide)) b1 m1 F4
 have O5:=ZR (P:=l.prog) (w:=w) (mg:=mg) (base:=base) F2 (O2.mono (by decide)) b2 m2 F5
 have O10:=abS (P:=l.prog) (w:=w) (mg:=mg) (base:=base) cF Qj Pj F7 (O7.mono (by decide)) b7 m7 Og F10
 have O23:=abR (P:=l.prog) (w:=w) (mg:=mg) (base:=base) Ie cF KN J3 Vh Fl F22 (O22.mono (by decide)) b22 m22 F23
 have O24:=Xg (P:=l.prog) (w:=w) (mg:=mg) (base:=base) F6 (O6.mono (by decide)) b6 m6 F24
 have O31:=Xj (P:=l.prog) (w:=w) (mg:=mg) (base:=base) O bO F1 (O1.mono (by decide)) b1 m1 dW jG F31
 have O35:=M5 (P:=l.prog) (w:=w) (mg:=mg) (base:=base) O bO F34 (O34.mono (by decide)) b34 m34 dW F35
 have O36:=ZW (P:=l.prog) (w:=w) (mg:=mg) (base:=base) O bO cF F34 (O34.mono (by decide)) b34 m34 dW F36
 have O41:=Uv (P:=l.prog) (w:=w) (mg:=mg) (base:=base) je fM F41
 have O49:=R0 (P:=l.prog) (w:=w) (mg:=mg) (base:=base) F44 (O44.mono (by decide)) b44 m44 F49
 have O12:=ZQ (P:=l.prog) (w:=w) (mg:=mg) (base:=base) F6 (O6.mono (by decide)) b6 m6 F10 (O10.mono (by decide)) b10 m10 F12
 have O17:=RT (P:=l.prog) (w:=w) (mg:=mg) (base:=base) eG dM jF gH zx qz zy qC F10 (O10.mono (by decide)) b10 m10 F8 (O8.mono (by decide)) b8 m8 F17
 have O18:=Ke (P:=l.prog) (w:=w) (mg:=mg) (base:=base) eG dM F10 (O10.mono (by decide)) b10 m10 F18
 have O26:=Xi (P:=l.prog) (w:=w) (mg:=mg) (base:=base) F6 (O6.mono (by decide)) b6 m6 F10 (O10.mono (by decide)) b10 m10 F26
 have O33:=adH (P:=l.prog) (w:=w) (mg:=mg) (base:=base) O fM jG Mf (L_.mono (by decide)) rm F33
 have Jp:=Fv (P:=l.prog) (w:=w) (mg:=mg) (base:=base) O F3 (O3.mono (by decide)) b3 m3 vJ
 have Ny:=Kg (P:=l.prog) (w:=w) (mg:=mg) (base:=base) O mK Ax KH wI rE uW pI (yu.mono (by decide)) dX rM (yP.mono (by decide)) eF yS
 have O16:=ZS (P:=l.prog) (w:=w) (mg:=mg) (base:=base) Ii yH Vg Fe m_ jR jF gH FW uT Cg rR tW lu KD oX F10 (O10.mono (by decide)) b10 m10 F8 (O8.mono (by decide)) b8 m8 F16
 have O25:=Ur (P:=l.prog) (w:=w) (mg:=mg) (base:=base) F10 (O10.mono (by decide)) b10 m10 F26 (O26.mono (by decide)) b26 m26 F25
 have O32:=ZP (P:=l.prog) (w:=w) (mg:=mg) (base:=base) O bO F33 (O33.mono (by decide)) b33 m33 dW jG F32
 have Nv:=Kf (P:=l.prog) (w:=w) (mg:=mg) (base:=base) O m_ jR eG dM F4 (O4.mono (by decide)) b4 m4 F5 (O5.mono (by decide)) b5 m5 F1 (O1.mono (by decide)) b1 m1 F2 (O2.mono (by decide)) b2 m2 uW rM (yP.mono (by decide)) eF yR
 have O43:=adL (P:=l.prog) (w:=w) (mg:=mg) (base:=base) cF je F42 (O42.mono (by decide)) b42 m42 F43 b43 m43 3
 have O15:=ZV (P:=l.prog) (w:=w) (mg:=mg) (base:=base) je mK eG dM F8 (O8.mono (by decide)) b8 m8 F17 (O17.mono (by decide)) b17 m17 F18 (O18.mono (by decide)) b18 m18 F16 (O16.mono (by decide)) b16 m16 F10 (O10.mono (by decide)) b10 m10 F15
 have O14:=ZL (P:=l.prog) (w:=w) (mg:=mg) (base:=base) F10 (O10.mono (by decide)) b10 m10 F15 (O15.mono (by decide)) b15 m15 F8 (O8.mono (by decide)) b8 m8 F14
 have O40:=afs (P:=l.prog) (w:=w) (mg:=mg) (base:=base) O Ii yH Vi Fg qG mY Ve Fb Ql Al Vf Fd Vd E_ F32 (O32.mono (by decide)) b32 m32 F31 (O31.mono (by decide)) b31 m31 dW Dw (Hr.mono (by decide)) pG F40
 have Q9:=M8 (P:=l.prog) (w:=w) (mg:=mg) (base:=base) O fM Vb Q_ (Nv.mono (by decide)) tE Bj
 have O13:=Ut (P:=l.prog) (w:=w) (mg:=mg) (base:=base) F9 (O9.mono (by decide)) b9 m9 F14 (O14.mono (by decide)) b14 m14 F10 (O10.mono (by decide)) b10 m10 F13
 have XR:=Ux (P:=l.prog) (w:=w) (mg:=mg) (base:=base) O rY oW lD gZ KJ wJ pR jQ rG lV F40 (O40.mono (by decide)) b40 m40 rE qp (Jp.mono (by decide)) qm pI (yu.mono (by decide)) dX Jz
 have O11:=RW (P:=l.prog) (w:=w) (mg:=mg) (base:=base) F12 (O12.mono (by decide)) b12 m12 F13 (O13.mono (by decide)) b13 m13 F11
 have XQ:=Uw (P:=l.prog) (w:=w) (mg:=mg) (base:=base) O fM rY oW qG mY j_ iG Qk Pk F20 (O20.mono (by decide)) b20 m20 F35 (O35.mono (by decide)) b35 m35 uE (Q9.mono (by decide)) uq mW (Nx.mono (by decide)) mR z_ (XR.mono (by decide)) zU Jy
 have O29:=Xk (P:=l.prog) (w:=w) (mg:=mg) (base:=base) F10 (O10.mono (by decide)) b10 m10 F11 (O11.mono (by decide)) b11 m11 F29
 have O39:=abQ (P:=l.prog) (w:=w) (mg:=mg) (base:=base) O Vc Ra (Ny.mono (by decide)) tG zZ (XQ.mono (by decide)) zT jJ (DW.mono (by decide)) jH F39
 have O28:=Us (P:=l.prog) (w:=w) (mg:=mg) (base:=base) F6 (O6.mono (by decide)) b6 m6 F29 (O29.mono (by decide)) b29 m29 F25 (O25.mono (by decide)) b25 m25 F28
 have O37:=agT (P:=l.prog) (w:=w) (mg:=mg) (base:=base) O F39 (O39.mono (by decide)) b39 m39 F19 (O19.mono (by decide)) b19 m19 F21 (O21.mono (by decide)) b21 m21 F36 (O36.mono (by decide)) b36 m36 lO (Hq.mono (by decide)) lK jJ (DW.mono (by decide)) jH mW (Nx.mono (by decide)) mR F37
 have O38:=Xf (P:=l.prog) (w:=w) (mg:=mg) (base:=base) O F39 (O39.mono (by decide)) b39 m39 F19 (O19.mono (by decide)) b19 m19 lO (Hq.mono (by decide)) lK F38
 have O27:=afv (P:=l.prog) (w:=w) (mg:=mg) (base:=base) F24 (O24.mono (by decide)) b24 m24 F28 (O28.mono (by decide)) b28 m28 F27
 have O30:=RX (P:=l.prog) (w:=w) (mg:=mg) (base:=base) Ax cF wY wO j_ iG rY oW F22 (O22.mono (by decide)) b22 m22 F23 (O23.mono (by decide)) b23 m23 F3 (O3.mono (by decide)) b3 m3 F28 (O28.mono (by decide)) b28 m28 F30
 have O45:=(abT (P:=l.prog) (w:=w) (mg:=mg) (base:=base) je cF F42 (O42.mono (by decide)) b42 m42 F43 (O43.mono (by decide)) b43 m43 F44 (O44.mono (by decide)) b44 m44 F45 b45 m45 F46 b46 m46 3 (by decide)).1
 have O46:=(abT (P:=l.prog) (w:=w) (mg:=mg) (base:=base) je cF F42 (O42.mono (by decide)) b42 m42 F43 (O43.mono (by decide)) b43 m43 F44 (O44.mono (by decide)) b44 m44 F45 b45 m45 F46 b46 m46 3 (by decide)).2
 have O50:=R3 (P:=l.prog) (w:=w) (mg:=mg) (base:=base) F42 (O42.mono (by decide)) b42 m42 F46 (O46.mono (by decide)) b46 m46 F49 (O49.mono (by decide)) b49 m49 F48 (O48.mono (by decide)) b48 m48 F44 (O44.mono (by decide)) b44 m44 F50
 exact ok_law (P:=l.prog) (w:=w) (mg:=mg) (base:=base) aad fM bO cF Ig F41 (O41.mono (by decide)) b41 m41 F50 (O50.mono (by decide)) b50 m50 F43 (O43.mono (by decide)) b43 m43 F27 (O27.mono (by decide)) b27 m27 F37 (O37.mono (by decide)) b37 m37 F30 (O30.mono (by decide)) b30 m30 F38 (O38.mono (by decide)) b38 m38 F47 (O47.mono (by decide)) b47 m47 F51
theorem walk {l:PySem.W.OpenLaw}{q:Program}{loose:List Str}{XP:(Str→Option Value)→Heap→Prop}{YP:World→Heap→Prop}{d:DefRec}{K:Params→PySem.W.Frag} (hn:l.most=some 63) (hdf:d.params.defaults=[])
  (hY:∀ (w:World) (h:Heap),YP w h→(K w.params).In h)
  (F:∀ (w:World) (mg:Str→Option Value) (fa:Addr) (h:Heap),(K w.params).In h→h.Ns mainGlobals mg→mg d.name=some (.ref fa) →
   ∃ fd:FuncData,(∀ (s:Shared) (u:Value),BindsTo s fd ⟨[u],[]⟩ [("_law_script",u)])∧∀ base:Heap,(K w.params).In base→base.Ns mainGlobals mg→FnOk l.prog w (K w.params) mg base CX0 60 fa fd ["_law_script"] (spLaw (K w.params))) :
  PySem.W.WalkO q loose XP YP l.row.toRowW d [] (fun f vs=>PySem.call f vs) :=
 L2.walk_of (n:=63) (k:=60) (x:="_law_script") (CX:=fun _=>CX0) (sp:=fun w=>spLaw (K w.params)) hn (by decide) hdf ⟨rfl,by decide,by decide⟩ hY F (fun _ _ a ns hl _ hS=>⟨a,ns,rfl,hS,hl,fun _=>rfl⟩) fun _ _ _ _ _ z=>z
theorem acY {q:Program}{loose:List Str}{XP:(Str→Option Value)→Heap→Prop}{K:Params→PySem.W.Frag}{n t:Nat}{ad:List Addr}{r:PySem.W.RowW}{d:DefRec}{kwd:List (Str×Expr)}{run:Value→List Value→Sem Value}
  (h:PySem.W.WalkO q loose XP (fun w hp=>(K w.params).In hp) r d kwd run)
  (hI:∀ (w:World) (s₀ s₁:Shared) (args:List PySem.W.WData) (vals:List Value) (as:List Addr),PySem.W.X.obsZ ad s₀=PySem.W.X.valZ K n t w→PySem.W.Laid r.records w s₀ s₁ args vals as→(K w.params).In s₁.heap) :
  PySem.W.WalkX q loose XP (PySem.W.X.obsZ ad) (PySem.W.X.valZ K n t) r d kwd run :=
 fun w s₀ s₁ mg mb G y a o pm cd doc dV kV ho hd hcd hD hmg hg args vals as L hpre hlay hrd hwl hlo=>h w s₀ s₁ mg mb G (hI w s₀ s₁ args vals as y L) a o pm cd doc dV kV ho hd hcd hD hmg hg args vals as hpre hlay hrd hwl hlo
end d7
def PySem.W.Fast.tw10656178353264317938:Nat:=0
def PySem.W.Fast.tw4076697582664110238:Nat:=0
def PySem.W.Fast.tw17663888876867295410:Nat:=0
def PySem.W.Fast.tw16400130254413403240:Nat:=0
def PySem.W.Fast.tw16676786683195791464:Nat:=0
def PySem.W.Fast.tw3577323194818658016:Nat:=0
def PySem.W.Fast.tw8074614353915409367:Nat:=0
def PySem.W.Fast.tw9718086767131069756:Nat:=0
def PySem.W.Fast.tw6646468452566475858:Nat:=0
def PySem.W.Fast.tw14991696822563277409:Nat:=0
def PySem.W.Fast.tw6480382333382926473:Nat:=0
def PySem.W.Fast.tw3449024829052680276:Nat:=0
def PySem.W.Fast.tw10068399304266540806:Nat:=0
def PySem.W.Fast.tw1949006389236426285:Nat:=0
def PySem.W.Fast.tw5631429773637255610:Nat:=0
def PySem.W.Fast.tw10735786320070956396:Nat:=0
def PySem.W.Fast.tw1018051956847320885:Nat:=0
def PySem.W.Fast.tw13802212881470255527:Nat:=0
def PySem.W.Fast.tw13991720205458719825:Nat:=0
def PySem.W.Fast.tw7352637525986752174:Nat:=0
def PySem.W.Fast.tw3213378873973359448:Nat:=0
def PySem.W.Fast.tw5086323236259009526:Nat:=0
def PySem.W.Fast.tw16224652727985616427:Nat:=0
def PySem.W.Fast.tw1966032016770311788:Nat:=0
def PySem.W.Fast.tw3741887165376113961:Nat:=0
def PySem.W.Fast.tw1940851091029028152:Nat:=0
def PySem.W.Fast.tw5335333366532803309:Nat:=0
def PySem.W.Fast.tw8551454865015146692:Nat:=0
def PySem.W.Fast.tw10934336820662274429:Nat:=0
def PySem.W.Fast.tw15207082265283413428:Nat:=0
def PySem.W.Fast.tw15944814989571786726:Nat:=0
def PySem.W.Fast.tw8883414307929077038:Nat:=0
def PySem.W.Fast.tw15181596590038540221:Nat:=0
def PySem.W.Fast.tw5364694354111392588:Nat:=0
def PySem.W.Fast.tw18210483415894329401:Nat:=0
def PySem.W.Fast.tw14571602503481568577:Nat:=0
def PySem.W.Fast.tw2132918621937301876:Nat:=0
def PySem.W.Fast.tw5042484195593070991:Nat:=0
def PySem.W.Fast.tw9428688616465223414:Nat:=0
def PySem.W.Fast.tw14708161042689974504:Nat:=0
def PySem.W.Fast.tw11163550846874532928:Nat:=0
open PySem PySem.W PyProof.Rows
set_option maxRecDepth 100000 in
set_option maxHeartbeats 0 in
theorem PySem.Challenge.cw_selfword_k73_a_knots_tally_holds : PySem.Challenge.rw_selfword_k73_a_knots_tally.Holds := by
 w_on; o_law; z_head; (case hw=>w_witness2)
 k_fill
 refine d7.acY (d7.walk (l:=PySem.Challenge.rw_selfword_k73_a_knots_tally) rfl rfl (fun w h Y=>Y) ?F) ?I
 case I =>
  intro w s₀ s₁ args vals as y L
  z_open y L KX ZH ZN ZT
  exact KX
 case F =>
  intro w mg fa h KX G hmg
  refine' d7.all_mk KX G hmg ?a1 ?l1 ?c1 ?k1 ?a2 ?l2 ?c2 ?k2 ?a3 ?l3 ?c3 ?k3 ?a4 ?l4 ?c4 ?k4 ?a5 ?l5 ?c5 ?k5 ?a6 ?l6 ?c6 ?k6 ?a7 ?l7 ?c7 ?k7 ?a8 ?l8 ?c8 ?k8 ?a9 ?l9 ?c9 ?k9 ?a10 ?l10 ?c10 ?k10 ?a11 ?l11 ?c11 ?k11 ?a12 ?l12 ?c12 ?k12 ?a13 ?l13 ?c13 ?k13 ?a14 ?l14 ?c14 ?k14 ?a15 ?l15 ?c15 ?k15 ?a16 ?l16 ?c16 ?k16 ?a17 ?l17 ?c17 ?k17 ?a18 ?l18 ?c18 ?k18 ?a19 ?l19 ?c19 ?k19 ?a20 ?l20 ?c20 ?k20 ?a21 ?l21 ?c21 ?k21 ?a22 ?l22 ?c22 ?k22 ?a23 ?l23 ?c23 ?k23 ?a24 ?l24 ?c24 ?k24 ?a25 ?l25 ?c25 ?k25 ?a26 ?l26 ?c26 ?k26 ?a27 ?l27 ?c27 ?k27 ?a28 ?l28 ?c28 ?k28 ?a29 ?l29 ?c29 ?k29 ?a30 ?l30 ?c30 ?k30 ?a31 ?l31 ?c31 ?k31 ?a32 ?l32 ?c32 ?k32 ?a33 ?l33 ?c33 ?k33 ?a34 ?l34 ?c34 ?k34 ?a35 ?l35 ?c35 ?k35 ?a36 ?l36 ?c36 ?k36 ?a37 ?l37 ?c37 ?k37 ?a38 ?l38 ?c38 ?k38 ?a39 ?l39 ?c39 ?k39 ?a40 ?l40 ?c40 ?k40 ?a41 ?l41 ?c41 ?k41 ?a42 ?l42 ?c42 ?k42 ?a43 ?l43 ?c43 ?k43 ?a44 ?l44 ?c44 ?k44 ?a45 ?l45 ?c45 ?k45 ?a46 ?l46 ?c46 ?k46 ?a47 ?l47 ?c47 ?k47 ?a48 ?l48 ?c48 ?k48 ?a49 ?l49 ?c49 ?k49 ?a50 ?l50 ?c50 ?k50 ?a51 ?l51 ?c51 ?k51 ?Du ?BL ?Cq ?BK ?Bx ?Ca ?Cm ?tV ?qP ?LK ?J_ ?K6 ?J4 ?J1 ?Ky ?KY ?wU ?vh ?Q6 ?Py ?Qt ?Pn ?Pa ?Qc ?Qo ?zf ?za ?B_ ?FJ ?zj ?yZ ?Q8 ?PB ?Qv ?Pu ?Pg ?Qe ?Qq ?zp ?wR ?LQ ?Ka ?K7 ?J5 ?J2 ?Kz ?KZ ?wV ?vm ?Q7 ?Pz ?Qu ?Pq ?Pb ?Qd ?Qp ?vg ?wQ ?tU ?zm ?Cr ?BR ?Br ?Bw ?C_ ?K8 ?Ks ?JB ?J0 ?Lr ?cn ?ct ?iTF ?iTL ?iFF ?iLF ?iLL ?fJ ?o9 ?o7 ?pD ?o8 ?gQ ?qW ?qQ ?qZ ?qT ?iC ?sJ ?rZ ?sY ?sE ?gF ?qj ?qg ?ql ?kY ?dI ?sS ?sy ?tD ?sI ?jf ?tY ?tX ?uo ?pU ?dh ?qX ?qR ?q_ ?qU ?iD ?sO ?su ?sZ ?sH ?eZ ?vp ?vo ?vA ?qN ?iJ ?Cp ?Cj ?Dc ?vL ?gB ?xr ?wZ ?xZ ?sG ?nT ?zE ?zA ?zN ?uG ?nU ?zF ?zB ?zO ?uH ?Gg ?lV ?Cy ?jQ ?xG ?oV ?xH ?gZ ?Ge ?uR ?VB ?Fg ?Vu ?Fb ?Qz ?Al ?Vw ?Fd ?Vt ?E_ ?K_ ?wI ?Lb ?wJ ?Qy ?Qn ?Oh ?Qx ?Ij ?N8 ?N_ ?Cv ?jP ?Vy ?jR ?Qw ?dM ?aap ?yH ?Vx ?Fe ?vq ?gH ?Gf ?uT ?Cw ?rR ?tZ ?lu ?K9 ?KQ ?JF ?zG ?qz ?zH ?qC ?La ?iG ?Vs ?mY ?Ld ?KR ?JG ?Vz ?Vk ?Tf ?lE0 ?tE0 ?lE1 ?tE1 ?lE2 ?tE2 ?lE3 ?tE3 ?lE4 ?tE4 ?lE5 ?tE5 ?lE6 ?tE6 ?lE7 ?tE7 ?lE8 ?tE8 ?lE9 ?tE9 ?adW ?ac9 ?adV ?ac8 ?adU ?ac7 ?adT ?ac6 ?adS ?ac5 ?xJ ?xg ?wg ?Vv ?oW ?Zc ?Zd ?N6 ?Bl ?N7 ?Zb ?Za ?S_ ?vY ?Tc ?Ze ?Zf
  (case a1=>k_is); (case l1=>k_is); (case c1=>k_is); (case k1=>k_is)
  (case a2=>k_is); (case l2=>k_is); (case c2=>k_is); (case k2=>k_is)
  (case a3=>k_is); (case l3=>k_is); (case c3=>k_is); (case k3=>k_is)
  (case a4=>k_is); (case l4=>k_is); (case c4=>k_is); (case k4=>k_is)
  (case a5=>k_is); (case l5=>k_is); (case c5=>k_is); (case k5=>k_is)
  (case a6=>k_is); (case l6=>k_is); (case c6=>k_is); (case k6=>k_is)
  (case a7=>k_is); (case l7=>k_is); (case c7=>k_is); (case k7=>k_is)
  (case a8=>k_is); (case l8=>k_is); (case c8=>k_is); (case k8=>k_is)
  (case a9=>k_is); (case l9=>k_is); (case c9=>k_is); (case k9=>k_is)
  (case a10=>k_is); (case l10=>k_is); (case c10=>k_is); (case k10=>k_is)
  (case a11=>k_is); (case l11=>k_is); (case c11=>k_is); (case k11=>k_is)
  (case a12=>k_is); (case l12=>k_is); (case c12=>k_is); (case k12=>k_is)
  (case a13=>k_is); (case l13=>k_is); (case c13=>k_is); (case k13=>k_is)
  (case a14=>k_is); (case l14=>k_is); (case c14=>k_is); (case k14=>k_is)
  (case a15=>k_is); (case l15=>k_is); (case c15=>k_is); (case k15=>k_is)
  (case a16=>k_is); (case l16=>k_is); (case c16=>k_is); (case k16=>k_is)
  (case a17=>k_is); (case l17=>k_is); (case c17=>k_is); (case k17=>k_is)
  (case a18=>k_is); (case l18=>k_is); (case c18=>k_is); (case k18=>k_is)
  (case a19=>k_is); (case l19=>k_is); (case c19=>k_is); (case k19=>k_is)
  (case a20=>k_is); (case l20=>k_is); (case c20=>k_is); (case k20=>k_is)
  (case a21=>k_is); (case l21=>k_is); (case c21=>k_is); (case k21=>k_is)
  (case a22=>k_is); (case l22=>k_is); (case c22=>k_is); (case k22=>k_is)
  (case a23=>k_is); (case l23=>k_is); (case c23=>k_is); (case k23=>k_is)
  (case a24=>k_is); (case l24=>k_is); (case c24=>k_is); (case k24=>k_is)
  (case a25=>k_is); (case l25=>k_is); (case c25=>k_is); (case k25=>k_is)
  (case a26=>k_is); (case l26=>k_is); (case c26=>k_is); (case k26=>k_is)
  (case a27=>k_is); (case l27=>k_is); (case c27=>k_is); (case k27=>k_is)
  (case a28=>k_is); (case l28=>k_is); (case c28=>k_is); (case k28=>k_is)
  (case a29=>k_is); (case l29=>k_is); (case c29=>k_is); (case k29=>k_is)
  (case a30=>k_is); (case l30=>k_is); (case c30=>k_is); (case k30=>k_is)
  (case a31=>k_is); (case l31=>k_is); (case c31=>k_is); (case k31=>k_is)
  (case a32=>k_is); (case l32=>k_is); (case c32=>k_is); (case k32=>k_is)
  (case a33=>k_is); (case l33=>k_is); (case c33=>k_is); (case k33=>k_is)
  (case a34=>k_is); (case l34=>k_is); (case c34=>k_is); (case k34=>k_is)
  (case a35=>k_is); (case l35=>k_is); (case c35=>k_is); (case k35=>k_is)
  (case a36=>k_is); (case l36=>k_is); (case c36=>k_is); (case k36=>k_is)
  (case a37=>k_is); (case l37=>k_is); (case c37=>k_is); (case k37=>k_is)
  (case a38=>k_is); (case l38=>k_is); (case c38=>k_is); (case k38=>k_is)
  (case a39=>k_is); (case l39=>k_is); (case c39=>k_is); (case k39=>k_is)
  (case a40=>k_is); (case l40=>k_is); (case c40=>k_is); (case k40=>k_is)
  (case a41=>k_is); (case l41=>k_is); (case c41=>k_is); (case k41=>k_is)
  (case a42=>k_is); (case l42=>k_is); (case c42=>k_is); (case k42=>k_is)
  (case a43=>k_is); (case l43=>k_is); (case c43=>k_is); (case k43=>k_is)
  (case a44=>k_is); (case l44=>k_is); (case c44=>k_is); (case k44=>k_is)
  (case a45=>k_is); (case l45=>k_is); (case c45=>k_is); (case k45=>k_is)
  (case a46=>k_is); (case l46=>k_is); (case c46=>k_is); (case k46=>k_is)
  (case a47=>k_is); (case l47=>k_is); (case c47=>k_is); (case k47=>k_is)
  (case a48=>k_is); (case l48=>k_is); (case c48=>k_is); (case k48=>k_is)
  (case a49=>k_is); (case l49=>k_is); (case c49=>k_is); (case k49=>k_is)
  (case a50=>k_is); (case l50=>k_is); (case c50=>k_is); (case k50=>k_is)
  (case a51=>k_is); (case l51=>k_is); (case c51=>k_is); (case k51=>k_is)
  (case Du=>k_is)
  (case BL=>k_is)
  (case Cq=>k_is)
  (case BK=>k_is)
  (case Bx=>k_is)
  (case Ca=>k_is)
  (case Cm=>k_is)
  (case tV=>k_is)
  (case qP=>k_is)
  (case LK=>k_is)
  (case J_=>k_is)
  (case K6=>k_is)
  (case J4=>k_is)
  (case J1=>k_is)
  (case Ky=>k_is)
  (case KY=>k_is)
  (case wU=>k_is)
  (case vh=>k_is)
  (case Q6=>k_is)
  (case Py=>k_is)
  (case Qt=>k_is)
  (case Pn=>k_is)
  (case Pa=>k_is)
  (case Qc=>k_is)
  (case Qo=>k_is)
  (case zf=>k_is)
  (case za=>k_is)
  (case B_=>k_is)
  (case FJ=>k_is)
  (case zj=>k_is)
  (case yZ=>k_is)
  (case Q8=>k_is)
  (case PB=>k_is)
  (case Qv=>k_is)
  (case Pu=>k_is)
  (case Pg=>k_is)
  (case Qe=>k_is)
  (case Qq=>k_is)
  (case zp=>k_is)
  (case wR=>k_is)
  (case LQ=>k_is)
  (case Ka=>k_is)
  (case K7=>k_is)
  (case J5=>k_is)
  (case J2=>k_is)
  (case Kz=>k_is)
  (case KZ=>k_is)
  (case wV=>k_is)
  (case vm=>k_is)
  (case Q7=>k_is)
  (case Pz=>k_is)
  (case Qu=>k_is)
  (case Pq=>k_is)
  (case Pb=>k_is)
  (case Qd=>k_is)
  (case Qp=>k_is)
  (case vg=>k_is)
  (case wQ=>k_is)
  (case tU=>k_is)
  (case zm=>k_is)
  (case Cr=>k_is)
  (case BR=>k_is)
  (case Br=>k_is)
  (case Bw=>k_is)
  (case C_=>k_is)
  (case K8=>k_is)
  (case Ks=>k_is)
  (case JB=>k_is)
  (case J0=>k_is)
  (case Lr=>k_is)
  (case cn=>k_is)
  (case ct=>k_is)
  (case iTF=>kit_is)
  (case iTL=>kit_is)
  (case iFF=>kit_is)
  (case iLF=>kit_is)
  (case iLL=>kit_is)
  (case fJ=>k_is)
  (case o9=>k_is)
  (case o7=>k_is)
  (case pD=>k_is)
  (case o8=>k_is)
  (case gQ=>k_is)
  (case qW=>k_is)
  (case qQ=>k_is)
  (case qZ=>k_is)
  (case qT=>k_is)
  (case iC=>k_is)
  (case sJ=>k_is)
  (case rZ=>k_is)
  (case sY=>k_is)
  (case sE=>k_is)
  (case gF=>k_is)
  (case qj=>k_is)
  (case qg=>k_is)
  (case ql=>k_is)
  (case kY=>k_is)
  (case dI=>k_is)
  (case sS=>k_is)
  (case sy=>k_is)
  (case tD=>k_is)
  (case sI=>k_is)
  (case jf=>k_is)
  (case tY=>k_is)
  (case tX=>k_is)
  (case uo=>k_is)
  (case pU=>k_is)
  (case dh=>k_is)
  (case qX=>k_is)
  (case qR=>k_is)
  (case q_=>k_is)
  (case qU=>k_is)
  (case iD=>k_is)
  (case sO=>k_is)
  (case su=>k_is)
  (case sZ=>k_is)
  (case sH=>k_is)
  (case eZ=>k_is)
  (case vp=>k_is)
  (case vo=>k_is)
  (case vA=>k_is)
  (case qN=>k_is)
  (case iJ=>k_is)
  (case Cp=>k_is)
  (case Cj=>k_is)
  (case Dc=>k_is)
  (case vL=>k_is)
  (case gB=>k_is)
  (case xr=>k_is)
  (case wZ=>k_is)
  (case xZ=>k_is)
  (case sG=>k_is)
  (case nT=>k_is)
  (case zE=>k_is)
  (case zA=>k_is)
  (case zN=>k_is)
  (case uG=>k_is)
  (case nU=>k_is)
  (case zF=>k_is)
  (case zB=>k_is)
  (case zO=>k_is)
  (case uH=>k_is)
  (case Gg=>k_is)
  (case lV=>exact⟨_,rfl⟩)
  (case Cy=>k_is)
  (case jQ=>exact⟨_,rfl⟩)
  (case xG=>k_is)
  (case oV=>exact⟨_,rfl⟩)
  (case xH=>k_is)
  (case gZ=>exact⟨_,rfl⟩)
  (case Ge=>k_is)
  (case uR=>exact⟨_,rfl⟩)
  (case VB=>k_is)
  (case Fg=>exact⟨_,rfl⟩)
  (case Vu=>k_is)
  (case Fb=>exact⟨_,rfl⟩)
  (case Qz=>k_is)
  (case Al=>exact⟨_,rfl⟩)
  (case Vw=>k_is)
  (case Fd=>exact⟨_,rfl⟩)
  (case Vt=>k_is)
  (case E_=>exact⟨_,rfl⟩)
  (case K_=>k_is)
  (case wI=>exact⟨_,rfl⟩)
  (case Lb=>k_is)
  (case wJ=>exact⟨_,rfl⟩)
  (case Qy=>k_is)
  (case Qn=>k_is)
  (case Oh=>exact⟨_,_,rfl,rfl,by decide,by repeat (first | exact .nil | refine .cons ⟨_,rfl⟩ ?_)⟩)
  (case Qx=>k_is)
  (case Ij=>k_is)
  (case N8=>exact⟨_,_,rfl,rfl,by decide,by repeat (first | exact .nil | refine .cons ⟨_,rfl⟩ ?_)⟩)
  (case N_=>exact⟨rfl,rfl⟩)
  (case Cv=>k_is)
  (case jP=>exact⟨_,rfl⟩)
  (case Vy=>k_is)
  (case jR=>exact⟨_,rfl⟩)
  (case Qw=>k_is)
  (case dM=>exact⟨_,rfl⟩)
  (case aap=>k_is)
  (case yH=>exact⟨_,rfl⟩)
  (case Vx=>k_is)
  (case Fe=>exact⟨_,rfl⟩)
  (case vq=>k_is)
  (case gH=>exact⟨_,rfl⟩)
  (case Gf=>k_is)
  (case uT=>exact⟨_,rfl⟩)
  (case Cw=>k_is)
  (case rR=>exact⟨_,rfl⟩)
  (case tZ=>k_is)
  (case lu=>exact⟨_,rfl⟩)
  (case K9=>k_is)
  (case KQ=>k_is)
  (case JF=>exact⟨_,_,rfl,rfl,by decide,by repeat (first | exact .nil | refine .cons ⟨_,rfl⟩ ?_)⟩)
  (case zG=>k_is)
  (case qz=>exact⟨_,rfl⟩)
  (case zH=>k_is)
  (case qC=>exact⟨_,rfl⟩)
  (case La=>k_is)
  (case iG=>exact⟨_,rfl⟩)
  (case Vs=>k_is)
  (case mY=>exact⟨_,rfl⟩)
  (case Ld=>k_is)
  (case KR=>k_is)
  (case JG=>exact⟨_,_,rfl,rfl,by decide,by repeat (first | exact .nil | refine .cons ⟨_,rfl⟩ ?_)⟩)
  (case Vz=>k_is)
  (case Vk=>k_is)
  (case Tf=>exact⟨_,_,rfl,rfl,by decide,by repeat (first | exact .nil | refine .cons rfl ?_)⟩)
  (case lE0=>k_is)
  (case tE0=>exact⟨_,_,rfl,rfl,by decide,by repeat (first | exact .nil | refine .cons ⟨_,rfl⟩ ?_)⟩)
  (case lE1=>k_is)
  (case tE1=>exact⟨_,_,rfl,rfl,by decide,by repeat (first | exact .nil | refine .cons ⟨_,rfl⟩ ?_)⟩)
  (case lE2=>k_is)
  (case tE2=>exact⟨_,_,rfl,rfl,by decide,by repeat (first | exact .nil | refine .cons ⟨_,rfl⟩ ?_)⟩)
  (case lE3=>k_is)
  (case tE3=>exact⟨_,_,rfl,rfl,by decide,by repeat (first | exact .nil | refine .cons ⟨_,rfl⟩ ?_)⟩)
  (case lE4=>k_is)
  (case tE4=>exact⟨_,_,rfl,rfl,by decide,by repeat (first | exact .nil | refine .cons ⟨_,rfl⟩ ?_)⟩)
  (case lE5=>k_is)
  (case tE5=>exact⟨_,_,rfl,rfl,by decide,by repeat (first | exact .nil | refine .cons ⟨_,rfl⟩ ?_)⟩)
  (case lE6=>k_is)
  (case tE6=>exact⟨_,_,rfl,rfl,by decide,by repeat (first | exact .nil | refine .cons ⟨_,rfl⟩ ?_)⟩)
  (case lE7=>k_is)
  (case tE7=>exact⟨_,_,rfl,rfl,by decide,by repeat (first | exact .nil | refine .cons ⟨_,rfl⟩ ?_)⟩)
  (case lE8=>k_is)
  (case tE8=>exact⟨_,_,rfl,rfl,by decide,by repeat (first | exact .nil | refine .cons ⟨_,rfl⟩ ?_)⟩)
  (case lE9=>k_is)
  (case tE9=>exact⟨_,_,rfl,rfl,by decide,by repeat (first | exact .nil | refine .cons ⟨_,rfl⟩ ?_)⟩)
  (case adW=>k_is)
  (case ac9=>exact⟨_,_,rfl,rfl,by decide,by repeat (first | exact .nil | refine .cons ⟨_,rfl⟩ ?_)⟩)
  (case adV=>k_is)
  (case ac8=>exact⟨_,_,rfl,rfl,by decide,by repeat (first | exact .nil | refine .cons ⟨_,rfl⟩ ?_)⟩)
  (case adU=>k_is)
  (case ac7=>exact⟨_,_,rfl,rfl,by decide,by repeat (first | exact .nil | refine .cons ⟨_,rfl⟩ ?_)⟩)
  (case adT=>k_is)
  (case ac6=>exact⟨_,_,rfl,rfl,by decide,by repeat (first | exact .nil | refine .cons ⟨_,rfl⟩ ?_)⟩)
  (case adS=>k_is)
  (case ac5=>exact⟨_,_,rfl,rfl,by decide,by repeat (first | exact .nil | refine .cons ⟨_,rfl⟩ ?_)⟩)
  (case xJ=>k_is)
  (case xg=>k_is)
  (case wg=>exact⟨_,_,rfl,rfl,by decide,by repeat (first | exact .nil | refine .cons ⟨_,rfl⟩ ?_)⟩)
  (case Vv=>k_is)
  (case oW=>exact⟨_,rfl⟩)
  (case Zc=>k_is)
  (case Zd=>k_is)
  (case N6=>k_is)
  (case Bl=>k_is)
  (case N7=>k_is)
  (case Zb=>k_is)
  (case Za=>k_is)
  (case S_=>k_is)
  (case vY=>k_is)
  (case Tc=>k_is)
  (case Ze=>k_is)
  (case Zf=>k_is)
#print axioms PySem.Challenge.cw_selfword_k73_a_knots_tally_holds
