import PyProof.Rows.All
import Wide.All
import OpenK.AllK
import Wide.FinOn
import PyProof.EqAt
import PyProof.EqKinds
import PyProof.TupleCall
import PySem.Challenge.RW_selfword_k25_whole_what_is_read
set_option Elab.async false
set_option linter.all false
set_option maxRecDepth 100000
namespace L2
open PySem PySem.Spec PyProof.Rows
abbrev Key:=Sum Int Str
def keyIs:Key→Value→Bool
 | .inl k,v=>Value.isInt k v
 | .inr x,v=>Value.isStrOf x v
def keyH (w:World):Key→Int
 | .inl k=>hashInt k
 | .inr x=>hashStr w x
theorem keyIs_shape:∀ {k:Key}{v:Value},keyIs k v=true→(∃ i t,k=Sum.inl i∧v=Value.int i t)∨(∃ x t,k=Sum.inr x∧v=Value.str x t)
 | .inl i,v,h=>by
  obtain⟨t,e⟩:=Value.isInt_shape (k:=i) (v:=v) h
  exact .inl ⟨i,t,rfl,e⟩
 | .inr x,v,h=>by
  obtain⟨t,e⟩:=Value.isStrOf_shape (x:=x) (v:=v) h
  exact .inr ⟨x,t,rfl,e⟩
theorem key_ll (a b:Int):decide ((Sum.inl a:Key)=Sum.inl b)=(a == b):=by
 by_cases e:a=b
 ·subst e; simp
 ·have h:¬ (Sum.inl a:Key)=Sum.inl b:=fun q=>e (Sum.inl.inj q)
  rw [decide_eq_false h]
  exact (beq_eq_false_iff_ne.mpr e).symm
theorem key_rr (a b:Str):decide ((Sum.inr a:Key)=Sum.inr b)=decide (a=b):=by
 by_cases e:a=b
 ·subst e; simp
 ·have h:¬ (Sum.inr a:Key)=Sum.inr b:=fun q=>e (Sum.inr.inj q)
  rw [decide_eq_false h,decide_eq_false e]
theorem key_lr (a:Int) (b:Str):decide ((Sum.inl a:Key)=Sum.inr b)=false:=decide_eq_false (fun q=>nomatch q)
theorem key_rl (a:Str) (b:Int):decide ((Sum.inr a:Key)=Sum.inl b)=false:=decide_eq_false (fun q=>nomatch q)
def mixKind (prog:Program) (w:World):PySem.KeyKind prog w Key where
 is:=keyIs
 hash:=keyH w
 inj:=fun v a b ha hb=>by
  rcases keyIs_shape ha with⟨i,t,rfl,rfl⟩ | ⟨x,t,rfl,rfl⟩
  ·rcases keyIs_shape hb with⟨j,u,rfl,e⟩ | ⟨y,u,rfl,e⟩
   ·injection e with e1 _; rw [e1]
   ·exact nomatch e
  ·rcases keyIs_shape hb with⟨j,u,rfl,e⟩ | ⟨y,u,rfl,e⟩
   ·exact nomatch e
   ·injection e with e1 _; rw [e1]
 byValue:=fun k v h=>by
  rcases keyIs_shape h with⟨i,t,rfl,rfl⟩ | ⟨x,t,rfl,rfl⟩ <;> rfl
 pyHash:=fun hv h=>by
  rcases keyIs_shape hv with⟨i,t,rfl,rfl⟩ | ⟨x,t,rfl,rfl⟩
  ·exact wpAny_pyHash_int h
  ·exact wpAny_pyHash_str h
 eqBool:=fun hu hv h=>by
  rcases keyIs_shape hu with⟨i,t,rfl,rfl⟩ | ⟨x,t,rfl,rfl⟩
  ·rcases keyIs_shape hv with⟨j,u,rfl,rfl⟩ | ⟨y,u,rfl,rfl⟩
   ·rw [key_ll] at h; exact wpAny_eqBool_int h
   ·rw [key_lr] at h; exact SeqAt.EqAt.int_str i t y u _ _ _ _ h
  ·rcases keyIs_shape hv with⟨j,u,rfl,rfl⟩ | ⟨y,u,rfl,rfl⟩
   ·rw [key_rl] at h; exact SeqAt.EqAt.str_int x t j u _ _ _ _ h
   ·rw [key_rr] at h; exact wpAny_eqBool_str h
 «strs»:=fun k x t v h=>by
  rcases keyIs_shape h with⟨i,u,rfl,e⟩ | ⟨y,u,rfl,e⟩
  ·exact nomatch e
  ·injection e with e1 _
   subst e1
   cases v <;> rfl
end L2
namespace L2
open PySem PySem.Spec PyProof.Rows
inductive V where
 | non | bl (b:Bool) | int (i:Int) | str (x:Str) | byt (b:Array UInt8) | flt (b:UInt64) | ref (a:Addr) | ty (n:String)
 deriving DecidableEq
def RelV:V→Value→Prop
 | .non,u=>u=Value.none
 | .bl b,u=>u=Value.bool b
 | .int i,u=>∃ t,u=Value.int i t
 | .str x,u=>∃ t,u=Value.str x t
 | .byt b,u=>∃ t,u=Value.bytes b t
 | .flt b,u=>∃ t,u=Value.float b t
 | .ref a,u=>u=Value.ref a
 | .ty n,u=>u=Value.type n
abbrev Vals:List V→List Value→Prop:=Paired RelV
theorem Vals.length {xs:List V}{us:List Value} (r:Vals xs us):xs.length=us.length:=Paired.length r
theorem Vals.get:∀ {xs:List V}{us:List Value}{i:Nat}{x:V},Vals xs us→xs[i]?=some x→∃ u,us[i]?=some u∧RelV x u
 | _,_,_,_,.nil,e=>by simp at e
 | _,_,0,_,.cons r _,e=>by simp at e; subst e; exact⟨_,rfl,r⟩
 | _,_,i+1,x,.cons _ t,e=>by
  obtain⟨u,h1,h2⟩:=Vals.get (i:=i) (x:=x) t (by simpa using e)
  exact⟨u,by simpa using h1,h2⟩
theorem Vals.append:∀ {xs ys:List V}{us ws:List Value},Vals xs us→Vals ys ws→Vals (xs++ys) (us++ws)
 | _,_,_,_,.nil,s=>s
 | _,_,_,_,.cons r t,s=>.cons r (Vals.append t s)
theorem Vals.take:∀ {xs:List V}{us:List Value} (n:Nat),Vals xs us→Vals (xs.take n) (us.take n)
 | _,_,0,_=>.nil
 | _,_,_+1,.nil=>.nil
 | _,_,n+1,.cons r t=>.cons r (Vals.take n t)
theorem Vals.drop:∀ {xs:List V}{us:List Value} (n:Nat),Vals xs us→Vals (xs.drop n) (us.drop n)
 | _,_,0,r=>r
 | _,_,_+1,.nil=>.nil
 | _,_,n+1,.cons _ t=>Vals.drop n t
def RelO:Option V→Option Value→Prop
 | some v,some u=>RelV v u
 | none,none=>True
 | _,_=>False
def KV {κ:Type}:List (κ×V)→List (κ×Value)→Prop:=Paired fun (p:κ×V) (q:κ×Value)=>p.1=q.1∧RelV p.2 q.2
def kV:Key→V
 | .inl i=>.int i
 | .inr x=>.str x
inductive HO where
 | lst (xs:List V)
 | tup (xs:List V)
 | dK (kvs:List (Key×V)) | dT (kvs:List (List Key×V))
 | set (S:Int→Bool) (n:Nat)
 | ins (C dx:Addr) (fs:List (Str×V))
 | own (x:Addr)
 | xd (fs:List (Str×V))
 | met (f x:Addr)
 | rng (lo hi:Int)
 | frz (o:Obj) (u:HO)
 | tbl (ps:Array Value)
 | ext (φ:Heap→Prop)
abbrev Hp:=Addr→Option HO
def upd (H:Hp) (a:Addr) (o:HO):Hp:=fun b=>if b=a then some o else H b
theorem upd_same {H:Hp}{a:Addr}{o:HO}:upd H a o a=some o:=by unfold upd; rw [if_pos rfl]
theorem upd_ne {H:Hp}{a b:Addr}{o:HO} (h:b≠a):upd H a o b=H b:=by unfold upd; rw [if_neg h]
theorem upd_upd {H:Hp}{a:Addr}{o u:HO}:upd (upd H a o) a u=upd H a u:=by
 funext b; unfold upd; split <;> rfl
theorem ne_of {H:Hp}{a b:Addr}{o u:HO} (h:H a=some o) (h':H b=some u) (d:o≠u):a≠b:=by
 intro e; subst e; rw [h] at h'; exact d (Option.some.inj h')
theorem ne_of_none {H:Hp}{a b:Addr}{o:HO} (h:H a=some o) (h':H b=none):a≠b:=by
 intro e; subst e; rw [h] at h'; cases h'
section
variable (P:Program) (w:World)
def ObjOk (H:Hp) (h:Heap) (a:Addr):HO→Prop
 | .lst xs=>xs.length≤sizeLine∧∃ (its:List Value) (n:Nat),Vals xs its∧h.get? a=some { cls:=.type "list",data:=.seq its.toArray n }
 | .tup xs=>xs.length≤sizeLine∧∃ its:List Value,Vals xs its∧IsTup h a its.toArray
 | .dK kvs=>kvs.length≤sizeLine∧(a == sysModules)=false∧∃ vs,KV kvs vs∧h.DictOf (mixKind P w) a vs
 | .dT kvs=>kvs.length≤sizeLine∧(a == sysModules)=false∧∃ xs:List (List Key×Addr×Value),
   Paired (fun (p:List Key×V) (q:List Key×Addr×Value)=>p.1=q.1∧H q.2.1=some (.tup (p.1.map kV))∧RelV p.2 q.2.2) kvs xs ∧
   ∃ o es ep,h.get? a=some o∧o.ExactDict∧o.data=.dict es ep∧es.toList=xs.map (entryOfKey (tupleKind (mixKind P w)))∧(xs.map (·.1)).Nodup
 | .set S n=>h.SetOf (intKind P w) a S n
 | .ins C dx fs=>H dx=some (.own a)∧fs.length≤1000∧dx≠a∧h.get? a=some (PySem.W.instObj C dx) ∧
   ∃ mA,h.Ns1 dx mA∧(∀ f,RelO (fs.lookup f) (mA f))∧PySem.Within mA (fs.map (·.1))
 | .own _=>∃ o,h.get? a=some o
 | .xd fs=>∃ mA,h.Ns1 a mA∧∀ f,RelO (fs.lookup f) (mA f)
 | .rng lo hi=>∃ t u v,h.get? a=some { cls:=.type "range",data:=.fields #[.int lo t,.int hi u,.int 1 v] }
 | .frz o u=>h.get? a=some o∧ObjOk H h a u
 | .tbl ps=>h.get? a=some { cls:=.none,data:=.fields ps }
 | .met f x=>h.get? a=some (PySem.W.methodObj (.ref f) (.ref x))
 | .ext φ=>φ h∧(∃ o,h.get? a=some o)∧∀ h1 h2:Heap,φ h1→(∀ o,h1.get? a=some o→h2.get? a=some o)→φ h2
def HOk (H:Hp) (h:Heap):Prop:=∀ a o,H a=some o→ObjOk P w H h a o
end
section
variable {P:Program}{w:World}{H H':Hp}{h h':Heap}{a:Addr}{o:HO}
theorem ObjOk.lt (x:ObjOk P w H h a o):a<h.objs.size:=by
 cases o with
 | lst xs=>obtain⟨_,_,_,_,e⟩:=x; exact Heap.lt_size e
 | tup xs=>obtain⟨_,_,_,p⟩:=x; exact p.lt
 | dK kvs=>obtain⟨_,_,_,_,o,_,_,e,_⟩:=x; exact Heap.lt_size e
 | dT kvs=>obtain⟨_,_,_,_,o,_,_,e,_⟩:=x; exact Heap.lt_size e
 | set S n=>obtain⟨o,_,_,_,e,_⟩:=x; exact Heap.lt_size e
 | ins C dx fs=>obtain⟨_,_,_,e,_⟩:=x; exact Heap.lt_size e
 | own y=>obtain⟨_,e⟩:=x; exact Heap.lt_size e
 | xd fs=>obtain⟨_,⟨_,_,_,e,_⟩,_⟩:=x; exact Heap.lt_size e
 | rng lo hi=>obtain⟨_,_,_,e⟩:=x; exact Heap.lt_size e
 | frz ob u=>obtain⟨e,_⟩:=x; exact Heap.lt_size e
 | tbl ps=>exact Heap.lt_size (show h.get? a=some _ from x)
 | met f y=>exact Heap.lt_size (show h.get? a=some _ from x)
 | ext φ=>obtain⟨_,⟨_,e⟩,_⟩:=x; exact Heap.lt_size e
theorem Paired.mapP {α β:Type}{F G:α→β→Prop}:∀ {l₁:List α}{l₂:List β},Paired F l₁ l₂→(∀ a b,F a b→G a b)→Paired G l₁ l₂
 | _,_,.nil,_=>.nil
 | _,_,.cons r t,f=>.cons (f _ _ r) (Paired.mapP t f)
theorem ObjOk.stay (x:ObjOk P w H h a o) (k:∀ b u,(b=a∨H b=some (.own a))→h.get? b=some u→h'.get? b=some u)
  (ho:∀ b,H b=some (.own a)→H' b=some (.own a)) (ht:∀ b xs,H b=some (.tup xs)→H' b=some (.tup xs)):ObjOk P w H' h' a o:=by
 induction o with
 | lst xs=>obtain⟨z,its,n,r,e⟩:=x; exact⟨z,its,n,r,k _ _ (.inl rfl) e⟩
 | tup xs=>obtain⟨z,its,r,ob,e,c⟩:=x; exact⟨z,its,r,ob,k _ _ (.inl rfl) e,c⟩
 | dK kvs=>obtain⟨z,y,vs,r,ob,es,ep,e,c⟩:=x; exact⟨z,y,vs,r,ob,es,ep,k _ _ (.inl rfl) e,c⟩
 | dT kvs =>
  obtain⟨z,y,xs,r,ob,es,ep,e,c⟩:=x
  exact⟨z,y,xs,Paired.mapP r fun p q z=>⟨z.1,ht _ _ z.2.1,z.2.2⟩,ob,es,ep,k _ _ (.inl rfl) e,c⟩
 | set S n=>obtain⟨ob,es,ep,t,e,c⟩:=x; exact⟨ob,es,ep,t,k _ _ (.inl rfl) e,c⟩
 | ins C dx fs =>
  obtain⟨d,z,ne,e,mA,⟨od,es,ep,e2,c⟩,r⟩:=x
  exact⟨ho _ d,z,ne,k _ _ (.inl rfl) e,mA,⟨od,es,ep,k _ _ (.inr d) e2,c⟩,r⟩
 | own y=>obtain⟨ob,e⟩:=x; exact⟨ob,k _ _ (.inl rfl) e⟩
 | xd fs=>obtain⟨mA,⟨od,es,ep,e,c⟩,r⟩:=x; exact⟨mA,⟨od,es,ep,k _ _ (.inl rfl) e,c⟩,r⟩
 | rng lo hi=>obtain⟨t,u,v,e⟩:=x; exact⟨t,u,v,k _ _ (.inl rfl) e⟩
 | frz ob u ih=>obtain⟨e,q⟩:=x; exact⟨k _ _ (.inl rfl) e,ih q⟩
 | tbl ps =>
  have e:h.get? a=some { cls:=.none,data:=.fields ps }:=x
  show h'.get? a=some { cls:=.none,data:=.fields ps }
  exact k a _ (.inl rfl) e
 | met f y =>
  have e:h.get? a=some (PySem.W.methodObj (.ref f) (.ref y)):=x
  show h'.get? a=some (PySem.W.methodObj (.ref f) (.ref y))
  exact k a _ (.inl rfl) e
 | ext φ=>obtain⟨p,⟨o,e⟩,st⟩:=x; exact⟨st _ _ p fun o q=>k _ _ (.inl rfl) q,⟨o,k _ _ (.inl rfl) e⟩,st⟩
theorem HOk.lt (x:HOk P w H h) (e:H a=some o):a<h.objs.size:=(x a o e).lt
theorem HOk.fresh (x:HOk P w H h) (e:h.objs.size≤a):H a=none:=by
 cases q:H a with
 | none=>rfl
 | some u=>exact absurd (Nat.lt_of_lt_of_le (x.lt q) e) (Nat.lt_irrefl _)
theorem HOk.kept (x:HOk P w H h) (k:∀ b u,h.get? b=some u→h'.get? b=some u):HOk P w H h':=fun a o e =>
 (x a o e).stay (fun b u _ q=>k b u q) (fun _ q=>q) fun _ _ q=>q
theorem HOk.laid (x:HOk P w H h) (k:∀ b u,h.get? b=some u→h'.get? b=some u) (hp:h.objs.size≤a) (new:ObjOk P w (upd H a o) h' a o):HOk P w (upd H a o) h':=fun b u e=>by
 have hn:=x.fresh hp
 by_cases hb:b=a
 ·subst hb; rw [upd_same] at e; cases e; exact new
 ·rw [upd_ne hb] at e
  exact (x b u e).stay (fun c v _ q=>k c v q) (fun c q=>by rw [upd_ne (ne_of_none q hn)]; exact q) fun c xs q=>by rw [upd_ne (ne_of_none q hn)]; exact q
end
def Rd (H:Hp) (a:Addr) (u:HO):Prop:=H a=some u∨∃ o,H a=some (.frz o u)
theorem Rd.ok {P:Program}{w:World}{H:Hp}{h:Heap}{a:Addr}{u:HO} (r:Rd H a u) (x:HOk P w H h):ObjOk P w H h a u:=by
 rcases r with r | ⟨o,r⟩
 ·exact x a u r
 ·obtain⟨_,q⟩:=x a _ r
  exact q
def Mut:Option HO→Prop
 | some (.lst _)=>True
 | some (.dK _)=>True
 | some (.dT _)=>True
 | some (.set _ _)=>True
 | some (.ins _ _ _)=>True
 | some (.ext _)=>True
 | _=>False
section
variable {P:Program}{w:World}{H:Hp}{h h':Heap}{x e:Addr}{o':HO}
theorem HOk.write (ok:HOk P w H h) (mu:Mut (H x)) (he:e=x∨H e=some (.own x)) (k:∀ b u,b≠e→h.get? b=some u→h'.get? b=some u) (heo:∃ u,h'.get? e=some u)
  (new:ObjOk P w (upd H x o') h' x o'):HOk P w (upd H x o') h':=fun b u q=>by
 have nown:∀ c y,H c=some (.own y)→c≠x:=fun c y r z=>by subst z; rw [r] at mu; exact mu
 have ntup:∀ c xs,H c=some (.tup xs)→c≠x:=fun c xs r z=>by subst z; rw [r] at mu; exact mu
 by_cases hb:b=x
 ·subst hb; rw [upd_same] at q; cases q; exact new
 ·rw [upd_ne hb] at q
  by_cases hbe:b=e
  ·have q':H b=some (.own x):=by
    rcases he with z | z
    ·exact absurd (hbe.trans z) hb
    ·rw [hbe]; exact z
   rw [q] at q'; cases q'
   obtain⟨v,hv⟩:=heo
   exact⟨v,by rw [hbe]; exact hv⟩
  ·refine (ok b u q).stay (fun c v hc r=>k c v ?_ r) (fun c r=>by rw [upd_ne (nown c b r)]; exact r) fun c xs r=>by rw [upd_ne (ntup c xs r)]; exact r
   rcases hc with rfl | hc
   ·exact hbe
   ·rintro rfl
    rcases he with z | z
    ·exact nown c b hc z
    ·rw [hc] at z; cases z; exact hb rfl
end
structure Un (fs ex:List Addr) (H H':Hp) (h h':Heap):Prop where
 keep:∀ b o,h.get? b=some o→H b=none→b ∉ fs→b ∉ ex→h'.get? b=some o
 slot:∀ b o,h.get? b=some o→H b=none→b∈fs→b ∉ ex→∃ sl,h'.get? b=some { o with slots:=sl }
 free:∀ b o,h.get? b=some o→H b=none→b ∉ ex→H' b=none
 there:∀ b o,h.get? b=some o→b ∉ ex→∃ o',h'.get? b=some o'
 tups:∀ b xs,H b=some (.tup xs)→H' b=some (.tup xs)
 frzs:∀ b o u,H b=some (.frz o u)→H' b=some (.frz o u)
 tbls:∀ b ps,H b=some (.tbl ps)→∃ more,H' b=some (.tbl (ps++more))
section
variable {fs fs' ex ex':List Addr}{H H1 H2:Hp}{h h1 h2 h':Heap}{a x e:Addr}{o:HO}
theorem Un.any (u:Un fs ex H H1 h h1) {b:Addr}{ob:Obj} (q:h.get? b=some ob) (n:H b=none) (hx:b ∉ ex):∃ sl,h1.get? b=some { ob with slots:=sl }:=by
 by_cases hb:b∈fs
 ·exact u.slot b ob q n hb hx
 ·exact⟨ob.slots,u.keep b ob q n hb hx⟩
theorem Un.kept (k:∀ b u,h.get? b=some u→h'.get? b=some u):Un fs ex H H h h' :=
 ⟨fun b ob q _ _ _=>k b ob q,fun b ob q _ _ _=>⟨ob.slots,k b ob q⟩,fun _ _ _ n _=>n,fun b ob q _=>⟨ob,k b ob q⟩,fun _ _ q=>q,fun _ _ _ q=>q,fun _ ps q=>⟨#[],by rw [q]; simp⟩⟩
theorem Un.refl:Un fs ex H H h h:=Un.kept fun _ _ q=>q
theorem Un.laid (k:∀ b u,h.get? b=some u→h'.get? b=some u) (hp:h.objs.size≤a) (hn:H a=none):Un fs ex H (upd H a o) h h' where
 keep:=fun b u q _ _ _=>k b u q
 slot:=fun b u q _ _ _=>⟨u.slots,k b u q⟩
 free:=fun b u q n _=>by rw [upd_ne (Nat.ne_of_lt (Nat.lt_of_lt_of_le (Heap.lt_size q) hp))]; exact n
 there:=fun b u q _=>⟨u,k b u q⟩
 tups:=fun b xs q=>by rw [upd_ne (ne_of_none q hn)]; exact q
 frzs:=fun b u xs q=>by rw [upd_ne (ne_of_none q hn)]; exact q
 tbls:=fun b ps q=>⟨#[],by rw [upd_ne (ne_of_none q hn),q]; simp⟩
theorem Un.write (mu:Mut (H x)) (he:e=x∨H e=some (.own x)) (k:∀ b u,b≠e→h.get? b=some u→h'.get? b=some u) (heo:∃ u,h'.get? e=some u):Un fs ex H (upd H x o) h h':=by
 have hx:∀ b,H b=none→b≠x:=fun b n z=>by subst z; rw [n] at mu; exact mu
 have hb:∀ b,H b=none→b≠e:=fun b n z=>by
  subst z
  rcases he with r | r
  ·exact hx b n r
  ·rw [n] at r; cases r
 have hm:∀ b u,H b=some u→¬ Mut (some u)→b≠x:=fun b u q nm z=>by subst z; rw [q] at mu; exact nm mu
 refine⟨fun b u q n _ _=>k b u (hb b n) q,fun b u q n _ _=>⟨u.slots,k b u (hb b n) q⟩,fun b u q n _=>by rw [upd_ne (hx b n)]; exact n,fun b u q _=>?_,
  fun b xs q=>by rw [upd_ne (hm b _ q fun z=>z)]; exact q,fun b u xs q=>by rw [upd_ne (hm b _ q fun z=>z)]; exact q,fun b ps q=>⟨#[],by rw [upd_ne (hm b _ q fun z=>z),q]; simp⟩⟩
 by_cases hbe:b=e
 ·subst hbe; exact heo
 ·exact⟨u,k b u hbe q⟩
end
def trk (h:Heap) (H:Hp):List Addr:=(List.range h.objs.size).filter fun a=>(H a).isSome
def hidT (h:Heap) (H:Hp):Heap:=PySem.W.hideAll h (trk h H)
theorem hidT_size (h:Heap) (H:Hp):(hidT h H).objs.size=h.objs.size:=PySem.W.hideAll_size _ _
theorem hidT_get {h:Heap}{H:Hp}{b:Addr}{o:Obj} (e:h.get? b=some o) (n:H b=none):(hidT h H).get? b=some o :=
 PySem.W.hideAll_get _ e fun hm=>by
  have q:(H b).isSome=true:=(List.mem_filter.mp hm).2
  rw [n] at q; simp at q
theorem of_hidT {h:Heap}{H:Hp}{b:Addr}{o:Obj} (e:(hidT h H).get? b=some o):h.get? b=some o∧H b=none:=by
 have e':h.get? b=some o:=PySem.W.of_hideAll (trk h H) e
 refine⟨e',?_⟩
 cases q:H b with
 | none=>rfl
 | some x =>
  have hm:b∈trk h H:=List.mem_filter.mpr ⟨List.mem_range.mpr (Heap.lt_size e'),by simp [q]⟩
  have z:(hidT h H).get? b=none:=PySem.W.hideAll_none (trk h H) hm
  rw [z] at e; cases e
end L2
namespace L2
open PySem PySem.Spec PyProof.Rows
structure Mod (K:PySem.W.Frag) (mg:Str→Option Value) (base:Heap):Prop where
 kin:K.In base
 glob:base.Ns mainGlobals mg
 blt:∃ mb,base.Ns builtinsNs mb∧∀ x:Str,x≠"__name__"→mb x=bootBuiltins x
 nolimit:base.NoLimit
structure Cx where
 prog:Program
 w:World
 K:PySem.W.Frag
 mg:Str→Option Value
 base:Heap
 A:Around
 N:List Str
 s₀:Shared
 H₀:Hp
 env:Env
 outer:List Env
 stack:List Env
 ex:List Addr
 fn:Str→Bool
 calm:Bool
 pn:List (Addr×Obj)
 xe:Value→Shared→Prop
def frs (l:List Env):List Addr:=l.filterMap (·.frame)
abbrev Cx.fs (X:Cx):List Addr:=frs X.outer
def Vis (sc:Scope) (x:Str):Prop:=sc.names.lookup x=some .local∨sc.names.lookup x=some .cell∨sc.names.lookup x=some .free
def Loc (sc:Scope) (x:Str):Prop:=sc.names.lookup x=some .local∨sc.names.lookup x=some .cell
def Look (env:Env) (h:Heap) (m:Str→Option Value) (x:Str) (u:Value):Prop :=
 (env.kindOf x=some .local∧m x=some u)∨((env.kindOf x=some .cell∨env.kindOf x=some .free)∧∃ c,env.cells.lookup x=some c∧h.IsCell c (some u))
structure Cx.Ok (X:Cx):Prop where
 mod:Mod X.K X.mg X.base
 kind:X.env.scope.kind=.function
 glob:X.env.globals=mainGlobals
 blt:X.env.builtins=builtinsNs
 above:X.s₀.heap.objs.size≤X.env.locals
 inj:∀ x y c,X.env.cells.lookup x=some c→X.env.cells.lookup y=some c→x=y
 has:∀ x,(X.env.kindOf x=some .cell∨X.env.kindOf x=some .free)→∃ c,X.env.cells.lookup x=some c
 cab:∀ x c,X.fn x=true→X.env.cells.lookup x=some c→X.s₀.heap.objs.size≤c
 hd:X.calm=true→X.A.handled=none
 frames:X.A.frames=some X.stack
 stk:X.stack=X.outer∨(X.stack=X.env::X.outer∧X.env.frame=some X.env.locals)
 exf:∀ b∈X.ex,b≠X.env.locals∧∀ x c,X.env.cells.lookup x=some c→c≠b
 bs:∀ b o,X.base.get? b=some o→X.s₀.heap.get? b=some o∧X.H₀ b=none
 bsz:X.base.objs.size≤X.s₀.heap.objs.size
 noex:∀ b o,X.base.get? b=some o→b ∉ X.ex
 exfs:∀ b∈X.ex,b ∉ X.fs
 funs:X.s₀.heap.FunFrames X.base X.outer
 frf:∀ b∈X.fs,X.H₀ b=none
structure Inv (X:Cx) (pins:List (Addr×Obj)) (σ:List (Option V)) (H:Hp) (s:Shared):Prop where
 ok:X.Ok
 os:s.os=X.s₀.os
 bare:AllBare s.gens
 base:Un X.fs X.ex X.H₀ H X.s₀.heap s.heap
 loc:∃ m,s.heap.Ns X.env.locals m∧∀ (i:Nat) (x:Str) (v:V),X.N[i]?=some x→σ[i]?=some (some v)→Vis X.env.scope x→∃ u,RelV v u∧Look X.env s.heap m x u
 cell:∀ x c,X.env.cells.lookup x=some c→∃ v,s.heap.IsCell c v
 free:H X.env.locals=none
 freeC:∀ x c,X.env.cells.lookup x=some c→H c=none
 pin:∀ p∈X.pn++pins,s.heap.get? p.1=some p.2∧H p.1=none∧p.1≠X.env.locals∧p.1 ∉ X.fs∧∀ v,p.2.data≠.cell v
 hok:HOk X.prog X.w H s.heap
 len:σ.length=X.N.length
section
variable {X:Cx}{pins:List (Addr×Obj)}{σ:List (Option V)}{H H':Hp}{s:Shared}{h':Heap}
theorem Cx.Ok.nofr (ok:X.Ok) {b:Addr}{o:Obj} (e:X.base.get? b=some o):b ∉ X.fs:=fun hb=>by
 have:=(ok.funs.mem hb).1
 rw [e] at this; cases this
theorem Inv.bs (I:Inv X pins σ H s):∀ b o,X.base.get? b=some o→s.heap.get? b=some o∧H b=none:=fun b o e =>
 ⟨I.base.keep b o (I.ok.bs b o e).1 (I.ok.bs b o e).2 (I.ok.nofr e) (I.ok.noex b o e),I.base.free b o (I.ok.bs b o e).1 (I.ok.bs b o e).2 (I.ok.noex b o e)⟩
theorem Inv.bk (I:Inv X pins σ H s):∀ b o,X.base.get? b=some o→s.heap.get? b=some o:=fun b o e=>(I.bs b o e).1
theorem Inv.mod (I:Inv X pins σ H s):Mod X.K X.mg X.base:=I.ok.mod
theorem Inv.kIn (I:Inv X pins σ H s):X.K.In s.heap:=I.ok.mod.kin.keeps I.bk
theorem Inv.lt (I:Inv X pins σ H s):X.env.locals<s.heap.objs.size:=let ⟨_,hn,_⟩:=I.loc; hn.lt
theorem Inv.sz (I:Inv X pins σ H s):X.s₀.heap.objs.size≤s.heap.objs.size:=Nat.le_trans I.ok.above (Nat.le_of_lt I.lt)
theorem Inv.nofs (I:Inv X pins σ H s) {a:Addr} (h:s.heap.objs.size≤a):a ∉ X.fs:=fun hb=>by
 obtain⟨_,o,ho,_⟩:=I.ok.funs.mem hb
 exact absurd (Nat.lt_of_lt_of_le (Heap.lt_size ho) (Nat.le_trans I.sz h)) (Nat.lt_irrefl _)
theorem Inv.cne (I:Inv X pins σ H s):∀ x c,X.env.cells.lookup x=some c→c≠X.env.locals:=fun x c e z=>by
 obtain⟨v,o,ho,hd⟩:=I.cell x c e
 obtain⟨m,⟨o',es,ep,ho',hd',_⟩,_⟩:=I.loc
 rw [z,ho'] at ho; cases ho; rw [hd'] at hd; cases hd
theorem Inv.funs (I:Inv X pins σ H s):s.heap.FunFrames X.base X.outer:=by
 have all:∀ (l:List Env),(∀ b∈frs l,b∈X.fs)→X.s₀.heap.FunFrames X.base l→s.heap.FunFrames X.base l:=by
  intro l
  induction l with
  | nil=>intro _ _; trivial
  | cons env r ih =>
   intro hs hl
   obtain⟨hk,⟨L,o,hf,hn,ho,hd⟩,hr⟩:=hl
   have hL:L∈X.fs:=hs L (by unfold frs; rw [List.filterMap_cons,hf]; exact List.mem_cons_self)
   obtain⟨sl,e⟩:=I.base.slot L o ho (I.ok.frf L hL) hL fun z=>I.ok.exfs L z hL
   exact⟨hk,⟨L,_,hf,hn,e,hd⟩,ih (fun b hb=>hs b (by unfold frs; rw [List.filterMap_cons,hf]; exact List.mem_cons_of_mem _ hb)) hr⟩
 exact all X.outer (fun _ hb=>hb) I.ok.funs
theorem Inv.stack (I:Inv X pins σ H s):s.heap.FunFrames X.base X.stack:=by
 rcases I.ok.stk with e | ⟨e,hf⟩
 ·rw [e]; exact I.funs
 ·rw [e]
  obtain⟨m,hn,_⟩:=I.loc
  refine .cons (by rw [I.ok.kind]; decide) hf hn ?_ I.funs
  exact Heap.get?_none_of_le (Nat.le_trans I.ok.bsz I.ok.above)
theorem Inv.stkSub (I:Inv X pins σ H s):∀ b∈frs X.stack,b∈X.env.locals::X.fs:=fun b hb=>by
 rcases I.ok.stk with e | ⟨e,hf⟩
 ·rw [e] at hb; exact List.mem_cons_of_mem _ hb
 ·rw [e] at hb
  unfold frs at hb
  rw [List.filterMap_cons,hf] at hb
  exact hb
theorem Inv.stkFree (I:Inv X pins σ H s):∀ b∈frs X.stack,H b=none:=fun b hb=>by
 rcases List.mem_cons.mp (I.stkSub b hb) with e | hb
 ·rw [e]; exact I.free
 ·obtain⟨_,o,ho,_⟩:=I.ok.funs.mem hb
  exact I.base.free b o ho (I.ok.frf b hb) fun z=>I.ok.exfs b z hb
theorem Inv.step {g':Array GenState}{t':Nat}{d':Drawn}{ch:List Addr} (I:Inv X pins σ H s)
  (hch:∀ b∈ch,(b∈X.ex∨X.s₀.heap.objs.size≤b)∧b≠X.env.locals∧(∀ x c,X.env.cells.lookup x=some c→c≠b)∧∀ p∈X.pn++pins,p.1≠b)
  (keep:∀ b o,b≠X.env.locals→b ∉ X.fs→b ∉ ch→s.heap.get? b=some o→H b=none→h'.get? b=some o)
  (slot:∀ b o,b≠X.env.locals→b∈X.fs→b ∉ ch→s.heap.get? b=some o→H b=none→∃ sl,h'.get? b=some { o with slots:=sl }) (free:∀ b o,b ∉ ch→s.heap.get? b=some o→H b=none→H' b=none)
  (there:∀ b o,b ∉ ch→s.heap.get? b=some o→∃ o',h'.get? b=some o')
  (tups:∀ b xs,H b=some (.tup xs)→H' b=some (.tup xs)) (frzs:∀ b o u,H b=some (.frz o u)→H' b=some (.frz o u)) (tbls:∀ b ps,H b=some (.tbl ps)→∃ more,H' b=some (.tbl (ps++more)))
  (ns:∀ m,s.heap.Ns X.env.locals m→h'.Ns X.env.locals m) (hok:HOk X.prog X.w H' h') (hg:AllBare g') :
  Inv X pins σ H' { s with heap:=h',gens:=g',drawn:=d',toks:=t' }:=by
 have neL:∀ b o,X.s₀.heap.get? b=some o→b≠X.env.locals:=fun b o e=>Nat.ne_of_lt (Nat.lt_of_lt_of_le (Heap.lt_size e) I.ok.above)
 have neC:∀ b o,X.s₀.heap.get? b=some o→b ∉ X.ex→b ∉ ch:=fun b o e hx hb=>by
  rcases (hch b hb).1 with z | z
  ·exact hx z
  ·exact absurd (Nat.lt_of_lt_of_le (Heap.lt_size e) z) (Nat.lt_irrefl _)
 have cellK:∀ x c,X.env.cells.lookup x=some c→∀ v,s.heap.IsCell c v→h'.IsCell c v:=fun x c e v ⟨o,ho,hd⟩=>by
  have nch:c ∉ ch:=fun z=>(hch c z).2.2.1 x c e rfl
  by_cases hc:c∈X.fs
  ·obtain⟨sl,q⟩:=slot c o (I.cne x c e) hc nch ho (I.freeC x c e)
   exact⟨_,q,hd⟩
  ·exact⟨o,keep c o (I.cne x c e) hc nch ho (I.freeC x c e),hd⟩
 refine⟨I.ok,I.os,hg,⟨fun b o e n hb hx=>?_,fun b o e n hb hx=>?_,fun b o e n hx=>?_,fun b o e hx=>?_,fun b xs e=>tups b xs (I.base.tups b xs e),fun b o xs e=>frzs b o xs (I.base.frzs b o xs e),fun b ps e=>?_⟩,?_,fun x c e=>?_,?_,fun x c e=>?_,fun p hp=>?_,hok,I.len⟩
 ·exact keep b o (neL b o e) hb (neC b o e hx) (I.base.keep b o e n hb hx) (I.base.free b o e n hx)
 ·obtain⟨sl,e1⟩:=I.base.slot b o e n hb hx
  obtain⟨sl',e2⟩:=slot b _ (neL b o e) hb (neC b o e hx) e1 (I.base.free b o e n hx)
  exact⟨sl',e2⟩
 ·obtain⟨o',e1⟩:=I.base.there b o e hx
  exact free b o' (neC b o e hx) e1 (I.base.free b o e n hx)
 ·obtain⟨o',e1⟩:=I.base.there b o e hx
  exact there b o' (neC b o e hx) e1
 ·obtain⟨m1,e1⟩:=I.base.tbls b ps e
  obtain⟨m2,e2⟩:=tbls b _ e1
  exact⟨m1++m2,by rw [e2,Array.append_assoc]⟩
 ·obtain⟨m,hn,hl⟩:=I.loc
  refine⟨m,ns m hn,fun i x v e1 e2 e3=>?_⟩
  obtain⟨u,r,l⟩:=hl i x v e1 e2 e3
  refine⟨u,r,?_⟩
  rcases l with l | ⟨k,c,e,z⟩
  ·exact .inl l
  ·exact .inr ⟨k,c,e,cellK x c e _ z⟩
 ·obtain⟨v,z⟩:=I.cell x c e
  exact⟨v,cellK x c e v z⟩
 ·obtain⟨m,⟨o,_,_,ho,_⟩,_⟩:=I.loc
  exact free _ o (fun z=>(hch _ z).2.1 rfl) ho I.free
 ·obtain⟨v,o,ho,hd⟩:=I.cell x c e
  exact free c o (fun z=>(hch c z).2.2.1 x c e rfl) ho (I.freeC x c e)
 ·obtain⟨e,n,ne,nf,d⟩:=I.pin p hp
  have nch:p.1 ∉ ch:=fun z=>(hch p.1 z).2.2.2 p hp rfl
  exact⟨keep p.1 p.2 ne nf nch e n,free p.1 p.2 nch e n,ne,nf,d⟩
theorem Inv.un {t':Nat} (I:Inv X pins σ H s) (u:Un X.fs [] H H' s.heap h') (hok:HOk X.prog X.w H' h'):Inv X pins σ H' { s with heap:=h',toks:=t' }:=by
 obtain⟨m,⟨o,es,ep,ho,r⟩,_⟩:=id I.loc
 obtain⟨sl,hL⟩:=u.any ho I.free (by simp)
 exact I.step (g':=s.gens) (d':=s.drawn) (ch:=[]) (fun _ z=>nomatch z) (fun b o _ hb _ e n=>u.keep b o e n hb (by simp)) (fun b o _ hb _ e n=>u.slot b o e n hb (by simp)) (fun b o _ e n=>u.free b o e n (by simp)) (fun b o _ e=>u.there b o e (by simp)) u.tups u.frzs u.tbls (fun m' hm=>by
  obtain⟨o',es',ep',ho',r'⟩:=hm
  rw [ho] at ho'; cases ho'
  exact⟨_,es',ep',hL,r'⟩) hok I.bare
theorem Inv.call {g':Array GenState}{t':Nat}{d':Drawn}{ch:List Addr} (I:Inv X pins σ H s) (u:Un (frs X.stack) ch H H' s.heap h') (hok:HOk X.prog X.w H' h') (hg:AllBare g')
  (hch:∀ b∈ch,(b∈X.ex∨X.s₀.heap.objs.size≤b)∧b≠X.env.locals∧(∀ x c,X.env.cells.lookup x=some c→c≠b)∧∀ p∈X.pn++pins,p.1≠b) :
  Inv X pins σ H' { s with heap:=h',gens:=g',drawn:=d',toks:=t' }:=by
 obtain⟨m,⟨o,es,ep,ho,r⟩,_⟩:=id I.loc
 obtain⟨sl,hL⟩:=u.any ho I.free fun z=>(hch _ z).2.1 rfl
 exact I.step (ch:=ch) hch (fun b o hL hb hc e n=>u.keep b o e n (fun z=>(List.mem_cons.mp (I.stkSub b z)).elim hL hb) hc) (fun b o _ _ hc e n=>u.any e n hc) (fun b o hc e n=>u.free b o e n hc) (fun b o hc e=>u.there b o e hc) u.tups u.frzs u.tbls (fun m' hm=>by
  obtain⟨o',es',ep',ho',r'⟩:=hm
  rw [ho] at ho'; cases ho'
  exact⟨_,es',ep',hL,r'⟩) hok hg
theorem Inv.turned {t':Nat}{it:Addr} (I:Inv X pins σ H s) (k:∀ b o,b≠it→s.heap.get? b=some o→h'.get? b=some o) (hn:H it=none) (hL:it≠X.env.locals)
  (h1:it∈X.ex∨X.s₀.heap.objs.size≤it) (h2:∀ x c,X.env.cells.lookup x=some c→c≠it) (h3:∀ p∈X.pn++pins,p.1≠it):Inv X pins σ H { s with heap:=h',toks:=t' }:=by
 have nit:∀ b u,H b=some u→b≠it:=fun b u e z=>by rw [z,hn] at e; cases e
 refine I.step (g':=s.gens) (d':=s.drawn) (ch:=[it]) (fun b hb=>?_) (fun b o _ _ hc e _=>k b o (fun z=>hc (by simp [z])) e) (fun b o _ _ hc e _=>⟨o.slots,k b o (fun z=>hc (by simp [z])) e⟩) (fun _ _ _ _ n=>n)
  (fun b o hc e=>⟨o,k b o (fun z=>hc (by simp [z])) e⟩) (fun _ _ e=>e) (fun _ _ _ e=>e) (fun b ps e=>⟨#[],by rw [e]; simp⟩) (fun m hm=>?_) (fun b u e=>?_) I.bare
 ·have e:b=it:=by simpa using hb
  subst e
  exact⟨h1,hL,h2,h3⟩
 ·obtain⟨o,es,ep,ho,r⟩:=hm
  exact⟨o,es,ep,k _ o (Ne.symm hL) ho,r⟩
 ·refine (I.hok b u e).stay (fun c v hc q=>k c v ?_ q) (fun _ q=>q) fun _ _ q=>q
  rcases hc with z | z
  ·rw [z]; exact nit b u e
  ·exact nit c _ z
theorem Inv.tok (I:Inv X pins σ H s) (t:Nat):Inv X pins σ H { s with toks:=t }:=I.un (h':=s.heap) (t':=t) Un.refl I.hok
theorem Inv.kept {t':Nat} (I:Inv X pins σ H s) (k:∀ b u,s.heap.get? b=some u→h'.get? b=some u):Inv X pins σ H { s with heap:=h',toks:=t' }:=I.un (Un.kept k) (I.hok.kept k)
theorem Inv.laid {a:Addr}{o:HO}{t':Nat} (I:Inv X pins σ H s) (k:∀ b u,s.heap.get? b=some u→h'.get? b=some u) (hp:s.heap.objs.size≤a) (new:ObjOk X.prog X.w (upd H a o) h' a o) :
  Inv X pins σ (upd H a o) { s with heap:=h',toks:=t' }:=I.un (Un.laid k hp (I.hok.fresh hp)) (I.hok.laid k hp new)
theorem Inv.write {x e:Addr}{o:HO}{t':Nat} (I:Inv X pins σ H s) (mu:Mut (H x)) (he:e=x∨H e=some (.own x)) (k:∀ b u,b≠e→s.heap.get? b=some u→h'.get? b=some u) (heo:∃ u,h'.get? e=some u)
  (new:ObjOk X.prog X.w (upd H x o) h' x o):Inv X pins σ (upd H x o) { s with heap:=h',toks:=t' }:=I.un (Un.write mu he k heo) (I.hok.write mu he k heo new)
theorem Inv.pins_of {pins':List (Addr×Obj)} (I:Inv X pins σ H s) (h:∀ p∈pins',s.heap.get? p.1=some p.2∧H p.1=none∧p.1≠X.env.locals∧p.1 ∉ X.fs∧∀ v,p.2.data≠.cell v):Inv X pins' σ H s :=
 ⟨I.ok,I.os,I.bare,I.base,I.loc,I.cell,I.free,I.freeC,fun p hp=>(List.mem_append.mp hp).elim (fun z=>I.pin p (List.mem_append_left _ z)) (h p),I.hok,I.len⟩
theorem nodup_ix {N:List Str} (hN:N.Nodup) {i j:Nat}{x:Str} (a:N[i]?=some x) (b:N[j]?=some x):i=j:=by
 obtain⟨h1,e1⟩:=List.getElem?_eq_some_iff.mp a
 obtain⟨h2,e2⟩:=List.getElem?_eq_some_iff.mp b
 exact (List.getElem_inj hN).mp (e1.trans e2.symm)
theorem store_ok2 {M:Model}{A:Around}{E:Value→Shared→Prop}{i:Nat}{x:Str}{v:V}{u:Value}{Q:Unit→Shared→Prop} (I:Inv X pins σ H s) (hN:X.N.Nodup) (hi:X.N[i]?=some x) (hx:Loc X.env.scope x) (r:RelV v u)
  (h:∀ s',Inv X pins (σ.set i (some v)) H s'→(∃ a,Heap.SameBut a s.heap s'.heap∧(a=X.env.locals∨X.env.cells.lookup x=some a))→Q () s') (hf:X.fn x=true∨X.env.scope.names.lookup x=some .local:=by first | exact .inl rfl | exact .inr rfl | assumption):wpAny M A (storeName X.env x u) Q E s:=by
 obtain⟨m,hn,hl⟩:=id I.loc
 have hcls:(X.env.scope.kind == .class || (X.env.scope.kind == .module && X.env.locals != X.env.globals))=false:=by rw [I.ok.kind]; rfl
 have hiσ:i<σ.length:=by rw [I.len]; exact (List.getElem?_eq_some_iff.mp hi).1
 have cne:=I.cne
 have tracked:∀ {a:Addr}{h':Heap},(∃ o,s.heap.get? a=some o∧H a=none)→Heap.SameBut a s.heap h'→HOk X.prog X.w H h':=fun {a h'} ha hs b ob e=>by
  obtain⟨_,_,hfree⟩:=ha
  refine (I.hok b ob e).stay (fun c w' hc q=>(hs.2 c ?_).trans q) (fun _ q=>q) fun _ _ q=>q
  rintro rfl
  rcases hc with rfl | hc
  ·rw [hfree] at e; cases e
  ·rw [hfree] at hc; cases hc
 rcases hx with hk | hk
 ·refine wpAny_storeName_local hk hn (fun h' hn' hs=>?_) hcls
  obtain⟨oL,_,_,hoL,_⟩:=id hn
  refine h _ ⟨I.ok,I.os,I.bare,⟨fun b o e n hb hx=>?_,fun b o e n hb hx=>?_,I.base.free,fun b o e hx=>?_,I.base.tups,I.base.frzs,I.base.tbls⟩,⟨_,hn',fun j y v' e1 e2 e3=>?_⟩,fun y c e=>?_,I.free,I.freeC,fun p hp=>?_,tracked ⟨oL,hoL,I.free⟩ hs,by simpa using I.len⟩ ⟨_,hs,.inl rfl⟩
  ·exact (hs.2 b (Nat.ne_of_lt (Nat.lt_of_lt_of_le (Heap.lt_size e) I.ok.above))).trans (I.base.keep b o e n hb hx)
  ·obtain⟨sl,e1⟩:=I.base.slot b o e n hb hx
   exact⟨sl,(hs.2 b (Nat.ne_of_lt (Nat.lt_of_lt_of_le (Heap.lt_size e) I.ok.above))).trans e1⟩
  ·obtain⟨o',e1⟩:=I.base.there b o e hx
   exact⟨o',(hs.2 b (Nat.ne_of_lt (Nat.lt_of_lt_of_le (Heap.lt_size e) I.ok.above))).trans e1⟩
  ·by_cases hj:j=i
   ·subst hj
    rw [hi] at e1; cases e1
    rw [List.getElem?_set_self hiσ] at e2
    cases e2
    exact⟨u,r,.inl ⟨hk,by simp⟩⟩
   ·rw [List.getElem?_set_ne (Ne.symm hj)] at e2
    obtain⟨u',r',q⟩:=hl j y v' e1 e2 e3
    refine⟨u',r',?_⟩
    rcases q with⟨k,e⟩ | ⟨k,c,e,z⟩
    ·refine .inl ⟨k,?_⟩
     have:y≠x:=fun e=>hj (nodup_ix hN e1 (e ▸ hi))
     simp [this,e]
    ·exact .inr ⟨k,c,e,z.sameBut hs (cne y c e)⟩
  ·obtain⟨w',z⟩:=I.cell y c e
   exact⟨w',z.sameBut hs (cne y c e)⟩
  ·obtain⟨e,n,ne,nf,d⟩:=I.pin p hp
   exact⟨(hs.2 p.1 ne).trans e,n,ne,nf,d⟩
 ·have hfn:X.fn x=true:=by
   rcases hf with z | z
   ·exact z
   ·rw [z] at hk; cases hk
  obtain⟨c,hc⟩:=I.ok.has x (.inl hk)
  obtain⟨w',z⟩:=I.cell x c hc
  refine wpAny_storeName_cell I.ok.kind hk hc z (fun h' hc' hs=>?_)
  obtain⟨oc,hoc,hocd⟩:=id z
  refine h { s with heap:=h' } ⟨I.ok,I.os,I.bare,⟨fun b o e n hb hx=>?_,fun b o e n hb hx=>?_,I.base.free,fun b o e hx=>?_,I.base.tups,I.base.frzs,I.base.tbls⟩,⟨m,hn.sameBut hs (Ne.symm (cne x c hc)),fun j y v' e1 e2 e3=>?_⟩,fun y c' e=>?_,I.free,I.freeC,fun p hp=>?_,tracked ⟨oc,hoc,I.freeC x c hc⟩ hs,by simpa using I.len⟩ ⟨c,hs,.inr hc⟩
  ·exact (hs.2 b (Nat.ne_of_lt (Nat.lt_of_lt_of_le (Heap.lt_size e) (I.ok.cab x c hfn hc)))).trans (I.base.keep b o e n hb hx)
  ·obtain⟨sl,e1⟩:=I.base.slot b o e n hb hx
   exact⟨sl,(hs.2 b (Nat.ne_of_lt (Nat.lt_of_lt_of_le (Heap.lt_size e) (I.ok.cab x c hfn hc)))).trans e1⟩
  ·obtain⟨o',e1⟩:=I.base.there b o e hx
   exact⟨o',(hs.2 b (Nat.ne_of_lt (Nat.lt_of_lt_of_le (Heap.lt_size e) (I.ok.cab x c hfn hc)))).trans e1⟩
  ·by_cases hj:j=i
   ·subst hj
    rw [hi] at e1; cases e1
    rw [List.getElem?_set_self hiσ] at e2
    cases e2
    exact⟨u,r,.inr ⟨.inl hk,c,hc,hc'⟩⟩
   ·rw [List.getElem?_set_ne (Ne.symm hj)] at e2
    obtain⟨u',r',q⟩:=hl j y v' e1 e2 e3
    refine⟨u',r',?_⟩
    rcases q with q | ⟨k,c',e,z'⟩
    ·exact .inl q
    ·refine .inr ⟨k,c',e,z'.sameBut hs ?_⟩
     rintro rfl
     exact hj (nodup_ix hN e1 (I.ok.inj _ _ _ e hc ▸ hi))
  ·by_cases hcc:c'=c
   ·subst hcc; exact⟨_,hc'⟩
   ·obtain⟨w2,z2⟩:=I.cell y c' e
    exact⟨w2,z2.sameBut hs hcc⟩
  ·obtain⟨e,n,ne,nf,d⟩:=I.pin p hp
   refine⟨(hs.2 p.1 ?_).trans e,n,ne,nf,d⟩
   intro q
   rw [q,hoc] at e
   have q':oc=p.2:=Option.some.inj e
   exact d w' (by rw [← q']; exact hocd)
theorem store_ok {M:Model}{A:Around}{E:Value→Shared→Prop}{i:Nat}{x:Str}{v:V}{u:Value}{Q:Unit→Shared→Prop} (I:Inv X pins σ H s) (hN:X.N.Nodup) (hi:X.N[i]?=some x) (hx:Loc X.env.scope x) (r:RelV v u)
  (h:∀ s',Inv X pins (σ.set i (some v)) H s'→Q () s') (hf:X.fn x=true∨X.env.scope.names.lookup x=some .local:=by first | exact .inl rfl | exact .inr rfl | assumption):wpAny M A (storeName X.env x u) Q E s :=
 store_ok2 I hN hi hx r (fun s' I' _=>h s' I') hf
theorem Inv.call' {s':Shared}{ch:List Addr} (I:Inv X pins σ H s) (ho:s'.os=s.os) (u:Un (frs X.stack) ch H H' s.heap s'.heap) (hok:HOk X.prog X.w H' s'.heap) (hg:AllBare s'.gens)
  (hch:∀ b∈ch,(b∈X.ex∨X.s₀.heap.objs.size≤b)∧b≠X.env.locals∧(∀ x c,X.env.cells.lookup x=some c→c≠b)∧∀ p∈X.pn++pins,p.1≠b):Inv X pins σ H' s':=by
 obtain⟨h',g',d',t',o'⟩:=s'
 have e:o'=s.os:=ho
 subst e
 exact I.call (g':=g') (t':=t') (d':=d') u hok hg hch
end
abbrev XK:=Value→Option Addr→Hp→Prop
abbrev St:=List (Option V)
abbrev VK:=V→Hp→Prop
abbrev TE:=St→Hp→VK→Prop
abbrev TT:=St→Hp→(Bool→Hp→Prop)→Prop
abbrev TA:=St→Hp→(List V→Hp→Prop)→Prop
structure Ends where
 nx:St→Hp→Prop
 rt:VK
 bk:St→Hp→Prop:=fun _ _=>False
 ct:St→Hp→Prop:=fun _ _=>False
abbrev TS:=Ends→St→Hp→Prop
def EP (X:Cx) (pins:List (Addr×Obj)) (σ:St) (Q:VK) (u:Value) (s':Shared):Prop:=∃ v H',Inv X pins σ H' s'∧RelV v u∧Q v H'
def TP (X:Cx) (pins:List (Addr×Obj)) (σ:St) (Q:Bool→Hp→Prop) (b:Bool) (s':Shared):Prop:=∃ H',Inv X pins σ H' s'∧Q b H'
def AP (X:Cx) (pins:List (Addr×Obj)) (σ:St) (Q:List V→Hp→Prop) (us:List Value) (s':Shared):Prop:=∃ vs H',Inv X pins σ H' s'∧Vals vs us∧Q vs H'
def SP (X:Cx) (pins:List (Addr×Obj)) (D:Ends) (f:Flow) (s':Shared):Prop :=
 match f with
 | .next=>∃ σ' H',Inv X pins σ' H' s'∧D.nx σ' H'
 | .brk=>∃ σ' H',Inv X pins σ' H' s'∧D.bk σ' H'
 | .cont=>∃ σ' H',Inv X pins σ' H' s'∧D.ct σ' H'
 | .ret u=>∃ v σ' H',Inv X pins σ' H' s'∧RelV v u∧D.rt v H'
def PE (X:Cx) (e:Expr) (t:TE):Prop :=
 ∀ (pins:List (Addr×Obj)) (s:Shared) (σ:St) (H:Hp) (Q:VK),Inv X pins σ H s→t σ H Q→wpAny (model X.prog X.w) X.A (eval e X.env) (EP X pins σ Q) X.xe s
def PT (X:Cx) (e:Expr) (t:TT):Prop :=
 ∀ (pins:List (Addr×Obj)) (s:Shared) (σ:St) (H:Hp) (Q:Bool→Hp→Prop),Inv X pins σ H s→t σ H Q→wpAny (model X.prog X.w) X.A (isTrue e X.env (eval e X.env)) (TP X pins σ Q) X.xe s
def PW (X:Cx) (e:Expr) (t:TT):Prop :=
 ∀ (whole:Sem Value) (pins:List (Addr×Obj)) (s:Shared) (σ:St) (H:Hp) (Q:Bool→Hp→Prop),Inv X pins σ H s→t σ H Q→wpAny (model X.prog X.w) X.A (isTrue e X.env whole) (TP X pins σ Q) X.xe s
theorem PW.pt {X:Cx}{e:Expr}{t:TT} (h:PW X e t):PT X e t:=h _
def PA (X:Cx) (es:List Expr) (t:TA):Prop :=
 ∀ (pos:Pos) (pins:List (Addr×Obj)) (s:Shared) (σ:St) (H:Hp) (Q:List V→Hp→Prop),Inv X pins σ H s→t σ H Q→wpAny (model X.prog X.w) X.A (spliced (backTo pos (starEach es X.env))) (AP X pins σ Q) X.xe s
def PS (X:Cx) (st:Stmt) (t:TS):Prop :=
 ∀ (pins:List (Addr×Obj)) (s:Shared) (σ:St) (H:Hp) (D:Ends),Inv X pins σ H s→t D σ H→wpAny (model X.prog X.w) X.A (exec st X.env) (SP X pins D) X.xe s
def PSs (X:Cx) (st:List Stmt) (t:TS):Prop :=
 ∀ (pins:List (Addr×Obj)) (s:Shared) (σ:St) (H:Hp) (D:Ends),Inv X pins σ H s→t D σ H→wpAny (model X.prog X.w) X.A (execs st X.env) (SP X pins D) X.xe s
theorem thn {α:Type}{t:Sem α}{Q Q':α→Shared→Prop}{M:Model}{A:Around}{E:Value→Shared→Prop}{s:Shared} (h:wpAny M A t Q E s) (hQ:∀ a s,Q a s→Q' a s):wpAny M A t Q' E s:=wpAny_mono h hQ fun _ _ x=>x
end L2
namespace L2
open PySem PySem.Spec PyProof.Rows
section
variable {X:Cx}
def tVar (i:Nat):TE:=fun σ H Q=>∃ v,σ[i]?=some (some v)∧Q v H
def tC (v:V):TE:=fun _ H Q=>Q v H
theorem pe_var {i:Nat}{x:Str}{pos:Pos} (hN:X.N[i]?=some x) (hv:Vis X.env.scope x) (hd:(x == ("__debug__":Str))=false:=by decide) (hcd:(x == ("__classdict__":Str))=false:=by decide):PE X (.Name x pos) (tVar i):=by
 intro pins s σ H Q I h
 obtain⟨v,e,h⟩:=h
 obtain⟨m,hn,hl⟩:=I.loc
 obtain⟨u,r,l⟩:=hl i x v hN e hv
 have fin:EP X pins σ Q u s:=⟨v,H,I,r,h⟩
 rcases l with⟨hk,hm⟩ | ⟨hk,c,hc,hcell⟩
 ·exact wpAny_Name (wpAny_loadName_local I.ok.kind hk hn hm fin) hd
 ·rcases hk with hk | hk
  ·exact wpAny_Name (wpAny_loadName_cell I.ok.kind hk hc hcell fin) hd
  ·exact wpAny_Name (wpAny_loadName_free I.ok.kind hk hc hcell fin hcd) hd
theorem pe_int {i j pos}:PE X (.Constant (.int i) j pos) (tC (.int i)):=fun _ _ _ H _ I h=>wpAny_Constant_int ⟨.int i,H,I.tok _,⟨_,rfl⟩,h⟩
theorem pe_bl {b j pos}:PE X (.Constant (.bool b) j pos) (tC (.bl b)):=fun _ _ _ H _ I h=>Constant_bool ⟨.bl b,H,I,rfl,h⟩
theorem pe_non {j pos}:PE X (.Constant .none j pos) (tC .non):=fun _ _ _ H _ I h=>Constant_none ⟨.non,H,I,rfl,h⟩
theorem pe_str {x j pos}:PE X (.Constant (.str x) j pos) (tC (.str x)):=fun _ _ _ H _ I h=>Calls.Constant_str ⟨.str x,H,I.tok _,⟨_,rfl⟩,h⟩
def Gl (X:Cx) (x:Str):Prop:=X.env.kindOf x=some .globalImplicit
theorem ld_glob {E:Value→Shared→Prop}{pins:List (Addr×Obj)}{s:Shared}{σ:St}{H:Hp}{x:Str}{u:Value}{pos:Pos}{Q:Value→Shared→Prop} (I:Inv X pins σ H s) (hg:Gl X x) (hm:X.mg x=some u) (h:Q u s)
  (hd:(x == ("__debug__":Str))=false:=by decide):wpAny (model X.prog X.w) X.A (eval (.Name x pos) X.env) Q E s :=
 Calls.Name_function_global I.ok.kind hg (Calls.loadGlobal_global (by rw [I.ok.glob]; exact I.mod.glob.keeps I.bk) hm h) hd
theorem ld_blt {E:Value→Shared→Prop}{pins:List (Addr×Obj)}{s:Shared}{σ:St}{H:Hp}{x:Str}{u:Value}{pos:Pos}{Q:Value→Shared→Prop} (I:Inv X pins σ H s) (hg:Gl X x) (hm:X.mg x=none) (hv:bootBuiltins x=some u) (h:Q u s)
  (hn:x≠"__name__":=by decide) (hd:(x == ("__debug__":Str))=false:=by decide):wpAny (model X.prog X.w) X.A (eval (.Name x pos) X.env) Q E s:=by
 obtain⟨mb,h1,h2⟩:=I.mod.blt
 exact Calls.Name_function_global I.ok.kind hg (Calls.loadGlobal_builtin (by rw [I.ok.glob]; exact I.mod.glob.keeps I.bk) hm (by rw [I.ok.blt]; exact h1.keeps I.bk) ((h2 x hn).trans hv) h) hd
theorem pe_glob {x:Str}{v:V}{u:Value}{pos:Pos} (hg:Gl X x) (hm:X.mg x=some u) (r:RelV v u) (hd:(x == ("__debug__":Str))=false:=by decide):PE X (.Name x pos) (tC v) :=
 fun _ _ _ H _ I h=>ld_glob I hg hm ⟨v,H,I,r,h⟩ hd
theorem pe_bltn {x:Str}{v:V}{u:Value}{pos:Pos} (hg:Gl X x) (hm:X.mg x=none) (hv:bootBuiltins x=some u) (r:RelV v u) (hn:x≠"__name__":=by decide) (hd:(x == ("__debug__":Str))=false:=by decide):PE X (.Name x pos) (tC v) :=
 fun _ _ _ H _ I h=>ld_blt I hg hm hv ⟨v,H,I,r,h⟩ hn hd
variable {a b:Expr}{ta tb:TE}{pos:Pos}
def tB (t:TE):TT:=fun σ H Q=>t σ H fun x H1=>∃ c,x=.bl c∧Q c H1
theorem pt_val {e:Expr}{t:TE} (h:PE X e t) (he:∀ whole,isTrue e X.env whole=(do let v ← whole; standAt e.pos; holding [v] (truthy v)):=by intro _; rfl):PT X e (tB t):=by
 intro pins s σ H Q I hw
 refine isTrue_plain (thn (h pins s σ H _ I hw) fun v s1 ⟨x,H1,I1,r1,q1⟩=>?_) (he _)
 obtain⟨d,rfl,q⟩:=q1
 cases r1
 exact wpAny_truthy_bool ⟨H1,I1,q⟩
variable {tA tB':TT}{rest:List Expr}
def tAnd (t u:TT):TT:=fun σ H Q=>t σ H fun c H1=>if c=true then u σ H1 Q else Q false H1
def tOr (t u:TT):TT:=fun σ H Q=>t σ H fun c H1=>if c=true then Q true H1 else u σ H1 Q
def tNot (t:TT):TT:=fun σ H Q=>t σ H fun c H1=>Q (!c) H1
theorem pw_and1 (ha:PT X a tA):PW X (.BoolOp .And [a] pos) tA:=by
 intro wh pins s σ H Q I h
 refine isTrue_and (thn (ha pins s σ H Q I h) fun c s1 e=>?_)
 cases c with
 | true=>exact isTrue_and_nil e
 | false=>exact e
theorem pw_or1 (ha:PT X a tA):PW X (.BoolOp .Or [a] pos) tA:=by
 intro wh pins s σ H Q I h
 refine isTrue_or (thn (ha pins s σ H Q I h) fun c s1 e=>?_)
 cases c with
 | false=>exact isTrue_or_nil e
 | true=>exact e
theorem pw_and (ha:PT X a tA) (hb:PW X (.BoolOp .And (b::rest) pos) tB'):PW X (.BoolOp .And (a::b::rest) pos) (tAnd tA tB'):=by
 intro wh pins s σ H Q I h
 refine isTrue_and (thn (ha pins s σ H _ I h) fun c s1 ⟨H1,I1,q1⟩=>?_)
 cases c with
 | true=>exact hb wh pins s1 σ H1 Q I1 q1
 | false=>exact⟨H1,I1,q1⟩
theorem pw_or (ha:PT X a tA) (hb:PW X (.BoolOp .Or (b::rest) pos) tB'):PW X (.BoolOp .Or (a::b::rest) pos) (tOr tA tB'):=by
 intro wh pins s σ H Q I h
 refine isTrue_or (thn (ha pins s σ H _ I h) fun c s1 ⟨H1,I1,q1⟩=>?_)
 cases c with
 | true=>exact⟨H1,I1,q1⟩
 | false=>exact hb wh pins s1 σ H1 Q I1 q1
theorem pt_not (ha:PT X a tA):PT X (.UnaryOp .Not a pos) (tNot tA):=by
 intro pins s σ H Q I h
 exact isTrue_not (ha pins s σ H (fun c H1=>Q (!c) H1) I h)
def tAndV (ta tb:TE):TE:=fun σ H Q=>ta σ H fun x H1=>∃ c,x=.bl c∧if c=true then tb σ H1 Q else Q (.bl false) H1
def tOrV (ta tb:TE):TE:=fun σ H Q=>ta σ H fun x H1=>∃ c,x=.bl c∧if c=true then Q (.bl true) H1 else tb σ H1 Q
theorem pe_one {op}{t:TE} (h:PE X a t):PE X (.BoolOp op [a] pos) t:=fun pins s σ H Q I hw=>BoolOp_one (h pins s σ H Q I hw)
theorem pe_and (ha:PE X a ta) (hb:PE X (.BoolOp .And (b::rest) pos) tb):PE X (.BoolOp .And (a::b::rest) pos) (tAndV ta tb):=by
 intro pins s σ H Q I h
 refine BoolOp_and (thn (ha pins s σ H _ I h) fun v s1 ⟨x,H1,I1,r1,q1⟩=>?_)
 obtain⟨c,rfl,q1⟩:=q1
 cases r1
 refine wpAny_truthy_bool ?_
 cases c with
 | true=>exact hb pins s1 σ H1 Q I1 q1
 | false=>exact⟨.bl false,H1,I1,rfl,q1⟩
theorem pe_or (ha:PE X a ta) (hb:PE X (.BoolOp .Or (b::rest) pos) tb):PE X (.BoolOp .Or (a::b::rest) pos) (tOrV ta tb):=by
 intro pins s σ H Q I h
 refine BoolOp_or (thn (ha pins s σ H _ I h) fun v s1 ⟨x,H1,I1,r1,q1⟩=>?_)
 obtain⟨c,rfl,q1⟩:=q1
 cases r1
 refine wpAny_truthy_bool ?_
 cases c with
 | false=>exact hb pins s1 σ H1 Q I1 q1
 | true=>exact⟨.bl true,H1,I1,rfl,q1⟩
def tIf (t:TT) (ta tb:TE):TE:=fun σ H Q=>t σ H fun c H1=>if c=true then ta σ H1 Q else tb σ H1 Q
theorem pe_ifExp {c:Expr} (hc:PT X c tA) (ha:PE X a ta) (hb:PE X b tb):PE X (.IfExp c a b pos) (tIf tA ta tb):=by
 intro pins s σ H Q I h
 refine wpAny_IfExp (thn (hc pins s σ H _ I h) fun d s1 ⟨H1,I1,q1⟩=>?_)
 cases d with
 | true=>exact ha pins s1 σ H1 Q I1 q1
 | false=>exact hb pins s1 σ H1 Q I1 q1
end
end L2
namespace L2
open PySem PySem.Spec PyProof.Rows
def SqL (K:PySem.W.Frag) (H:Hp) (a:Addr) (xs:List V):Prop :=
 Rd H a (.lst xs) ∨
  ∃ (o:Obj) (its:Array Value) (n:Nat),K.lookup a=some o∧o.cls=.type "list"∧o.dict=none∧o.data=.seq its n∧its.size≤sizeLine∧Vals xs its.toList
def SqT (K:PySem.W.Frag) (H:Hp) (a:Addr) (xs:List V):Prop :=
 Rd H a (.tup xs) ∨
  ∃ (o:Obj) (its:Array Value) (n:Nat),K.lookup a=some o∧o.cls=.type "tuple"∧o.data=.seq its n∧its.size≤sizeLine∧Vals xs its.toList
def absV:Value→Option V
 | .none=>some .non
 | .bool b=>some (.bl b)
 | .int i _=>some (.int i)
 | .str x _=>some (.str x)
 | .bytes b _=>some (.byt b)
 | .float b _=>some (.flt b)
 | .ref a=>some (.ref a)
 | .type n=>some (.ty n)
 | _=>none
theorem RelV.abs {x:V}{u:Value} (r:RelV x u):absV u=some x:=by
 cases x with
 | non=>cases r; rfl
 | bl _=>cases r; rfl
 | int _=>obtain⟨t,rfl⟩:=r; rfl
 | str _=>obtain⟨t,rfl⟩:=r; rfl
 | byt _=>obtain⟨t,rfl⟩:=r; rfl
 | flt _=>obtain⟨t,rfl⟩:=r; rfl
 | ref _=>cases r; rfl
 | ty _=>cases r; rfl
theorem RelV.inj {x y:V}{u:Value} (r:RelV x u) (q:RelV y u):x=y:=Option.some.inj (r.abs.symm.trans q.abs)
theorem Vals.inj:∀ {xs ys:List V}{us:List Value},Vals xs us→Vals ys us→xs=ys
 | _,_,_,.nil,.nil=>rfl
 | _,_,_,.cons r t,.cons r' t'=>by rw [r.inj r',Vals.inj t t']
section
variable {X:Cx}{pins:List (Addr×Obj)}{σ:St}{H:Hp}{s:Shared}{a:Addr}{xs ys:List V}
theorem SqL.of {K:PySem.W.Frag} (h:H a=some (.lst xs)):SqL K H a xs:=.inl (.inl h)
theorem SqT.of {K:PySem.W.Frag} (h:H a=some (.tup xs)):SqT K H a xs:=.inl (.inl h)
theorem Inv.list (I:Inv X pins σ H s) (h:SqL X.K H a xs):∃ its:List Value,Vals xs its∧PlainL s.heap a its.toArray∧xs.length≤sizeLine:=by
 rcases h with h | ⟨o,its,n,hk,hc,hd,hs,hz,r⟩
 ·obtain⟨z,its,n,r,e⟩:=h.ok I.hok
  exact⟨its,r,⟨_,n,e,rfl,rfl,rfl⟩,z⟩
 ·refine⟨its.toList,r,⟨o,n,I.kIn a o hk,hc,hd,by simpa using hs⟩,?_⟩
  have e:=r.length
  simp only [Array.length_toList] at e
  lia
theorem Inv.tuple (I:Inv X pins σ H s) (h:SqT X.K H a xs):∃ its:List Value,Vals xs its∧IsTup s.heap a its.toArray∧xs.length≤sizeLine:=by
 rcases h with h | ⟨o,its,n,hk,hc,hs,hz,r⟩
 ·obtain⟨z,its,r,p⟩:=h.ok I.hok
  exact⟨its,r,p,z⟩
 ·refine⟨its.toList,r,⟨o,I.kIn a o hk,hc,n,by simpa using hs⟩,?_⟩
  have e:=r.length
  simp only [Array.length_toList] at e
  lia
theorem Inv.list_inj (I:Inv X pins σ H s) (h:SqL X.K H a xs) (h':SqL X.K H a ys):xs=ys:=by
 obtain⟨its,r,⟨o,n,e,_,_,d⟩,_⟩:=I.list h
 obtain⟨its',r',⟨o',n',e',_,_,d'⟩,_⟩:=I.list h'
 rw [e] at e'; cases e'
 rw [d] at d'
 injection d' with d1 _
 have:its=its':=by simpa using congrArg Array.toList d1
 subst this
 exact r.inj r'
theorem Inv.tuple_inj (I:Inv X pins σ H s) (h:SqT X.K H a xs) (h':SqT X.K H a ys):xs=ys:=by
 obtain⟨its,r,⟨o,e,_,n,d⟩,_⟩:=I.tuple h
 obtain⟨its',r',⟨o',e',_,n',d'⟩,_⟩:=I.tuple h'
 rw [e] at e'; cases e'
 rw [d] at d'
 injection d' with d1 _
 have:its=its':=by simpa using congrArg Array.toList d1
 subst this
 exact r.inj r'
end
abbrev Cx.wish (X:Cx) (E:Value→Shared→Prop):Cx:={ X with xe:=E }
abbrev Cx.nox (X:Cx):Cx:=X.wish fun _ _=>False
theorem Cx.Ok.wish {X:Cx} (ok:X.Ok) (E:Value→Shared→Prop):(X.wish E).Ok :=
 ⟨ok.mod,ok.kind,ok.glob,ok.blt,ok.above,ok.inj,ok.has,ok.cab,ok.hd,ok.frames,ok.stk,ok.exf,ok.bs,ok.bsz,ok.noex,ok.exfs,ok.funs,ok.frf⟩
theorem Cx.Ok.unwish {X:Cx}{E:Value→Shared→Prop} (ok:(X.wish E).Ok):X.Ok :=
 ⟨ok.mod,ok.kind,ok.glob,ok.blt,ok.above,ok.inj,ok.has,ok.cab,ok.hd,ok.frames,ok.stk,ok.exf,ok.bs,ok.bsz,ok.noex,ok.exfs,ok.funs,ok.frf⟩
section
variable {X:Cx}{pins:List (Addr×Obj)}{σ:St}{H:Hp}{s:Shared}{E:Value→Shared→Prop}
theorem Inv.wish (I:Inv X pins σ H s) (E:Value→Shared→Prop):Inv (X.wish E) pins σ H s:=⟨I.ok.wish E,I.os,I.bare,I.base,I.loc,I.cell,I.free,I.freeC,I.pin,I.hok,I.len⟩
theorem Inv.unwish (I:Inv (X.wish E) pins σ H s):Inv X pins σ H s:=⟨I.ok.unwish,I.os,I.bare,I.base,I.loc,I.cell,I.free,I.freeC,I.pin,I.hok,I.len⟩
theorem SP.unwish {D:Ends}{f:Flow}{s':Shared} (h:SP (X.wish E) pins D f s'):SP X pins D f s':=by
 cases f with
 | next=>obtain⟨σ',H',I,q⟩:=h; exact⟨σ',H',I.unwish,q⟩
 | brk=>obtain⟨σ',H',I,q⟩:=h; exact⟨σ',H',I.unwish,q⟩
 | cont=>obtain⟨σ',H',I,q⟩:=h; exact⟨σ',H',I.unwish,q⟩
 | ret u=>obtain⟨v,σ',H',I,r,q⟩:=h; exact⟨v,σ',H',I.unwish,r,q⟩
theorem PSs.nox {st:List Stmt}{t:TS} (h:PSs X.nox st t):PSs X st t:=fun pins s σ H D I hw =>
 wpAny_mono (h pins s σ H D (I.wish _) hw) (fun _ _ q=>q.unwish) fun _ _ z=>False.elim z
end
section
variable {X:Cx}{st:Stmt}{rest:List Stmt}{t u:TS}{e:Expr}{te:TE}{pos:Pos}
def tNext:TS:=fun D σ H=>D.nx σ H
def tSeq (t u:TS):TS:=fun D σ H=>t { D with nx:=u D } σ H
theorem pss_nil:PSs X [] tNext:=fun _ _ σ H _ I h=>wpAny_execs_nil ⟨σ,H,I,h⟩
theorem pss_cons (h1:PS X st t) (h2:PSs X rest u):PSs X (st::rest) (tSeq t u):=by
 intro pins s σ H D I h
 refine wpAny_execs_cons (thn (h1 pins s σ H { D with nx:=u D } I h) fun f s1 q=>?_)
 cases f with
 | next =>
  obtain⟨σ',H',I',q⟩:=q
  exact h2 pins s1 σ' H' D I' q
 | ret v=>exact q
 | brk=>exact q
 | cont=>exact q
theorem pss_one (h1:PS X st t):PSs X [st] t:=by
 intro pins s σ H D I h
 refine wpAny_execs_cons (thn (h1 pins s σ H D I h) fun f s1 q=>?_)
 cases f with
 | next=>exact wpAny_execs_nil q
 | ret v=>exact q
 | brk=>exact q
 | cont=>exact q
theorem Inv.quiet {pins:List (Addr×Obj)}{σ:St}{H:Hp}{s:Shared} (I:Inv X pins σ H s):interactive X.env=false:=by simp [interactive,I.ok.kind]
def tDrop (te:TE):TS:=fun D σ H=>te σ H fun _ H1=>D.nx σ H1
theorem ps_expr (he:PE X e te) (hs:swapsWith e none pos.line X.env=pure false:=by rfl):PS X (.Expr e pos) (tDrop te):=by
 intro pins s σ H D I h
 exact wpAny_Expr_any (thn (he pins s σ H _ I h) fun v s1 ⟨x,H1,I1,r1,q1⟩=>⟨σ,H1,I1,q1⟩) I.quiet hs
def tRet (te:TE):TS:=fun D σ H=>te σ H D.rt
theorem ps_ret (he:PE X e te):PS X (.Return (some e) pos) (tRet te):=by
 intro pins s σ H D I h
 exact wpAny_Return_some (thn (he pins s σ H _ I h) fun v s1 ⟨x,H1,I1,r1,q1⟩=>⟨x,σ,H1,I1,r1,q1⟩)
def tIfS (c:TT) (t u:TS):TS:=fun D σ H=>c σ H fun b H1=>if b=true then t D σ H1 else u D σ H1
theorem ps_if {c:Expr}{a b:List Stmt}{tc:TT} (hc:PT X c tc) (ha:PSs X a t) (hb:PSs X b u):PS X (.If c a b pos) (tIfS tc t u):=by
 intro pins s σ H D I h
 refine wpAny_If (thn (hc pins s σ H _ I h) fun d s1 ⟨H1,I1,q1⟩=>?_)
 cases d with
 | true=>exact ha pins s1 σ H1 D I1 q1
 | false=>exact hb pins s1 σ H1 D I1 q1
end
abbrev TG:=V→St→Hp→(St→Hp→Prop)→Prop
abbrev TGs:=List V→St→Hp→(St→Hp→Prop)→Prop
def PG (X:Cx) (target:Expr) (t:TG):Prop :=
 ∀ (pins:List (Addr×Obj)) (s:Shared) (σ:St) (H:Hp) (v:V) (u:Value) (Q:St→Hp→Prop),Inv X pins σ H s→RelV v u→t v σ H Q →
  wpAny (model X.prog X.w) X.A (assign target X.env u) (fun _ s'=>∃ σ' H',Inv X pins σ' H' s'∧Q σ' H') X.xe s
def PGs (X:Cx) (ts:List Expr) (t:TGs):Prop :=
 ∀ (pins:List (Addr×Obj)) (s:Shared) (σ:St) (H:Hp) (vs:List V) (us:List Value) (Q:St→Hp→Prop),Inv X pins σ H s→Vals vs us→t vs σ H Q →
  wpAny (model X.prog X.w) X.A (assignInOrder ((assignEach ts X.env).map (·.2)) us) (fun _ s'=>∃ σ' H',Inv X pins σ' H' s'∧Q σ' H') X.xe s
section
variable {X:Cx}{pos:Pos}
def gName (i:Nat):TG:=fun v σ H Q=>Q (σ.set i (some v)) H
theorem pg_name {i:Nat}{x:Str} (hN:X.N.Nodup) (hi:X.N[i]?=some x) (hx:Loc X.env.scope x) (hf:X.fn x=true∨X.env.scope.names.lookup x=some .local:=by first | exact .inl rfl | exact .inr rfl | assumption):PG X (.Name x pos) (gName i):=by
 intro pins s σ H v u Q I r h
 exact wpAny_assign_Name (store_ok I hN hi hx r (fun s' I'=>⟨_,H,I',h⟩) hf)
def gNil:TGs:=fun vs σ H Q=>vs=[]∧Q σ H
def gCons (t:TG) (u:TGs):TGs:=fun vs σ H Q=>∃ v r,vs=v::r∧t v σ H fun σ' H'=>u r σ' H' Q
theorem pgs_nil:PGs X [] gNil:=by
 intro pins s σ H vs us Q I r h
 obtain⟨e,h⟩:=h
 subst e
 cases r
 exact assignInOrder_nil ⟨σ,H,I,h⟩
theorem pgs_cons {e:Expr}{es:List Expr}{t:TG}{u:TGs} (h1:PG X e t) (h2:PGs X es u)
  (hs:(assignEach (e::es) X.env).map (·.2)=assign e X.env::(assignEach es X.env).map (·.2):=by rfl):PGs X (e::es) (gCons t u):=by
 intro pins s σ H vs us Q I r h
 obtain⟨v,vr,e1,h⟩:=h
 subst e1
 cases r with
 | cons r rr =>
  rw [hs]
  refine assignInOrder_cons (thn (h1 pins s σ H _ _ _ I r h) fun _ s1 ⟨σ1,H1,I1,q1⟩=>?_)
  exact h2 pins s1 σ1 H1 _ _ Q I1 rr q1
def gTup (K:PySem.W.Frag) (n:Nat) (t:TGs):TG:=fun v σ H Q=>∃ a xs,v=.ref a∧SqT K H a xs∧xs.length=n∧t xs σ H Q
theorem pg_tup {es:List Expr}{k:Nat}{t:TGs}{n:Nat} (hc:X.calm=true) (h:PGs X es t)
  (hn:(assignEach es X.env).length=n:=by rfl) (hst:(assignEach es X.env).findIdx? (·.1)=none:=by rfl):PG X (.Tuple es k pos) (gTup X.K n t):=by
 intro pins s σ H v u Q I r hw
 obtain⟨a,xs,e1,hq,hl,hw⟩:=hw
 subst e1
 cases r
 obtain⟨its,rv,ht,hz⟩:=I.tuple hq
 refine assign_Tuple_tuple (I.ok.hd hc) ht (by simp [hn,← hl,rv.length]) hst fun h' hx=>?_
 have I1:Inv X pins σ H { s with heap:=h' }:=I.kept (t':=s.toks) fun b o e=>hx b o (Nat.ne_of_lt (Heap.lt_size e)) e
 exact h pins _ σ H xs _ Q I1 (by simpa using rv) hw
def tAsg (te:TE) (g:TG):TS:=fun D σ H=>te σ H fun x H1=>g x σ H1 D.nx
theorem ps_asg {tg e:Expr}{te:TE}{g:TG} (he:PE X e te) (hg:PG X tg g) (hs:swapsWithSole [tg] e pos.line X.env=pure false:=by rfl) (hw:swappedStores [tg] e X.env=pure none:=by rfl)
  (h1:(assignEach [tg] X.env).map (·.2)=[assign tg X.env]:=by rfl):PS X (.Assign [tg] e pos) (tAsg te g):=by
 intro pins s σ H D I h
 refine wpAny_Assign_stores (thn (he pins s σ H _ I h) fun v s1 ⟨x,H1,I1,r1,q1⟩=>?_) hs hw
 rw [h1]
 exact thn (hg pins s1 σ H1 x v _ I1 r1 q1) fun _ s2 q=>q
theorem ps_set {i:Nat}{x:Str}{e:Expr}{te:TE}{pos':Pos} (hN:X.N.Nodup) (hi:X.N[i]?=some x) (hx:Loc X.env.scope x) (he:PE X e te) (hs:swapsWith e (some (.Name x pos')) pos.line X.env=pure false:=by rfl) (hf:X.fn x=true∨X.env.scope.names.lookup x=some .local:=by first | exact .inl rfl | exact .inr rfl | assumption) :
  PS X (.Assign [.Name x pos'] e pos) (tAsg te (gName i)):=by
 intro pins s σ H D I h
 refine wpAny_Assign_Name (thn (he pins s σ H _ I h) fun v s1 ⟨y,H1,I1,r1,q1⟩=>?_) hs
 exact store_ok I1 hN hi hx r1 (fun s2 I2=>⟨_,H1,I2,q1⟩) hf
end
section
variable {X:Cx}{pos:Pos}
def tWhile (c:TT) (tb:TS):TS:=fun D σ H=>∃ W:Nat→St→Hp→Prop,(∃ m,W m σ H)∧∀ m σ H,W m σ H →
 c σ H fun b H1=>if b=true then ∃ N:St→Hp→Prop,(∀ σ' H',N σ' H'→∃ m',m'<m∧W m' σ' H')∧tb { D with nx:=N,ct:=N,bk:=D.nx } σ H1 else D.nx σ H1
theorem ps_while {c:Expr}{body:List Stmt}{tc:TT}{tb:TS} (hp:PassesOwn (model X.prog X.w) X.A X.env X.xe) (hc:PT X c tc) (hb:PSs X body tb):PS X (.While c body [] pos) (tWhile tc tb):=by
 intro pins s σ H D I h
 obtain⟨W,⟨m0,w0⟩,turn⟩:=h
 refine wpAny_While (codeAny_whileLoop (fun n s'=>∃ σ' H',Inv X pins σ' H' s'∧W n σ' H') ?_ m0 ⟨σ,H,I,w0⟩)
 rintro n s1 ⟨σ1,H1,I1,w1⟩
 refine wpAny_passesOwn hp (thn (hc pins s1 σ1 H1 _ I1 (turn n σ1 H1 w1)) fun b s2 ⟨H2,I2,q2⟩=>?_)
 cases b with
 | true =>
  obtain⟨N,hN,q2⟩:=q2
  rw [if_pos rfl]
  refine wpAny_passesOwn hp (thn (hb pins s2 σ1 H2 _ I2 q2) fun f s3 q3=>?_)
  cases f with
  | next =>
   obtain⟨σ3,H3,I3,n3⟩:=q3
   obtain⟨m',hm,w3⟩:=hN σ3 H3 n3
   exact⟨m',hm,σ3,H3,I3,w3⟩
  | cont =>
   obtain⟨σ3,H3,I3,n3⟩:=q3
   obtain⟨m',hm,w3⟩:=hN σ3 H3 n3
   exact⟨m',hm,σ3,H3,I3,w3⟩
  | brk=>exact q3
  | ret v=>exact q3
 | false =>
  rw [if_neg Bool.false_ne_true]
  exact wpAny_execs_nil ⟨σ1,H2,I2,q2⟩
end
structure It where
 go:Nat→Hp→Prop
 yld:Nat→Hp→V→Hp→Prop
 stop:Nat→Hp→Prop
def FpOk (X:Cx) (pins:List (Addr×Obj)) (H:Hp) (b:Addr):Prop :=
 H b=none∧b≠X.env.locals∧b ∉ X.fs∧(b∈X.ex∨X.s₀.heap.objs.size≤b)∧(∀ x c,X.env.cells.lookup x=some c→c≠b)∧∀ p∈X.pn++pins,p.1≠b
theorem Inv.fpOk {X:Cx}{pins:List (Addr×Obj)}{σ:St}{H H':Hp}{s:Shared}{b:Addr} (I:Inv X pins σ H s) (hb:s.heap.objs.size≤b) (hn:H' b=none):FpOk X pins H' b:=by
 refine⟨hn,Nat.ne_of_gt (Nat.lt_of_lt_of_le I.lt hb),I.nofs hb,.inr (Nat.le_trans I.sz hb),fun x c e z=>?_,fun p hp z=>?_⟩
 ·obtain⟨v,q⟩:=I.cell x c e
  exact absurd (Nat.lt_of_lt_of_le q.lt (by rw [z]; exact hb)) (Nat.lt_irrefl _)
 ·exact absurd (Nat.lt_of_lt_of_le (Heap.lt_size (I.pin p hp).1) (by rw [z]; exact hb)) (Nat.lt_irrefl _)
structure Turn (P:Program) (w:World) (K:PySem.W.Frag) (tg:Expr) (J:It) (fp:List Addr) (it:Addr) (tn:Nat→Heap→Prop):Prop where
 mem:it∈fp
 obj:∀ i h,tn i h→∀ b∈fp,∃ o,h.get? b=some o∧∀ v,o.data≠.cell v
 keep:∀ i h h',tn i h→(∀ b∈fp,∀ o,h.get? b=some o→h'.get? b=some o)→tn i h'
 item:∀ (X:Cx),X.prog=P→X.w=w→X.K=K→X.calm=true→∀ (i:Nat) (pins:List (Addr×Obj)) (s:Shared) (σ:St) (H:Hp) (E:Value→Shared→Prop),Inv X pins σ H s→(∀ b∈fp,FpOk X pins H b)→tn i s.heap→J.go i H →
  wpAny (model P w) X.A (pyNext (.ref it)) (fun r s1=>∃ u,r=some u ∧
   wpAny (model P w) X.A (letOwnedTupleGo tg (.ref it) u) (fun _ s2=>∃ x H',Inv X pins σ H' s2∧RelV x u∧J.yld i H x H'∧tn (i+1) s2.heap∧∀ b∈fp,H' b=none) E s1) E s
 done:∀ (X:Cx),X.prog=P→X.w=w→X.K=K→X.calm=true→∀ (i:Nat) (pins:List (Addr×Obj)) (s:Shared) (σ:St) (H:Hp) (E:Value→Shared→Prop),Inv X pins σ H s→(∀ b∈fp,FpOk X pins H b)→tn i s.heap→J.stop i H →
  wpAny (model P w) X.A (pyNext (.ref it)) (fun r s1=>r=none∧Inv X pins σ H s1) E s
 self:∀ (A:Around) (i:Nat) (s:Shared) (Q:Value→Shared→Prop) (E:Value→Shared→Prop),tn i s.heap→Q (.ref it) s→wpAny (model P w) A (pyIter (.ref it)) Q E s
abbrev TI:=St→Hp→(It→Hp→Prop)→Prop
def PIE (X:Cx) (pins:List (Addr×Obj)) (σ:St) (tg:Expr) (R:It→Hp→Prop) (itv:Value) (s2:Shared):Prop :=
 ∃ (it:Addr) (fp:List Addr) (tn:Nat→Heap→Prop) (J:It) (H':Hp),itv=.ref it∧Inv X pins σ H' s2∧Turn X.prog X.w X.K tg J fp it tn∧tn 0 s2.heap∧(∀ b∈fp,FpOk X pins H' b)∧R J H'
def PI (X:Cx) (tg iter:Expr) (wi:TI):Prop :=
 ∀ (pins:List (Addr×Obj)) (s:Shared) (σ:St) (H:Hp) (R:It→Hp→Prop),Inv X pins σ H s→wi σ H R →
  wpAny (model X.prog X.w) X.A (eval iter X.env) (fun v s1=>wpAny (model X.prog X.w) X.A (pyIter v) (PIE X pins σ tg R) X.xe s1) X.xe s
theorem go_of {M:Model}{A:Around}{E:Value→Shared→Prop}{s:Shared}{tg:Expr}{it:Addr}{u:Value}{o:Obj}{n:String}{vs:Array Value}{Q:Unit→Shared→Prop} (ho:s.heap.get? it=some o) (hc:o.cls=.type n) (hd:o.data=.fields vs)
  (hn:["enumerate","zip","dict_itemiterator","dict_reverseitemiterator","odict_iterator","itertools.zip_longest","itertools.pairwise"].contains n=false) (hQ:Q () s):wpAny M A (letOwnedTupleGo tg (.ref it) u) Q E s:=by
 unfold letOwnedTupleGo
 cases tg <;> first
  | exact wpAny_pure hQ
  | (cases u <;> first
    | exact wpAny_pure hQ
    | (refine wpAny_bind (wpAny_load ho ?_);rw [hc,hd];show wpAny M A (if (["enumerate","zip","dict_itemiterator","dict_reverseitemiterator","odict_iterator","itertools.zip_longest","itertools.pairwise"].contains n && vs[0]? == some (rawInt _))=true then _ else _) Q E s;rw [if_neg (by intro h; rw [hn,Bool.false_and] at h; cases h)];exact wpAny_pure hQ))
def Itl (K:PySem.W.Frag) (a:Addr):It :=
 ⟨fun i H=>∃ xs x,SqL K H a xs∧xs[i]?=some x,fun i H x H'=>H'=H∧∀ xs,SqL K H a xs→xs[i]?=some x,fun i H=>∃ xs,SqL K H a xs∧xs.length≤i⟩
def Itt (K:PySem.W.Frag) (a:Addr):It :=
 ⟨fun i H=>∃ xs x,SqT K H a xs∧xs[i]?=some x,fun i H x H'=>H'=H∧∀ xs,SqT K H a xs→xs[i]?=some x,fun i H=>∃ xs,SqT K H a xs∧xs.length≤i⟩
def Itr (lo:Int) (n:Nat):It:=⟨fun i _=>i<n,fun i H x H'=>H'=H∧x=.int (lo+i),fun i _=>n≤i⟩
theorem turn_list {P:Program}{w:World}{K:PySem.W.Frag}{tg:Expr} (a it:Addr):Turn P w K tg (Itl K a) [it] it (fun i h=>h.IsListIter it a i) where
 mem:=by simp
 obj:=fun i h st b hb=>by
  have e:b=it:=by simpa using hb
  subst e
  obtain⟨o,e,c,d⟩:=st
  exact⟨o,e,fun v z=>by rw [d] at z; cases z⟩
 keep:=fun i h h' st k=>st.at fun o e=>k it (by simp) o e
 item:=by
  intro X hP hw hK hc i pins s σ H E I hf st hg
  subst hP hw hK
  obtain⟨xs,x,hq,hx⟩:=hg
  obtain⟨its,rv,p,hz⟩:=I.list hq
  obtain⟨u,hu,ru⟩:=rv.get hx
  obtain⟨f0,f1,f2,f3,f4,f5⟩:=hf it (by simp)
  refine wpAny_pyNext_list_item st p.isList (x:=u) (by simpa using hu) fun h' st' sb=>?_
  have I1:Inv X pins σ H { s with heap:=h' }:=I.turned (t':=s.toks) (fun b o hb e=>(sb.2 b hb).trans e) f0 f1 f3 f4 f5
  obtain⟨o,e,c,d⟩:=id st'
  exact⟨u,rfl,go_of (s:={ s with heap:=h' }) e c d (by decide) ⟨x,H,I1,ru,⟨rfl,fun ys hy=>by rw [I.list_inj hy hq]; exact hx⟩,st',fun b hb=>(hf b hb).1⟩⟩
 done:=by
  intro X hP hw hK hc i pins s σ H E I hf st hg
  subst hP hw hK
  obtain⟨xs,hq,hx⟩:=hg
  obtain⟨its,rv,p,hz⟩:=I.list hq
  obtain⟨f0,f1,f2,f3,f4,f5⟩:=hf it (by simp)
  have hl:=rv.length
  exact wpAny_pyNext_list_end (I.ok.hd hc) st p.isList (by simp; lia) fun h' eb=>⟨rfl,I.turned (t':=s.toks) (fun b o hb e=>eb b o hb e) f0 f1 f3 f4 f5⟩
 self:=fun _ _ _ _ _ st h=>wpAny_pyIter_listiter st h
theorem turn_tuple {P:Program}{w:World}{K:PySem.W.Frag}{tg:Expr} (a it:Addr):Turn P w K tg (Itt K a) [it] it (fun i h=>h.IsTupleIter it a i) where
 mem:=by simp
 obj:=fun i h st b hb=>by
  have e:b=it:=by simpa using hb
  subst e
  obtain⟨o,e,c,d⟩:=st
  exact⟨o,e,fun v z=>by rw [d] at z; cases z⟩
 keep:=fun i h h' st k=>st.at fun o e=>k it (by simp) o e
 item:=by
  intro X hP hw hK hc i pins s σ H E I hf st hg
  subst hP hw hK
  obtain⟨xs,x,hq,hx⟩:=hg
  obtain⟨its,rv,p,hz⟩:=I.tuple hq
  obtain⟨u,hu,ru⟩:=rv.get hx
  obtain⟨f0,f1,f2,f3,f4,f5⟩:=hf it (by simp)
  refine wpAny_pyNext_tuple_item st (show s.heap.IsTuple a its.toArray from p) (x:=u) (by simpa using hu) fun h' st' sb=>?_
  have I1:Inv X pins σ H { s with heap:=h' }:=I.turned (t':=s.toks) (fun b o hb e=>(sb.2 b hb).trans e) f0 f1 f3 f4 f5
  obtain⟨o,e,c,d⟩:=id st'
  exact⟨u,rfl,go_of (s:={ s with heap:=h' }) e c d (by decide) ⟨x,H,I1,ru,⟨rfl,fun ys hy=>by rw [I.tuple_inj hy hq]; exact hx⟩,st',fun b hb=>(hf b hb).1⟩⟩
 done:=by
  intro X hP hw hK hc i pins s σ H E I hf st hg
  subst hP hw hK
  obtain⟨xs,hq,hx⟩:=hg
  obtain⟨its,rv,p,hz⟩:=I.tuple hq
  obtain⟨f0,f1,f2,f3,f4,f5⟩:=hf it (by simp)
  have hl:=rv.length
  exact wpAny_pyNext_tuple_end (I.ok.hd hc) st (show s.heap.IsTuple a its.toArray from p) (by simp; lia) fun h' eb=>⟨rfl,I.turned (t':=s.toks) (fun b o hb e=>eb b o hb e) f0 f1 f3 f4 f5⟩
 self:=fun _ _ _ _ _ st h=>wpAny_pyIter_tupleiter st h
theorem turn_range {P:Program}{w:World}{K:PySem.W.Frag}{tg:Expr} (it:Addr) (lo:Int) (n:Nat):Turn P w K tg (Itr lo n) [it] it (fun i h=>IsRangeIter h it (lo+(i:Nat) * 1) ((n:Int) - (i:Nat)) 1) where
 mem:=by simp
 obj:=fun i h st b hb=>by
  have e:b=it:=by simpa using hb
  subst e
  exact⟨_,st,fun v z=>by
   have z':Data.fields _=Data.cell v:=z
   cases z'⟩
 keep:=fun i h h' st k=>k it (by simp) _ st
 item:=by
  intro X hP hw hK hc i pins s σ H E I hf st hg
  subst hP hw hK
  obtain⟨f0,f1,f2,f3,f4,f5⟩:=hf it (by simp)
  have W:=Walks.range (prog:=X.prog) (w:=X.w) (I.ok.hd hc) it lo 1 n
  refine W.item i s _ _ hg st fun v h' tk hv st' kk=>?_
  obtain⟨t,rfl⟩:=hv
  have I1:Inv X pins σ H { s with heap:=h',toks:=tk }:=I.turned (fun b o hb e=>kk b o (by simpa using hb) e) f0 f1 f3 f4 f5
  refine⟨_,rfl,go_of (s:={ s with heap:=h',toks:=tk }) (n:="range_iterator") st' rfl rfl (by decide) ⟨.int (lo+i),H,I1,⟨t,?_⟩,⟨rfl,rfl⟩,st',fun b hb=>(hf b hb).1⟩⟩
  rw [Int.mul_one]
 done:=by
  intro X hP hw hK hc i pins s σ H E I hf st hg
  subst hP hw hK
  obtain⟨f0,f1,f2,f3,f4,f5⟩:=hf it (by simp)
  exact wpAny_pyNext_range_end (I.ok.hd hc) st (by have:n≤i:=hg; lia) fun h' eb=>⟨rfl,I.turned (t':=s.toks) (fun b o hb e=>eb b o hb e) f0 f1 f3 f4 f5⟩
 self:=fun _ _ _ _ _ st h=>wpAny_pyIter_rangeiter st h
end L2
namespace L2
open PySem PySem.Spec PyProof.Rows
section
variable {X:Cx}{tg:Expr}
def iList (K:PySem.W.Frag) (tl:TE):TI:=fun σ H R=>tl σ H fun x H1=>∃ a,x=.ref a∧(∃ xs,SqL K H1 a xs)∧R (Itl K a) H1
def iTup (K:PySem.W.Frag) (tl:TE):TI:=fun σ H R=>tl σ H fun x H1=>∃ a,x=.ref a∧(∃ xs,SqT K H1 a xs)∧R (Itt K a) H1
theorem pi_list {l:Expr}{tl:TE} (hl:PE X l tl):PI X tg l (iList X.K tl):=by
 intro pins s σ H R I h
 refine thn (hl pins s σ H _ I h) fun v s1 ⟨x,H1,I1,r1,q1⟩=>?_
 obtain⟨a,e,⟨xs,hq⟩,q⟩:=q1
 subst e
 cases r1
 obtain⟨its,rv,p,hz⟩:=I1.list hq
 refine wpAny_pyIter_list p.isList ?_
 refine⟨s1.heap.objs.size,[s1.heap.objs.size],_,_,H1,rfl,I1.kept (t':=s1.toks) fun b o e=>Heap.get?_push_of_some _ e,turn_list a _,⟨_,Heap.get?_push_size _ rfl,rfl,rfl⟩,fun b hb=>?_,q⟩
 have e:b=s1.heap.objs.size:=by simpa using hb
 subst e
 exact I1.fpOk (Nat.le_refl _) (I1.hok.fresh (Nat.le_refl _))
theorem pi_tup {l:Expr}{tl:TE} (hl:PE X l tl):PI X tg l (iTup X.K tl):=by
 intro pins s σ H R I h
 refine thn (hl pins s σ H _ I h) fun v s1 ⟨x,H1,I1,r1,q1⟩=>?_
 obtain⟨a,e,⟨xs,hq⟩,q⟩:=q1
 subst e
 cases r1
 obtain⟨its,rv,p,hz⟩:=I1.tuple hq
 refine wpAny_pyIter_tuple (show s1.heap.IsTuple a its.toArray from p) ?_
 refine⟨s1.heap.objs.size,[s1.heap.objs.size],_,_,H1,rfl,I1.kept (t':=s1.toks) fun b o e=>Heap.get?_push_of_some _ e,turn_tuple a _,⟨_,Heap.get?_push_size _ rfl,rfl,rfl⟩,fun b hb=>?_,q⟩
 have e:b=s1.heap.objs.size:=by simpa using hb
 subst e
 exact I1.fpOk (Nat.le_refl _) (I1.hok.fresh (Nat.le_refl _))
theorem range_it {pins:List (Addr×Obj)}{σ:St}{H:Hp}{s:Shared}{R:It→Hp→Prop}{E:Value→Shared→Prop}{lo hi:Int}{t u v:Tok}{tk:Nat} (I:Inv X pins σ H s) (h1:-(2 ^ 62)≤lo) (h2:lo<2 ^ 62) (h3:-(2 ^ 62)≤hi) (h4:hi<2 ^ 62)
  (q:R (Itr lo (hi - lo).toNat) H):wpAny (model X.prog X.w) X.A (pyIter (.ref s.heap.objs.size)) (PIE X pins σ tg R) E { s with heap:=s.heap.push { cls:=.type "range",data:=.fields #[.int lo t,.int hi u,.int 1 v] },toks:=tk }:=by
 refine wpAny_pyIter_range (IsRange.new ..) (small_one h1 h2 h3 h4) ?_
 have I1:Inv X pins σ H { s with heap:=s.heap.push { cls:=.type "range",data:=.fields #[.int lo t,.int hi u,.int 1 v] },toks:=tk }:=I.kept fun b o e=>Heap.get?_push_of_some _ e
 refine⟨(s.heap.push { cls:=.type "range",data:=.fields #[.int lo t,.int hi u,.int 1 v] }).objs.size,[(s.heap.push { cls:=.type "range",data:=.fields #[.int lo t,.int hi u,.int 1 v] }).objs.size],_,_,H,rfl,
  I1.kept (t':=tk) fun b o e=>Heap.get?_push_of_some _ e,turn_range _ lo (hi - lo).toNat,?_,fun b hb=>?_,q⟩
 ·have e1:lo+((0:Nat):Int) * 1=lo:=by simp
  have e2:(((hi - lo).toNat:Nat):Int) - ((0:Nat):Int)=Builtin.Range.rangeSize lo hi 1:=by rw [rangeSize_one]; split <;> lia
  show IsRangeIter _ _ (lo+((0:Nat):Int) * 1) ((((hi - lo).toNat:Nat):Int) - ((0:Nat):Int)) 1
  rw [e1,e2]
  exact Heap.get?_push_size _ rfl
 ·have e:b=(s.heap.push { cls:=.type "range",data:=.fields #[.int lo t,.int hi u,.int 1 v] }).objs.size:=by simpa using hb
  subst e
  exact I1.fpOk (Nat.le_refl _) (I1.hok.fresh (Nat.le_refl _))
def iRng1 (ta:TA):TI:=fun σ H R=>ta σ H fun vs H1=>∃ j:Int,vs=[.int j]∧-(2 ^ 62)≤j∧j<2 ^ 62∧R (Itr 0 j.toNat) H1
theorem pi_range1 {a:Expr}{ta:TA}{p pos:Pos} (hg:Gl X "range") (hm:X.mg "range"=none) (ha:PA X [a] ta) (hs:starEach [a] X.env=[(false,eval a X.env)]:=by rfl):PI X tg (.Call (.Name "range" p) [a] [] pos) (iRng1 ta):=by
 intro pins s σ H R I h
 refine Call_ (ld_blt I hg hm boot_range (PyProof.Rows.callWith_type1 (thn (ha pos pins s σ H _ I h) fun us s1 ⟨vs,H1,I1,r1,q1⟩=>?_) hs rfl))
 obtain⟨j,e,q1,q2,q⟩:=q1
 subst e
 cases r1 with
 | cons r rr =>
  cases rr
  obtain⟨t,rfl⟩:=r
  exact call_range_1 (range_it I1 (by lia) (by lia) q1 q2 (by simpa using q))
def tFor (wi:TI) (g:TG) (tb:TS):TS:=fun D σ H=>wi σ H fun J H1=>∃ W:Nat→Nat→St→Hp→Prop,(∃ m,W 0 m σ H1)∧∀ i m σ H,W i m σ H →
 (J.stop i H∧D.nx σ H)∨(J.go i H∧∃ N:St→Hp→Prop,(∀ σ' H',N σ' H'→∃ m',m'<m∧W (i+1) m' σ' H')∧∀ x H',J.yld i H x H'→g x σ H' fun σ2 H2=>tb { D with nx:=N,ct:=N,bk:=D.nx } σ2 H2)
def pinsAt (fp:List Addr) (h:Heap):List (Addr×Obj):=fp.filterMap fun b=>(h.get? b).map fun o=>(b,o)
theorem mem_pinsAt {fp:List Addr}{h:Heap}{b:Addr}{o:Obj} (hb:b∈fp) (e:h.get? b=some o):(b,o)∈pinsAt fp h:=List.mem_filterMap.mpr ⟨b,hb,by rw [e]; rfl⟩
theorem of_pinsAt {fp:List Addr}{h:Heap}{p:Addr×Obj} (hp:p∈pinsAt fp h):p.1∈fp∧h.get? p.1=some p.2:=by
 obtain⟨b,hb,e⟩:=List.mem_filterMap.mp hp
 cases q:h.get? b with
 | none=>rw [q] at e; cases e
 | some o =>
  rw [q] at e
  have e':(b,o)=p:=Option.some.inj e
  subst e'
  exact⟨hb,q⟩
theorem Inv.pinned {pins:List (Addr×Obj)}{σ:St}{H:Hp}{s:Shared}{fp:List Addr} (I:Inv X pins σ H s) (hf:∀ b∈fp,FpOk X pins H b) (ho:∀ b∈fp,∃ o,s.heap.get? b=some o∧∀ v,o.data≠.cell v):Inv X (pins++pinsAt fp s.heap) σ H s :=
 I.pins_of fun p hp=>(List.mem_append.mp hp).elim (fun z=>I.pin p (List.mem_append_right _ z)) fun z=>by
  obtain⟨hb,e⟩:=of_pinsAt z
  obtain⟨f0,f1,f2,_⟩:=hf p.1 hb
  obtain⟨o,e',d⟩:=ho p.1 hb
  rw [e] at e'; cases e'
  exact⟨e,f0,f1,f2,d⟩
theorem Inv.unpinned {pins pl:List (Addr×Obj)}{σ:St}{H:Hp}{s:Shared} (I:Inv X (pins++pl) σ H s):Inv X pins σ H s:=I.pins_of fun p hp=>I.pin p (List.mem_append_right _ (List.mem_append_left _ hp))
theorem ps_for {iter:Expr}{body:List Stmt}{wi:TI}{g:TG}{tb:TS}{pos:Pos} (hp:PassesOwn (model X.prog X.w) X.A X.env X.xe) (hc:X.calm=true) (hi:PI X tg iter wi) (hg:PG X tg g) (hb:PSs X body tb)
  (hs:∀ x,foldedSetIterable iter X.env x=pure x:=by intro _; rfl):PS X (.For tg iter body [] pos) (tFor wi g tb):=by
 intro pins s σ H D I h
 refine wpAny_For (thn (hi pins s σ H _ I h) fun v s1 h1=>thn h1 fun itv s2 h2=>?_) hs
 obtain⟨it,fp,tn,J,H2,e,I2,T,st2,f2,W,⟨m0,w0⟩,turn⟩:=h2
 subst e
 have stat:∀ {H':Hp},(∀ b∈fp,H' b=none)→∀ b∈fp,FpOk X pins H' b:=fun hn b hb=>⟨hn b hb,(f2 b hb).2⟩
 refine codeAny_forLoop_any (fun n s'=>∃ i σ' H',Inv X pins σ' H' s'∧tn i s'.heap∧(∀ b∈fp,H' b=none)∧W i n σ' H') ?_ m0 ⟨0,σ,H2,I2,st2,fun b hb=>(f2 b hb).1,w0⟩
 rintro n s3 ⟨i,σ3,H3,I3,st3,fr3,w3⟩
 rcases turn i n σ3 H3 w3 with⟨stop,qn⟩ | ⟨go,N,hN,step⟩
 ·refine wpAny_passesOwn hp (thn (T.done X rfl rfl rfl hc i pins s3 σ3 H3 X.xe I3 (stat fr3) st3 stop) fun r s4 ⟨hr,I4⟩=>?_)
  subst hr
  exact wpAny_execs_nil ⟨σ3,H3,I4,qn⟩
 ·refine wpAny_passesOwn hp (thn (T.item X rfl rfl rfl hc i pins s3 σ3 H3 X.xe I3 (stat fr3) st3 go) fun r s4 ⟨u,hr,h4⟩=>?_)
  subst hr
  refine wpAny_passesOwn hp (thn h4 fun _ s5 ⟨x,H5,I5,r5,y5,st5,fr5⟩=>?_)
  have I5':=I5.pinned (stat fr5) (T.obj _ _ st5)
  refine wpAny_passesOwn hp (thn (hg _ s5 σ3 H5 x u _ I5' r5 (step x H5 y5)) fun _ s6 ⟨σ6,H6,I6,q6⟩=>?_)
  refine wpAny_passesOwn hp (thn (hb _ s6 σ6 H6 _ I6 q6) fun f s7 q7=>?_)
  have again:∀ {σ7:St}{H7:Hp},Inv X (pins++pinsAt fp s5.heap) σ7 H7 s7→N σ7 H7→∃ m,m<n∧∃ i σ' H',Inv X pins σ' H' s7∧tn i s7.heap∧(∀ b∈fp,H' b=none)∧W i m σ' H':=fun {σ7 H7} I7 n7=>by
   obtain⟨m',hm,w7⟩:=hN σ7 H7 n7
   refine⟨m',hm,i+1,σ7,H7,I7.unpinned,T.keep _ _ _ st5 fun b hb o e=>(I7.pin (b,o) (List.mem_append_right _ (List.mem_append_right _ (mem_pinsAt hb e)))).1,fun b hb=>?_,w7⟩
   obtain⟨o,e,d⟩:=T.obj _ _ st5 b hb
   exact (I7.pin (b,o) (List.mem_append_right _ (List.mem_append_right _ (mem_pinsAt hb e)))).2.1
  cases f with
  | next=>obtain⟨σ7,H7,I7,n7⟩:=q7; exact again I7 n7
  | cont=>obtain⟨σ7,H7,I7,n7⟩:=q7; exact again I7 n7
  | brk=>obtain⟨σ7,H7,I7,q7⟩:=q7; exact⟨σ7,H7,I7.unpinned,q7⟩
  | ret v=>obtain⟨x7,σ7,H7,I7,r7,q7⟩:=q7; exact⟨x7,σ7,H7,I7.unpinned,r7,q7⟩
end
theorem for_list {K:PySem.W.Frag}{a:Addr}{xs:List V}{g:TG}{tb:TS}{D:Ends}{σ:St}{H:Hp} (Pv:Nat→St→Hp→Prop) (h0:Pv 0 σ H) (hl:∀ i σ H,i≤xs.length→Pv i σ H→SqL K H a xs)
  (hs:∀ i x σ H,xs[i]?=some x→Pv i σ H→g x σ H fun σ2 H2=>tb { D with nx:=Pv (i+1),ct:=Pv (i+1),bk:=D.nx } σ2 H2) (hd:∀ σ H,Pv xs.length σ H→D.nx σ H) :
  ∃ W:Nat→Nat→St→Hp→Prop,(∃ m,W 0 m σ H)∧∀ i m σ H,W i m σ H →
   ((Itl K a).stop i H∧D.nx σ H)∨((Itl K a).go i H∧∃ N:St→Hp→Prop,(∀ σ' H',N σ' H'→∃ m',m'<m∧W (i+1) m' σ' H')∧∀ x H',(Itl K a).yld i H x H'→g x σ H' fun σ2 H2=>tb { D with nx:=N,ct:=N,bk:=D.nx } σ2 H2):=by
 refine⟨fun i m σ H=>m=xs.length - i∧i≤xs.length∧Pv i σ H,⟨xs.length,by simp,Nat.zero_le _,h0⟩,?_⟩
 rintro i m σ H ⟨rfl,hi,p⟩
 have q:=hl i σ H hi p
 by_cases hlt:i<xs.length
 ·refine .inr ⟨⟨xs,xs[i],q,by simp [hlt]⟩,Pv (i+1),fun σ' H' p'=>⟨xs.length - (i+1),by lia,rfl,hlt,p'⟩,fun x H' y=>?_⟩
  obtain⟨e,y⟩:=y
  subst e
  exact hs i x σ _ (y xs q) p
 ·have e:i=xs.length:=by lia
  subst e
  exact .inl ⟨⟨xs,q,Nat.le_refl _⟩,hd σ H p⟩
theorem for_range {lo:Int}{n:Nat}{g:TG}{tb:TS}{D:Ends}{σ:St}{H:Hp} (Pv:Nat→St→Hp→Prop) (h0:Pv 0 σ H)
  (hs:∀ i σ H,i<n→Pv i σ H→g (.int (lo+i)) σ H fun σ2 H2=>tb { D with nx:=Pv (i+1),ct:=Pv (i+1),bk:=D.nx } σ2 H2) (hd:∀ σ H,Pv n σ H→D.nx σ H) :
  ∃ W:Nat→Nat→St→Hp→Prop,(∃ m,W 0 m σ H)∧∀ i m σ H,W i m σ H →
   ((Itr lo n).stop i H∧D.nx σ H)∨((Itr lo n).go i H∧∃ N:St→Hp→Prop,(∀ σ' H',N σ' H'→∃ m',m'<m∧W (i+1) m' σ' H')∧∀ x H',(Itr lo n).yld i H x H'→g x σ H' fun σ2 H2=>tb { D with nx:=N,ct:=N,bk:=D.nx } σ2 H2):=by
 refine⟨fun i m σ H=>m=n - i∧i≤n∧Pv i σ H,⟨n,by simp,Nat.zero_le _,h0⟩,?_⟩
 rintro i m σ H ⟨rfl,hi,p⟩
 by_cases hlt:i<n
 ·refine .inr ⟨hlt,Pv (i+1),fun σ' H' p'=>⟨n - (i+1),by lia,rfl,hlt,p'⟩,fun x H' y=>?_⟩
  obtain⟨e,y⟩:=y
  subst e y
  exact hs i σ _ hlt p
 ·have e:i=n:=by lia
  subst e
  exact .inl ⟨Nat.le_refl _,hd σ H p⟩
end L2
namespace L2
open PySem PySem.Spec PyProof.Rows
abbrev R2:=V→V→Hp→VK→Prop
def OpR (X:Cx) (f:Value→Value→Sem Value) (r:R2):Prop :=
 ∀ (pins:List (Addr×Obj)) (s:Shared) (σ:St) (H:Hp) (x y:V) (v u:Value) (Q:VK),Inv X pins σ H s→RelV x v→RelV y u→r x y H Q →
  wpAny (model X.prog X.w) X.A (f v u) (EP X pins σ Q) X.xe s
def UnR (X:Cx) (f:Value→Sem Value) (r:V→Hp→VK→Prop):Prop :=
 ∀ (pins:List (Addr×Obj)) (s:Shared) (σ:St) (H:Hp) (x:V) (v:Value) (Q:VK),Inv X pins σ H s→RelV x v→r x H Q →
  wpAny (model X.prog X.w) X.A (f v) (EP X pins σ Q) X.xe s
def CallR (X:Cx) (f:Value) (r:List V→Hp→VK→Prop):Prop :=
 ∀ (pins:List (Addr×Obj)) (s:Shared) (σ:St) (H:Hp) (xs:List V) (us:List Value) (Q:VK),Inv X pins σ H s→Vals xs us→r xs H Q →
  wpAny (model X.prog X.w) X.A (call f us) (EP X pins σ Q) X.xe s
def TruR (X:Cx) (r:V→Hp→(Bool→Hp→Prop)→Prop):Prop :=
 ∀ (pins:List (Addr×Obj)) (s:Shared) (σ:St) (H:Hp) (x:V) (v:Value) (Q:Bool→Hp→Prop),Inv X pins σ H s→RelV x v→r x H Q →
  wpAny (model X.prog X.w) X.A (truthy v) (TP X pins σ Q) X.xe s
def tOp (r:R2) (ta tb:TE):TE:=fun σ H Q=>ta σ H fun x H1=>tb σ H1 fun y H2=>r x y H2 Q
def tUn (r:V→Hp→VK→Prop) (ta:TE):TE:=fun σ H Q=>ta σ H fun x H1=>r x H1 Q
def rI (C:Int→Int→Prop) (g:Int→Int→V):R2:=fun x y H Q=>∃ i j,x=.int i∧y=.int j∧C i j∧Q (g i j) H
def rI0 (g:Int→Int→V):R2:=fun x y H Q=>∃ i j,x=.int i∧y=.int j∧Q (g i j) H
def rU (g:Int→V):V→Hp→VK→Prop:=fun x H Q=>∃ i,x=.int i∧Q (g i) H
section
variable {X:Cx}{a b c:Expr}{ta tb tc:TE}{pos:Pos}
theorem binT (ha:PE X a ta) (hb:PE X b tb) {pins:List (Addr×Obj)}{s:Shared}{σ:St}{H:Hp}{R:V→V→Hp→Prop} (I:Inv X pins σ H s)
  (h:ta σ H fun x H1=>tb σ H1 fun y H2=>R x y H2) {Q:Value→Shared→Prop}{f:Value→Value→Sem Value}
  (hf:∀ v u s2 x y H2,Inv X pins σ H2 s2→RelV x v→RelV y u→R x y H2→wpAny (model X.prog X.w) X.A (f v u) Q X.xe s2) :
  wpAny (model X.prog X.w) X.A (eval a X.env) (fun v s₁=>wpAny (model X.prog X.w) X.A (eval b X.env) (fun u s₂=>wpAny (model X.prog X.w) X.A (f v u) Q X.xe s₂) X.xe s₁) X.xe s:=by
 refine thn (ha pins s σ H _ I h) fun v s1 ⟨x,H1,I1,r1,q1⟩=>?_
 refine thn (hb pins s1 σ H1 _ I1 q1) fun u s2 ⟨y,H2,I2,r2,q2⟩=>?_
 exact hf v u s2 x y H2 I2 r1 r2 q2
theorem pe_op {op:Operator}{r:R2} (ho:OpR X (binaryOp op) r) (ha:PE X a ta) (hb:PE X b tb):PE X (.BinOp a op b pos) (tOp r ta tb):=by
 intro pins s σ H Q I h
 exact wpAny_BinOp (binT ha hb I h fun v u s2 x y H2 I2 rx ry q=>ho pins s2 σ H2 x y v u Q I2 rx ry q)
theorem pe_un {op:UnaryOp}{r:V→Hp→VK→Prop} (ho:UnR X (unaryOp op) r) (ha:PE X a ta):PE X (.UnaryOp op a pos) (tUn r ta):=by
 intro pins s σ H Q I h
 exact UnaryOp_ (thn (ha pins s σ H _ I h) fun v s1 ⟨x,H1,I1,r1,q1⟩=>ho pins s1 σ H1 x v Q I1 r1 q1)
theorem opI {f:Value→Value→Sem Value}{C:Int→Int→Prop}{g:Int→Int→Int}
  (rule:∀ (i j:Int) (t u:Tok) (s:Shared) (Q:Value→Shared→Prop) (E:Value→Shared→Prop),C i j→Q (.int (g i j) s.toks) { s with toks:=s.toks+1 }→wpAny (model X.prog X.w) X.A (f (.int i t) (.int j u)) Q E s) :
  OpR X f (rI C fun i j=>.int (g i j)):=by
 intro pins s σ H x y v u Q I rx ry h
 obtain⟨i,j,rfl,rfl,hc,q⟩:=h
 obtain⟨t,rfl⟩:=rx
 obtain⟨t',rfl⟩:=ry
 exact rule i j t t' s _ _ hc ⟨.int (g i j),H,I.tok _,⟨_,rfl⟩,q⟩
theorem opI0 {f:Value→Value→Sem Value}{g:Int→Int→Int}
  (rule:∀ (i j:Int) (t u:Tok) (s:Shared) (Q:Value→Shared→Prop) (E:Value→Shared→Prop),Q (.int (g i j) s.toks) { s with toks:=s.toks+1 }→wpAny (model X.prog X.w) X.A (f (.int i t) (.int j u)) Q E s) :
  OpR X f (rI0 fun i j=>.int (g i j)):=by
 intro pins s σ H x y v u Q I rx ry h
 obtain⟨i,j,rfl,rfl,q⟩:=h
 obtain⟨t,rfl⟩:=rx
 obtain⟨t',rfl⟩:=ry
 exact rule i j t t' s _ _ ⟨.int (g i j),H,I.tok _,⟨_,rfl⟩,q⟩
theorem opB0 {f:Value→Value→Sem Value}{g:Int→Int→Bool}
  (rule:∀ (i j:Int) (t u:Tok) (s:Shared) (Q:Value→Shared→Prop) (E:Value→Shared→Prop),Q (.bool (g i j)) s→wpAny (model X.prog X.w) X.A (f (.int i t) (.int j u)) Q E s) :
  OpR X f (rI0 fun i j=>.bl (g i j)):=by
 intro pins s σ H x y v u Q I rx ry h
 obtain⟨i,j,rfl,rfl,q⟩:=h
 obtain⟨t,rfl⟩:=rx
 obtain⟨t',rfl⟩:=ry
 exact rule i j t t' s _ _ ⟨.bl (g i j),H,I,rfl,q⟩
def CDiv (i j:Int):Prop:=0<j∧j<1073741824
def CPow (i j:Int):Prop:=0≤j∧j≤1000000∧i.natAbs<2 ^ 64
def CMul (i j:Int):Prop:=(-(2 ^ 64)<i∧i<2 ^ 64)∨(-(2 ^ 64)<j∧j<2 ^ 64)
theorem CMul.ok {i j:Int} (h:CMul i j):IntMulOk i j:=by
 rcases h with⟨h1,h2⟩ | ⟨h1,h2⟩
 ·exact .of_left (intBits_le_64 h1 h2)
 ·exact .of_right (intBits_le_64 h1 h2)
theorem op_add:OpR X (binaryOp .Add) (rI0 fun i j=>.int (i+j)):=opI0 fun _ _ _ _ _ _ _ q=>add_int q
theorem op_sub:OpR X (binaryOp .Sub) (rI0 fun i j=>.int (i - j)):=opI0 fun _ _ _ _ _ _ _ q=>sub_int q
theorem op_mul:OpR X (binaryOp .Mult) (rI CMul fun i j=>.int (i * j)):=opI fun _ _ _ _ _ _ _ hc q=>mul_int q hc.ok
theorem op_fdiv:OpR X (binaryOp .FloorDiv) (rI CDiv fun i j=>.int (i / j)):=opI fun i j _ _ _ _ _ hc q=>by
 have h1:(0:Int)<j:=hc.1
 have h2:j<1073741824:=hc.2
 exact floordiv_int (by lia) (by rw [Int.fdiv_eq_ediv_of_nonneg i (by lia)]; exact q) (.inl (PyProof.noPylong_small (by lia)))
theorem op_mod:OpR X (binaryOp .Mod) (rI (fun _ j=>0<j) fun i j=>.int (i % j)):=opI fun i j _ _ _ _ _ hc q=>by
 have h1:(0:Int)<j:=hc
 exact mod_int' (by lia) (by rw [Int.fmod_eq_emod_of_nonneg i (by lia)]; exact q)
theorem op_pow:OpR X (binaryOp .Pow) (rI CPow fun i j=>.int (i ^ j.toNat)):=opI fun _ _ _ _ _ _ _ hc q=>pow_int_small hc.1 hc.2.1 hc.2.2 q
theorem unI {f:Value→Sem Value}{g:Int→Int}
  (rule:∀ (i:Int) (t:Tok) (s:Shared) (Q:Value→Shared→Prop) (E:Value→Shared→Prop),Q (.int (g i) s.toks) { s with toks:=s.toks+1 }→wpAny (model X.prog X.w) X.A (f (.int i t)) Q E s) :
  UnR X f (rU fun i=>.int (g i)):=by
 intro pins s σ H x v Q I rx h
 obtain⟨i,rfl,q⟩:=h
 obtain⟨t,rfl⟩:=rx
 exact rule i t s _ _ ⟨.int (g i),H,I.tok _,⟨_,rfl⟩,q⟩
theorem un_neg:UnR X (unaryOp .USub) (rU fun i=>.int (-i)):=unI fun _ _ _ _ _ q=>neg_int q
end
def scal:V→V→Bool
 | .non,.non=>true | .non,.int _=>true | .int _,.non=>true | .non,.bl _=>true | .bl _,.non=>true | .non,.str _=>true | .str _,.non=>true
 | .int _,.int _=>true | .bl _,.bl _=>true | .str _,.str _=>true | .byt _,.byt _=>true
 | .int _,.str _=>true | .str _,.int _=>true | .bl _,.str _=>true | .str _,.bl _=>true
 | _,_=>false
def rEq:R2:=fun x y H Q=>scal x y=true∧Q (.bl (decide (x=y))) H
def rNe:R2:=fun x y H Q=>scal x y=true∧Q (.bl (!decide (x=y))) H
theorem dec_int {i j:Int}:decide (V.int i=V.int j)=(i == j):=by
 rw [Bool.eq_iff_iff]
 simp
theorem dec_bl {i j:Bool}:decide (V.bl i=V.bl j)=(i == j):=by
 rw [Bool.eq_iff_iff]
 simp
theorem dec_str {i j:Str}:decide (V.str i=V.str j)=(i == j):=by
 rw [Bool.eq_iff_iff]
 simp
theorem dec_byt {i j:Array UInt8}:decide (V.byt i=V.byt j)=(i.toList == j.toList):=by
 rw [Bool.eq_iff_iff]
 cases i
 cases j
 simp
section
variable {X:Cx}{a b c:Expr}{ta tb tc:TE}{pos:Pos}
theorem fin_bl {pins:List (Addr×Obj)}{σ:St}{H:Hp}{s:Shared}{Q:VK}{k k':Bool} (I:Inv X pins σ H s) (q:Q (.bl k) H) (e:k=k'):EP X pins σ Q (.bool k') s:=by
 subst e
 exact⟨.bl k,H,I,rfl,q⟩
theorem op_eq:OpR X (compareOp .Eq) rEq:=by
 intro pins s σ H x y v u Q I rx ry h
 obtain⟨hs,q⟩:=h
 cases x with
 | non =>
  cases rx
  cases y with
  | non=>cases ry; exact PySem.EqNone.eq_none_none (fin_bl I q (by simp))
  | bl j=>cases ry; exact PySem.EqNone.eq_none_bool (fin_bl I q (by simp))
  | int j=>obtain⟨t',rfl⟩:=ry; exact PySem.EqNone.eq_none_int (fin_bl I q (by simp))
  | str j=>obtain⟨t',rfl⟩:=ry; exact PySem.EqNone.eq_none_str (fin_bl I q (by simp))
  | _=>exact absurd (show false=true from hs) Bool.false_ne_true
 | bl i =>
  cases rx
  cases y with
  | non=>cases ry; exact PySem.EqNone.eq_bool_none (fin_bl I q (by simp))
  | bl j=>cases ry; exact eq_bool (fin_bl I q dec_bl)
  | str j=>obtain⟨t',rfl⟩:=ry; exact PySem.EqMixed.eq_bool_str (fin_bl I q (by simp))
  | _=>exact absurd (show false=true from hs) Bool.false_ne_true
 | int i =>
  obtain⟨t,rfl⟩:=rx
  cases y with
  | non=>cases ry; exact PySem.EqNone.eq_int_none (fin_bl I q (by simp))
  | int j=>obtain⟨t',rfl⟩:=ry; exact eq_int (fin_bl I q dec_int)
  | str j=>obtain⟨t',rfl⟩:=ry; exact PySem.EqMixed.eq_int_str (fin_bl I q (by simp))
  | _=>exact absurd (show false=true from hs) Bool.false_ne_true
 | str i =>
  obtain⟨t,rfl⟩:=rx
  cases y with
  | non=>cases ry; exact PySem.EqNone.eq_str_none (fin_bl I q (by simp))
  | bl j=>cases ry; exact PySem.EqMixed.eq_str_bool (fin_bl I q (by simp))
  | int j=>obtain⟨t',rfl⟩:=ry; exact PySem.EqMixed.eq_str_int (fin_bl I q (by simp))
  | str j=>obtain⟨t',rfl⟩:=ry; exact eq_str (fin_bl I q dec_str)
  | _=>exact absurd (show false=true from hs) Bool.false_ne_true
 | byt i =>
  obtain⟨t,rfl⟩:=rx
  cases y with
  | byt j=>obtain⟨t',rfl⟩:=ry; exact PySem.W.eq_bytes (fin_bl I q dec_byt)
  | _=>exact absurd (show false=true from hs) Bool.false_ne_true
 | _=>cases y <;> exact absurd (show false=true from hs) Bool.false_ne_true
theorem op_ne:OpR X (compareOp .NotEq) rNe:=by
 intro pins s σ H x y v u Q I rx ry h
 obtain⟨hs,q⟩:=h
 cases x with
 | non =>
  cases rx
  cases y with
  | non=>cases ry; exact PySem.EqNone.ne_none_none (fin_bl I q (by simp))
  | bl j=>cases ry; exact PySem.EqNone.ne_none_bool (fin_bl I q (by simp))
  | int j=>obtain⟨t',rfl⟩:=ry; exact PySem.EqNone.ne_none_int (fin_bl I q (by simp))
  | str j=>obtain⟨t',rfl⟩:=ry; exact PySem.EqNone.ne_none_str (fin_bl I q (by simp))
  | _=>exact absurd (show false=true from hs) Bool.false_ne_true
 | bl i =>
  cases rx
  cases y with
  | non=>cases ry; exact PySem.EqNone.ne_bool_none (fin_bl I q (by simp))
  | bl j=>cases ry; exact ne_bool (fin_bl I q (congrArg not dec_bl))
  | str j=>obtain⟨t',rfl⟩:=ry; exact PySem.EqMixed.ne_bool_str (fin_bl I q (by simp))
  | _=>exact absurd (show false=true from hs) Bool.false_ne_true
 | int i =>
  obtain⟨t,rfl⟩:=rx
  cases y with
  | non=>cases ry; exact PySem.EqNone.ne_int_none (fin_bl I q (by simp))
  | int j=>obtain⟨t',rfl⟩:=ry; exact ne_int (fin_bl I q (congrArg not dec_int))
  | str j=>obtain⟨t',rfl⟩:=ry; exact PySem.EqMixed.ne_int_str (fin_bl I q (by simp))
  | _=>exact absurd (show false=true from hs) Bool.false_ne_true
 | str i =>
  obtain⟨t,rfl⟩:=rx
  cases y with
  | non=>cases ry; exact PySem.EqNone.ne_str_none (fin_bl I q (by simp))
  | bl j=>cases ry; exact PySem.EqMixed.ne_str_bool (fin_bl I q (by simp))
  | int j=>obtain⟨t',rfl⟩:=ry; exact PySem.EqMixed.ne_str_int (fin_bl I q (by simp))
  | str j=>obtain⟨t',rfl⟩:=ry; exact ne_str (fin_bl I q (congrArg not dec_str))
  | _=>exact absurd (show false=true from hs) Bool.false_ne_true
 | byt i =>
  obtain⟨t,rfl⟩:=rx
  cases y with
  | byt j=>obtain⟨t',rfl⟩:=ry; exact PySem.W.ne_bytes (fin_bl I q (congrArg not dec_byt))
  | _=>exact absurd (show false=true from hs) Bool.false_ne_true
 | _=>cases y <;> exact absurd (show false=true from hs) Bool.false_ne_true
theorem op_lt:OpR X (compareOp .Lt) (rI0 fun i j=>.bl (decide (i<j))):=opB0 fun _ _ _ _ _ _ _ q=>lt_int q
theorem op_gt:OpR X (compareOp .Gt) (rI0 fun i j=>.bl (decide (j<i))):=opB0 fun _ _ _ _ _ _ _ q=>gt_int q
theorem op_isN:OpR X (compareOp .Is) (fun x y H Q=>y=.non∧Q (.bl (decide (x=.non))) H):=by
 intro pins s σ H x y v u Q I rx ry h
 obtain⟨rfl,q⟩:=h
 cases ry
 refine is_none_gen (fin_bl I q ?_)
 cases x <;> first
  | (cases rx; rfl)
  | (obtain⟨t,rfl⟩:=rx; rfl)
theorem nomark (b:Expr) {op:CmpOp} (h:op≠.In:=by decide) (h2:op≠.NotIn:=by decide):behindInMarks op b=false:=by
 have e1:(op == CmpOp.In)=false:=by cases op <;> first | rfl | exact absurd rfl h
 have e2:(op == CmpOp.NotIn)=false:=by cases op <;> first | rfl | exact absurd rfl h2
 cases b <;> simp [behindInMarks,e1,e2]
theorem pe_cmpR {op:CmpOp}{r:R2} (ho:OpR X (compareOp op) r) (ha:PE X a ta) (hb:PE X b tb) (hm:behindInMarks op b=false):PE X (.Compare a [op] [b] pos) (tOp r ta tb):=by
 intro pins s σ H Q I h
 exact wpAny_Compare1 (binT ha hb I h fun v u s2 x y H2 I2 rx ry q=>ho pins s2 σ H2 x y v u Q I2 rx ry q) hm
def tTest (t:TE):TT:=fun σ H Q=>t σ H fun x H'=>∃ k,x=.bl k∧Q k H'
theorem pt_cmpR {op:CmpOp}{r:R2} (ho:OpR X (compareOp op) r) (ha:PE X a ta) (hb:PE X b tb) (hm:behindInMarks op b=false):PT X (.Compare a [op] [b] pos) (tTest (tOp r ta tb)):=by
 intro pins s σ H Q I h
 refine wpAny_isTrue_Compare1 (thn (ha pins s σ H _ I h) fun v s1 ⟨x,H1,I1,r1,q1⟩=>thn (hb pins s1 σ H1 _ I1 q1) fun u s2 ⟨y,H2,I2,r2,q2⟩ =>
  thn (ho pins s2 σ H2 x y v u _ I2 r1 r2 q2) fun c s3 ⟨z,H3,I3,r3,k,e,q3⟩=>?_) hm
 subst e
 cases r3
 exact wpAny_truthy_bool ⟨H3,I3,q3⟩
def TruV (K:PySem.W.Frag) (x:V) (H:Hp) (k:Bool):Prop :=
 match x with
 | .non=>k=false
 | .bl b=>k=b
 | .int i=>k=(i != 0)
 | .str y=>y.length≤sizeLine∧k=((y.length:Int) != 0)
 | .byt y=>y.size≤sizeLine∧k=((y.size:Int) != 0)
 | .ref p=>(∃ xs,SqL K H p xs∧k=!xs.isEmpty)∨(∃ xs,SqT K H p xs∧k=!xs.isEmpty)∨∃ kvs,H p=some (.dK kvs)∧k=!kvs.isEmpty
 | _=>False
theorem isEmpty_kv {κ:Type}{kvs:List (κ×V)}{vs:List (κ×Value)} (r:KV kvs vs):(!vs.isEmpty)=!kvs.isEmpty:=by
 cases r <;> rfl
theorem isEmpty_of {xs:List V}{its:List Value} (r:Vals xs its):(!its.toArray.isEmpty)=!xs.isEmpty:=by
 cases r <;> simp
theorem line63:(sizeLine:Nat)<2 ^ 63:=by rw [sizeLine_eq]; decide
theorem tru_ok:TruR X (fun x H Q=>∃ k,TruV X.K x H k∧Q k H):=by
 intro pins s σ H x v Q I rx h
 obtain⟨k,e,q⟩:=h
 have hl:=line63
 have hs:sizeLine=16777216:=sizeLine_eq
 cases x with
 | non =>
  cases rx
  have e':k=false:=e
  subst e'
  exact truthy_none ⟨H,I,q⟩
 | bl b =>
  cases rx
  have e':k=b:=e
  subst e'
  exact wpAny_truthy_bool ⟨H,I,q⟩
 | int i =>
  obtain⟨t,rfl⟩:=rx
  have e':k=(i != 0):=e
  subst e'
  exact PySem.P.truthy_int ⟨H,I,q⟩
 | str y =>
  obtain⟨t,rfl⟩:=rx
  obtain⟨hy,e'⟩:y.length≤sizeLine∧k=((y.length:Int) != 0):=e
  subst e'
  exact PySem.P.truthy_str (by lia) ⟨H,I.tok _,q⟩
 | byt y =>
  obtain⟨t,rfl⟩:=rx
  obtain⟨hy,e'⟩:y.size≤sizeLine∧k=((y.size:Int) != 0):=e
  subst e'
  exact PySem.W.truthy_bytes (by lia) ⟨H,I.tok _,q⟩
 | ref p =>
  cases rx
  have e':(∃ xs,SqL X.K H p xs∧k=!xs.isEmpty)∨(∃ xs,SqT X.K H p xs∧k=!xs.isEmpty)∨∃ kvs,H p=some (.dK kvs)∧k=!kvs.isEmpty:=e
  rcases e' with⟨xs,hx,e'⟩ | ⟨xs,hx,e'⟩ | ⟨kvs,hx,e'⟩
  ·subst e'
   obtain⟨its,r,pl,hz⟩:=I.list hx
   have hlen:=r.length
   exact wpAny_truthy_list pl.isList (by simp only [List.size_toArray]; lia) ⟨H,I.tok _,by rw [isEmpty_of r]; exact q⟩
  ·subst e'
   obtain⟨its,r,pl,hz⟩:=I.tuple hx
   have hlen:=r.length
   exact truthy_tuple pl (by simp only [List.size_toArray]; lia) ⟨H,I.tok _,by rw [isEmpty_of r]; exact q⟩
  ·subst e'
   obtain⟨hz,hS,vs,r,m⟩:kvs.length≤sizeLine∧(p == sysModules)=false∧∃ vs,KV kvs vs∧s.heap.DictOf (mixKind X.prog X.w) p vs:=I.hok p _ hx
   have hlen:kvs.length=vs.length:=Paired.length r
   exact wpAny_truthy_dict hS m (by lia) ⟨H,I.tok _,by rw [isEmpty_kv r]; exact q⟩
 | _=>exact (show False from e).elim
theorem pt_truth (ha:PE X a ta) (he:∀ whole,isTrue a X.env whole=(do let v ← whole; standAt a.pos; holding [v] (truthy v))) :
  PT X a (fun σ H Q=>ta σ H fun x H'=>∃ k,TruV X.K x H' k∧Q k H'):=by
 intro pins s σ H Q I h
 exact isTrue_plain (thn (ha pins s σ H _ I h) fun v s1 ⟨x,H1,I1,r1,q1⟩=>tru_ok pins s1 σ H1 x v Q I1 r1 q1) (he _)
theorem op_add_str:OpR X (binaryOp .Add) (fun x y H Q=>∃ i j,x=.str i∧y=.str j∧i.length+j.length≤sizeLine∧Q (.str (i++j)) H):=by
 intro pins s σ H x y v u Q I rx ry h
 obtain⟨i,j,rfl,rfl,hz,q⟩:=h
 obtain⟨t,rfl⟩:=rx
 obtain⟨t',rfl⟩:=ry
 exact add_str (fun t' tk=>⟨.str (i++j),H,I.tok _,⟨_,rfl⟩,q⟩) hz
theorem vals1 {x:V}{us:List Value} (r:Vals [x] us):∃ u,us=[u]∧RelV x u:=by
 cases r with
 | cons r1 r2=>cases r2; exact⟨_,rfl,r1⟩
theorem vals2 {x y:V}{us:List Value} (r:Vals [x,y] us):∃ u w',us=[u,w']∧RelV x u∧RelV y w':=by
 cases r with
 | cons r1 r2 =>
  cases r2 with
  | cons r3 r4=>cases r4; exact⟨_,_,rfl,r1,r3⟩
theorem call_min2 (hc:X.calm=true):CallR X (.builtin "min") (fun xs H Q=>∃ i j,xs=[.int i,.int j]∧Q (.int (if j<i then j else i)) H):=by
 intro pins s σ H xs us Q I r h
 obtain⟨i,j,rfl,q⟩:=h
 obtain⟨u,w',rfl,⟨t,rfl⟩,⟨t',rfl⟩⟩:=vals2 r
 refine min_two_ints (I.ok.hd hc) fun h' tk k=>⟨_,H,I.kept k,?_,q⟩
 by_cases hj:j<i
 ·rw [if_pos hj,if_pos hj]; exact⟨_,rfl⟩
 ·rw [if_neg hj,if_neg hj]; exact⟨_,rfl⟩
end
end L2
namespace L2
open PySem PySem.Spec PyProof.Rows
structure ObjM (h:Heap) (x dx C:Addr) (mA:Str→Option Value):Prop where
 obj:h.get? x=some (PySem.W.instObj C dx)
 ns:h.Ns1 dx mA
 ne:dx≠x
theorem lookIn_ns {h:Heap}{dx:Addr}{mA:Str→Option Value} (n:h.Ns1 dx mA):∃ od,h.get? dx=some od∧∀ name,PySem.W.lookIn name od=some (mA name):=by
 obtain⟨o,es,ep,ho,hd,hk,_,hm⟩:=n
 refine⟨o,ho,fun name=>?_⟩
 have e:=hm name
 unfold nsFind findBy at e
 rw [← Array.find?_toList] at e
 unfold PySem.W.lookIn
 rw [hd]
 dsimp only
 split
 ·rename_i y q
  rw [q] at e
  exact congrArg some e
 ·rename_i q
  rw [q] at e
  have a:es.toList.any (·.refKey)=false:=by
   rw [List.any_eq_false]
   intro y hy
   obtain⟨z,t,hkey⟩:=hk y (Array.mem_toList_iff.mp hy)
   simp [DictEntry.refKey,hkey]
  have a':¬ es.toList.any (·.refKey)=true:=by rw [a]; exact Bool.false_ne_true
  rw [if_neg a']
  exact congrArg some e
theorem ObjM.look {h:Heap}{x dx C:Addr}{mA:Str→Option Value} (I:ObjM h x dx C mA):∃ od,PySem.W.InstAt h x (PySem.W.instObj C dx) C (some od)∧∀ name,PySem.W.lookIn name od=some (mA name) :=
 let ⟨od,ho,hl⟩:=lookIn_ns I.ns
 ⟨od,⟨I.obj,rfl,rfl,ho⟩,hl⟩
section
variable {prog:Program}{w:World}{A:Around}{E:Value→Shared→Prop}{s:Shared}{K:PySem.W.Frag}{x dx C f:Addr}{mA:Str→Option Value}{name:Str}{v:Value}
theorem get_map {expr:Bool}{Q:Value→Shared→Prop} (X:K.In s.heap) (I:ObjM s.heap x dx C mA) (hg:PySem.W.plainGet K C name=true) (hh:PySem.W.hasDictIn K C=true)
  (ha:PySem.W.findIn K (.ref C) name=some none) (hv:mA name=some v) (hv':PySem.W.handedIn v=true) (h:Q v { s with toks:=s.toks+1 }) :
  wpAny (model prog w) A (getAttr (.ref x) name expr) Q E s:=by
 obtain⟨od,J,hl⟩:=I.look
 exact PySem.W.get_value X J (PySem.W.plainGet_of hg).1 (PySem.W.findObj_own hh ha rfl (by rw [hl,hv])) hv' h
theorem get_meth {pl:Sem Bool}{Q:Value×List Value→Shared→Prop} (X:K.In s.heap) (I:ObjM s.heap x dx C mA) (hg:PySem.W.plainGet K C name=true)
  (hf:PySem.W.findIn K (.ref C) name=some (some (.ref f))) (ht:PySem.W.isFn K (.ref f)=true) (hv:mA name=none) (h:Q (.ref f,[.ref x]) s) :
  wpAny (model prog w) A (getMethod (.ref x) name pl) Q E s:=by
 obtain⟨od,J,hl⟩:=I.look
 exact PySem.W.method_fn X J (PySem.W.plainGet_of hg).1 (PySem.W.plainGet_of hg).2 hf (beq_iff_eq.mp ht) (by show (PySem.W.lookIn name od).map (·.isSome)=some false; rw [hl,hv]; rfl) h
theorem set_map {ns:List Str}{Q:Unit→Shared→Prop} (X:K.In s.heap) (I:ObjM s.heap x dx C mA)
  (hs:PySem.W.findIn K (.ref C) "__setattr__"=some (some (.builtin "object.__setattr__"))) (hp:PySem.W.plainOver K C=true) (ht:PySem.W.takerIn K C name=some none) (hh:PySem.W.hasDictIn K C=true)
  (hw:PySem.Within mA ns) (hsz:ns.length≤sizeLine)
  (h:∀ h',ObjM h' x dx C (fun y=>if y=name then some v else mA y)→Heap.SameBut dx s.heap h'→Q () { s with heap:=h',toks:=s.toks+2 }) :
  wpAny (model prog w) A (setAttr (.ref x) name v) Q E s:=by
 obtain⟨od,J,hl⟩:=I.look
 refine PySem.W.set_plain X J hs (PySem.W.osa_open (s:={ s with toks:=s.toks+1 }) (r:=none) X J hp ht fun b=>?_)
 obtain⟨cd,hc,hd'⟩:=PySem.W.any_some hh
 have hx:s.heap.get? x=some ⟨.ref C,some dx,.plain,#[]⟩:=I.obj
 refine wpAny_bind (wpAny_pure (wpAny_bind (wpAny_bind (wpAny_loadPart hx (wpAny_bind (PySem.W.Looks.here (s:={ s with toks:=s.toks+1 }) (PySem.W.looks_clsIn X hc) ?_))))))
 rw [hd']
 refine wpAny_pure (a:=some dx) (wpAny_bind (wpAny_pure (wpAny_bind ?_)))
 refine wpAny_nsSet1 (s:={ s with toks:=s.toks+1 }) I.ns fun h' hn2 hs2=>?_
 obtain⟨oD,esD,epD,hoD,hdD,hcD⟩:=hn2.count (PySem.Within.cons name v hw)
 refine wpAny_bind (wpAny_lookBehind hoD (by rw [hdD]; exact pastItsLine_dict (Nat.le_trans hcD (by rw [List.length_cons]; lia))) ?_)
 exact wpAny_pure (h _ ⟨(hs2.2 _ (Ne.symm I.ne)).trans I.obj,hn2,I.ne⟩ hs2)
theorem make_map {R:Result→Shared→Prop}{vs:List Value}{kw:List (Str×Value)} (X:K.In s.heap) (hm:PySem.W.makesIn K C=true)
  (hi:PySem.W.findIn K (.ref C) "__init__"=some (some (.ref f))) (hf:PySem.W.typeIn K (.ref f)=some (.type "function"))
  (h:codeAny (model prog w) (A.under (.builtin "type.__call__" ⟨.ref C::vs,kw⟩)) (.call (.ref f) ⟨.ref (s.heap.objs.size+1)::vs,kw⟩) (PySem.W.InitBack (s.heap.objs.size+1) R)
   { s with heap:=(s.heap.push PySem.W.emptyDict).push (PySem.W.instObj C s.heap.objs.size) }) :
  codeAny (model prog w) A (.call (.ref C) ⟨vs,kw⟩) R s:=by
 obtain⟨hh,g,d,t,os⟩:=s
 exact PySem.W.make_core (PySem.W.makes_of X hm) (PySem.W.looks_findIn X hi) (fun self=>PySem.W.bind_fn X self hf) (.inl rfl) h
end
def putF (f:Str) (v:V):List (Str×V)→List (Str×V)
 | []=>[(f,v)]
 | (g,x)::r=>if g=f then (g,v)::r else (g,x)::putF f v r
theorem lookup_putF (f g:Str) (v:V):∀ fs:List (Str×V),(putF f v fs).lookup g=if g=f then some v else fs.lookup g
 | []=>by
  show List.lookup g [(f,v)]=_
  by_cases h:g=f
  ·have hb:(g == f)=true:=beq_iff_eq.mpr h
   simp only [List.lookup,hb,if_pos h]
  ·have hb:(g == f)=false:=beq_eq_false_iff_ne.mpr h
   simp only [List.lookup,hb,if_neg h]
 | (k,x)::r=>by
  have ih:=lookup_putF f g v r
  rw [show putF f v ((k,x)::r)=(if k=f then (k,v)::r else (k,x)::putF f v r) from rfl]
  by_cases hk:k=f
  ·rw [if_pos hk]
   by_cases h:g=k
   ·have hb:(g == k)=true:=beq_iff_eq.mpr h
    simp only [List.lookup,hb,if_pos (h.trans hk)]
   ·have hb:(g == k)=false:=beq_eq_false_iff_ne.mpr h
    simp only [List.lookup,hb,if_neg (fun e:g=f=>h (e.trans hk.symm))]
  ·rw [if_neg hk]
   by_cases h:g=k
   ·have hb:(g == k)=true:=beq_iff_eq.mpr h
    simp only [List.lookup,hb,if_neg (fun e:g=f=>hk (h.symm.trans e))]
   ·have hb:(g == k)=false:=beq_eq_false_iff_ne.mpr h
    simp only [List.lookup,hb]
    exact ih
theorem keys_putF (f:Str) (v:V):∀ fs:List (Str×V),f∈(putF f v fs).map (·.1)∧∀ g,g∈fs.map (·.1)→g∈(putF f v fs).map (·.1)
 | []=>⟨by simp [putF],fun g h=>by simp at h⟩
 | (k,x)::r=>by
  obtain⟨i1,i2⟩:=keys_putF f v r
  rw [show putF f v ((k,x)::r)=(if k=f then (k,v)::r else (k,x)::putF f v r) from rfl]
  by_cases hk:k=f
  ·rw [if_pos hk]
   subst hk
   exact⟨by simp,fun g h=>by simpa using h⟩
  ·rw [if_neg hk]
   refine⟨?_,fun g h=>?_⟩
   ·rw [List.map_cons]
    exact List.mem_cons_of_mem _ i1
   ·rw [List.map_cons] at h ⊢
    rcases List.mem_cons.mp h with e | e
    ·exact List.mem_cons.mpr (.inl e)
    ·exact List.mem_cons_of_mem _ (i2 g e)
theorem length_putF (f:Str) (v:V):∀ fs:List (Str×V),(putF f v fs).length≤fs.length+1
 | []=>by simp [putF]
 | (k,x)::r=>by
  have ih:=length_putF f v r
  rw [show putF f v ((k,x)::r)=(if k=f then (k,v)::r else (k,x)::putF f v r) from rfl]
  by_cases hk:k=f
  ·rw [if_pos hk,List.length_cons,List.length_cons]; lia
  ·rw [if_neg hk,List.length_cons,List.length_cons]; lia
theorem RelO.some_of {v:V}{o:Option Value} (r:RelO (some v) o):∃ u,o=some u∧RelV v u:=by
 cases o with
 | none=>exact (show False from r).elim
 | some u=>exact⟨u,rfl,r⟩
theorem RelO.none_of {o:Option Value} (r:RelO none o):o=none:=by
 cases o with
 | none=>rfl
 | some u=>exact (show False from r).elim
theorem handed_of {v:V}{u:Value} (r:RelV v u):PySem.W.handedIn u=true:=by
 cases v with
 | non=>cases (show u=Value.none from r); rfl
 | bl b=>cases (show u=Value.bool b from r); rfl
 | int i=>obtain⟨t,e⟩:=(show ∃ t,u=Value.int i t from r); cases e; rfl
 | str x=>obtain⟨t,e⟩:=(show ∃ t,u=Value.str x t from r); cases e; rfl
 | byt b=>obtain⟨t,e⟩:=(show ∃ t,u=Value.bytes b t from r); cases e; rfl
 | flt b=>obtain⟨t,e⟩:=(show ∃ t,u=Value.float b t from r); cases e; rfl
 | ref a=>cases (show u=Value.ref a from r); rfl
 | ty n=>cases (show u=Value.type n from r); rfl
section
variable {P:Program}{w:World}{H H':Hp}{h h':Heap}{a C dx:Addr}{fs fs':List (Str×V)}
theorem ins_get (hok:HOk P w H h) (e:H a=some (.ins C dx fs)):∃ mA,ObjM h a dx C mA∧(∀ f,RelO (fs.lookup f) (mA f))∧PySem.Within mA (fs.map (·.1))∧fs.length≤1000∧H dx=some (.own a):=by
 obtain⟨d,z,ne,ob,mA,n,r,q⟩:=(show ObjOk P w H h a (.ins C dx fs) from hok a _ e)
 exact⟨mA,⟨ob,n,ne⟩,r,q,z,d⟩
end
structure Cls (K:PySem.W.Frag) (C:Addr):Prop where
 pg:PySem.W.plainGet K C Str.empty=true
 hd:PySem.W.hasDictIn K C=true
 po:PySem.W.plainOver K C=true
 sa:PySem.W.findIn K (.ref C) "__setattr__"=some (some (.builtin "object.__setattr__"))
theorem Cls.get {K:PySem.W.Frag}{C:Addr} (c:Cls K C) (f:Str):PySem.W.plainGet K C f=true:=c.pg
def NoAttr (K:PySem.W.Frag) (C:Addr) (f:Str):Prop:=PySem.W.findIn K (.ref C) f=some none
theorem NoAttr.taker {K:PySem.W.Frag}{C:Addr}{f:Str} (n:NoAttr K C f):PySem.W.takerIn K C f=some none:=by
 unfold PySem.W.takerIn
 rw [show PySem.W.findIn K (.ref C) f=some none from n]
 rfl
structure Meth (K:PySem.W.Frag) (C:Addr) (m:Str) (f:Addr):Prop where
 at_:PySem.W.findIn K (.ref C) m=some (some (.ref f))
 fn:PySem.W.isFn K (.ref f)=true
 kp:PySem.W.keepIn K (.ref f)=true
section
variable {X:Cx}{pins:List (Addr×Obj)}{σ:St}{H:Hp}{s:Shared}{a C dx:Addr}{fs:List (Str×V)}{f:Str}{v:V}{A:Around}{E:Value→Shared→Prop}
theorem getattr_ok {b:Bool}{Q:Value→Shared→Prop} (I:Inv X pins σ H s) (e:H a=some (.ins C dx fs)) (c:Cls X.K C) (n:NoAttr X.K C f) (l:fs.lookup f=some v)
  (h:∀ u s',Inv X pins σ H s'→RelV v u→Q u s'):wpAny (model X.prog X.w) A (getAttr (.ref a) f b) Q E s:=by
 obtain⟨mA,O,r,_,_,_⟩:=ins_get I.hok e
 obtain⟨u,hu,ru⟩:=RelO.some_of (v:=v) (o:=mA f) (by rw [← l]; exact r f)
 exact get_map I.kIn O (c.get f) c.hd n hu (handed_of ru) (h u _ (I.tok _) ru)
theorem getmeth_ok {m:Str}{g:Addr}{pl:Sem Bool}{Q:Value×List Value→Shared→Prop} (I:Inv X pins σ H s) (e:H a=some (.ins C dx fs)) (c:Cls X.K C) (k:Meth X.K C m g) (l:fs.lookup m=none)
  (h:Q (.ref g,[.ref a]) s):wpAny (model X.prog X.w) A (getMethod (.ref a) m pl) Q E s:=by
 obtain⟨mA,O,r,_,_,_⟩:=ins_get I.hok e
 have hn:mA m=none:=RelO.none_of (by rw [← l]; exact r m)
 exact get_meth I.kIn O (c.get m) k.at_ k.fn hn h
theorem setattr_ok {y:V}{u:Value}{Q:Unit→Shared→Prop} (I:Inv X pins σ H s) (e:H a=some (.ins C dx fs)) (c:Cls X.K C) (n:NoAttr X.K C f) (hl:fs.length<1000) (ry:RelV y u)
  (h:∀ s',Inv X pins σ (upd H a (.ins C dx (putF f y fs))) s'→Q () s'):wpAny (model X.prog X.w) A (setAttr (.ref a) f u) Q E s:=by
 obtain⟨mA,O,r,wi,_,ho⟩:=ins_get I.hok e
 have hz:(fs.map (·.1)).length≤sizeLine:=by rw [List.length_map,sizeLine_eq]; lia
 refine set_map I.kIn O c.sa c.po n.taker c.hd wi hz fun h' O' sb=>h _ ?_
 have hd:∃ o,h'.get? dx=some o:=let ⟨o,_,_,e',_⟩:=O'.ns; ⟨o,e'⟩
 refine I.write (x:=a) (e:=dx) (by rw [e]; exact True.intro) (.inr ho) (fun b q hb z=>(sb.2 b hb).trans z) hd ?_
 refine⟨by rw [upd_ne O.ne]; exact ho,?_,O.ne,O'.obj,_,O'.ns,fun g=>?_,fun g hg=>?_⟩
 ·have:=length_putF f y fs; lia
 ·show RelO ((putF f y fs).lookup g) (if g=f then some u else mA g)
  rw [lookup_putF]
  by_cases q:g=f
  ·rw [if_pos q,if_pos q]; exact ry
  ·rw [if_neg q,if_neg q]; exact r g
 ·by_cases q:g=f
  ·rw [q]; exact (keys_putF f y fs).1
  ·refine (keys_putF f y fs).2 g (wi g fun z=>hg ?_)
   show (if g=f then some u else mA g)=none
   rw [if_neg q]; exact z
theorem Inv.made (I:Inv X pins σ H s):Inv X pins σ (upd (upd H s.heap.objs.size (.own (s.heap.objs.size+1))) (s.heap.objs.size+1) (.ins C s.heap.objs.size []))
  { s with heap:=(s.heap.push PySem.W.emptyDict).push (PySem.W.instObj C s.heap.objs.size) }:=by
 have e1:(s.heap.push PySem.W.emptyDict).get? s.heap.objs.size=some PySem.W.emptyDict:=Heap.get?_push_size s.heap rfl
 have e2:((s.heap.push PySem.W.emptyDict).push (PySem.W.instObj C s.heap.objs.size)).get? (s.heap.objs.size+1)=some (PySem.W.instObj C s.heap.objs.size):=by
  have:=Heap.get?_push_size (s.heap.push PySem.W.emptyDict) (o:=PySem.W.instObj C s.heap.objs.size) rfl
  rwa [Heap.size_push] at this
 have e3:(s.heap.push PySem.W.emptyDict).Ns s.heap.objs.size (fun _=>none):=⟨PySem.W.emptyDict,#[],_,e1,rfl,(fun e he=>absurd he (by simp)),fun _=>rfl⟩
 have I1:=I.laid (a:=s.heap.objs.size) (o:=.own (s.heap.objs.size+1)) (h':=s.heap.push PySem.W.emptyDict) (t':=s.toks) (fun b u q=>Heap.get?_push_of_some _ q) (Nat.le_refl _) ⟨_,e1⟩
 refine I1.laid (a:=s.heap.objs.size+1) (o:=.ins C s.heap.objs.size []) (t':=s.toks) (fun b u q=>Heap.get?_push_of_some _ q) (Nat.le_of_eq (Heap.size_push _ _)) ?_
 have ne:s.heap.objs.size≠s.heap.objs.size+1:=Nat.ne_of_lt (Nat.lt_succ_self _)
 refine⟨by rw [upd_ne ne,upd_same],Nat.zero_le _,ne,e2,fun _=>none,(Heap.Ns1.of_empty e3).at fun o q=>Heap.get?_push_of_some _ q,fun _=>True.intro,fun y hy=>absurd rfl hy⟩
theorem attr_of {prog:Program}{w:World}{env:Env}{e:Expr}{f:Str}{pos:Pos}{s:Shared}{Q:Value→Shared→Prop} (hb:attributeBase e f env (eval e env)=eval e env)
  (h:wpAny (model prog w) A (eval e env) (fun o s₁=>wpAny (model prog w) A (getAttr o f true) Q E s₁) E s):wpAny (model prog w) A (eval (.Attribute e f pos) env) Q E s :=
 Attribute_any_ h (by rw [arm_eval_Attribute,hb])
end
def tFld (K:PySem.W.Frag) (ta:TE) (f:Str):TE:=fun σ H Q=>ta σ H fun x H1=>∃ a C dx fs v,x=.ref a∧H1 a=some (.ins C dx fs)∧Cls K C∧NoAttr K C f∧fs.lookup f=some v∧Q v H1
def sFld (K:PySem.W.Frag) (ta tv:TE) (f:Str):TS:=fun D σ H=>tv σ H fun y H1=>ta σ H1 fun x H2=>∃ a C dx fs,x=.ref a∧H2 a=some (.ins C dx fs)∧Cls K C∧NoAttr K C f∧fs.length<1000 ∧
 D.nx σ (upd H2 a (.ins C dx (putF f y fs)))
section
variable {X:Cx}{o e value:Expr}{f:Str}{pos pos' tpos:Pos}{ta tv:TE}
theorem pe_fld (he:PE X e ta) (hb:attributeBase e f X.env (eval e X.env)=eval e X.env):PE X (.Attribute e f pos) (tFld X.K ta f):=by
 intro pins s σ H Q I h
 refine attr_of hb (thn (he pins s σ H _ I h) fun u s1 ⟨x,H1,I1,rx,a,C,dx,fs,v,ex,ea,c,n,l,q⟩=>?_)
 subst ex
 obtain rfl:u=Value.ref a:=rx
 exact getattr_ok I1 ea c n l fun u' s2 I2 ru=>⟨v,H1,I2,ru,q⟩
theorem ps_fld (ha:PE X o ta) (hv:PE X value tv) (hs:swapsWith value (some (.Attribute o f pos')) pos.line X.env=pure false):PS X (.Assign [.Attribute o f pos'] value pos) (sFld X.K ta tv f):=by
 intro pins s σ H D I h
 refine plainObj_wpAny_Assign_Attribute (thn (hv pins s σ H _ I h) fun u s1 ⟨y,H1,I1,ry,q⟩=>thn (ha pins s1 σ H1 _ I1 q) fun ov s2 ⟨x,H2,I2,rx,a,C,dx,fs,ex,ea,c,n,l,q2⟩=>?_) hs
 subst ex
 obtain rfl:ov=Value.ref a:=rx
 exact setattr_ok I2 ea c n l ry fun s3 I3=>⟨σ,_,I3,q2⟩
end
section
variable {X:Cx}{pins:List (Addr×Obj)}{σ:St}{H:Hp}{s:Shared}{A:Around}{E:Value→Shared→Prop}{Q:Value→Shared→Prop}{c:Value}{b:Bool}
inductive TyOf (K:PySem.W.Frag) (H:Hp):V→Value→Prop where
 | non:TyOf K H .non (.type "NoneType")
 | bl (x:Bool):TyOf K H (.bl x) (.type "bool")
 | int (i:Int):TyOf K H (.int i) (.type "int")
 | str (x:Str):TyOf K H (.str x) (.type "str")
 | flt (x:UInt64):TyOf K H (.flt x) (.type "float")
 | lst {a:Addr}{xs:List V} (e:H a=some (.lst xs)):TyOf K H (.ref a) (.type "list")
 | frz {a:Addr}{o:Obj}{xs:List V} (e:H a=some (.frz o (.lst xs))):TyOf K H (.ref a) (.type "list")
 | tup {a:Addr}{xs:List V} (e:H a=some (.tup xs)):TyOf K H (.ref a) (.type "tuple")
 | dK {a:Addr}{kvs:List (Key×V)} (e:H a=some (.dK kvs)):TyOf K H (.ref a) (.type "dict")
 | dT {a:Addr}{kvs:List (List Key×V)} (e:H a=some (.dT kvs)):TyOf K H (.ref a) (.type "dict")
 | ins {a C dx:Addr}{fs:List (Str×V)} (e:H a=some (.ins C dx fs)) (cl:Cls K C) (ha:PySem.W.findIn K (.ref C) "__class__"=some (some (.builtin "object.__class__")))
   (hn:PySem.W.specialIn K (.builtin "object.__class__") "__get__"=some (some (.builtin "getset_descriptor.__get__"))) (htk:PySem.W.takesIn K (.builtin "object.__class__")=some true)
   (hm:PySem.W.mroIn K C (.type "object")=some true):TyOf K H (.ref a) (.ref C)
theorem isinst_ok {x:V}{u t:Value} (I:Inv X pins σ H s) (rx:RelV x u) (ty:TyOf X.K H x t) (e:PySem.W.kitOne X.K t c=some b) (h:∀ tk,Q (.bool b) { s with toks:=tk }) :
  wpAny (model X.prog X.w) A (call (.builtin "isinstance") [u,c]) Q E s:=by
 cases ty with
 | non=>cases (show u=Value.none from rx); exact PySem.W.kia_one PySem.W.kitx_none I.kIn True.intro e (fun z=>nomatch z) h
 | bl y=>cases (show u=Value.bool y from rx); exact PySem.W.kia_one PySem.W.kitx_bool I.kIn True.intro e (fun z=>nomatch z) h
 | int i=>obtain⟨t,q⟩:=(show ∃ t,u=Value.int i t from rx); cases q; exact PySem.W.kia_one PySem.W.kitx_int I.kIn True.intro e (fun z=>nomatch z) h
 | str y=>obtain⟨t,q⟩:=(show ∃ t,u=Value.str y t from rx); cases q; exact PySem.W.kia_one PySem.W.kitx_str I.kIn True.intro e (fun z=>nomatch z) h
 | flt y=>obtain⟨t,q⟩:=(show ∃ t,u=Value.float y t from rx); cases q; exact PySem.W.kia_one PySem.W.kitx_float I.kIn True.intro e (fun z=>nomatch z) h
 | @lst a xs ea =>
  cases (show u=Value.ref a from rx)
  obtain⟨_,_,n,_,h1⟩:=(show ObjOk X.prog X.w H s.heap a (.lst xs) from I.hok a _ ea)
  exact PySem.W.kia_one PySem.W.kitx_list I.kIn ⟨_,h1,rfl⟩ e (fun z=>nomatch z) h
 | @frz a ob xs ea =>
  cases (show u=Value.ref a from rx)
  obtain⟨_,_,_,n,_,h1⟩:=(show ObjOk X.prog X.w H s.heap a (.frz ob (.lst xs)) from I.hok a _ ea)
  exact PySem.W.kia_one PySem.W.kitx_list I.kIn ⟨_,h1,rfl⟩ e (fun z=>nomatch z) h
 | @tup a xs ea =>
  cases (show u=Value.ref a from rx)
  obtain⟨_,_,_,p⟩:=(show ObjOk X.prog X.w H s.heap a (.tup xs) from I.hok a _ ea)
  obtain⟨o,h1,h2,_⟩:=p
  exact PySem.W.kia_one PySem.W.kitx_tuple I.kIn ⟨o,h1,h2⟩ e (fun z=>nomatch z) h
 | @dK a kvs ea =>
  cases (show u=Value.ref a from rx)
  obtain⟨_,_,vs,_,p⟩:=(show ObjOk X.prog X.w H s.heap a (.dK kvs) from I.hok a _ ea)
  obtain⟨o,es,ep,h1,h2,_⟩:=p
  exact PySem.W.kia_one PySem.W.kitx_dict I.kIn ⟨o,h1,h2.1⟩ e (fun z=>nomatch z) h
 | @dT a kvs ea =>
  cases (show u=Value.ref a from rx)
  obtain⟨_,_,xs,_,o,es,ep,h1,h2,_⟩:=(show ObjOk X.prog X.w H s.heap a (.dT kvs) from I.hok a _ ea)
  exact PySem.W.kia_one PySem.W.kitx_dict I.kIn ⟨o,h1,h2.1⟩ e (fun z=>nomatch z) h
 | @ins a C dx fs ea cl ha hn htk hm =>
  cases (show u=Value.ref a from rx)
  obtain⟨mA,O,_⟩:=ins_get I.hok ea
  obtain⟨od,J,_⟩:=O.look
  exact PySem.W.kia_one (PySem.W.kitx_own (cl.get _) cl.hd ha hn htk hm) I.kIn J e (fun z=>nomatch z) h
end
end L2
namespace L2
open PySem PySem.Spec PyProof.Rows
structure Room (k:Nat) (A:Around):Prop where
 hd:A.handled=none
 dp:A.depth+k+5<recursionLimit
 un:A.units+16 * k+200<cLine
theorem Room.mono {j k:Nat}{A:Around} (r:Room k A) (h:j≤k):Room j A:=⟨r.hd,by have:=r.dp; lia,by have:=r.un; lia⟩
theorem Room.deeper {k:Nat}{A:Around} (r:Room (k+1) A) (env:Env):Room k (A.deeper env) :=
 ⟨r.hd,by have:=r.dp; show A.depth+1+k+5<_; lia,by have:=r.un; show A.units+3+16 * k+200<_; lia⟩
theorem make_depth {A:Around}{C:Addr}{us:List Value}{kw:List (Str×Value)}:(A.under (.builtin "type.__call__" ⟨.ref C::us,kw⟩)).depth=A.depth+1:=by
 first | rfl | simp [Around.under,Code.weight,Code.isCreation,Code.isGuard,Code.isCaller,Code.frames,Code.isFrame,guardIds]
theorem make_units {A:Around}{C:Addr}{us:List Value}{kw:List (Str×Value)}:(A.under (.builtin "type.__call__" ⟨.ref C::us,kw⟩)).units=A.units+1:=by
 first | rfl | simp [Around.under,Code.cUnits,Code.frames,Code.isFrame]
theorem Room.make {k:Nat}{A:Around} (r:Room (k+1) A) (C:Addr) (us:List Value) (kw:List (Str×Value)):Room k (A.under (.builtin "type.__call__" ⟨.ref C::us,kw⟩)) :=
 ⟨r.hd,by have:=r.dp; rw [make_depth]; lia,by have:=r.un; rw [make_units]; lia⟩
theorem Room.depth {k:Nat}{A:Around} (r:Room k A):A.depth<recursionLimit:=by have:=r.dp; lia
def tNil:TA:=fun _ H Q=>Q [] H
def tCons (ta:TE) (tr:TA):TA:=fun σ H Q=>ta σ H fun x H1=>tr σ H1 fun xs H2=>Q (x::xs) H2
section
variable {X:Cx}{e:Expr}{es:List Expr}{te:TE}{t:TA}{pos:Pos}
theorem pa_nil:PA X [] tNil:=fun _ _ _ _ H Q I h=>Calls.spliced_nil ⟨[],H,I,.nil,h⟩
theorem pa_cons (ha:PE X e te) (hr:PA X es t) (hs:starEach (e::es) X.env=(false,eval e X.env)::starEach es X.env:=by rfl):PA X (e::es) (tCons te t):=by
 intro pos pins s σ H Q I h
 rw [hs]
 show wpAny _ _ (spliced ((false,eval e X.env)::backTo pos (starEach es X.env))) _ _ s
 refine Calls.spliced_cons (thn (ha pins s σ H _ I h) fun u s1 ⟨x,H1,I1,r1,q1⟩=>?_)
 exact thn (hr pos pins s1 σ H1 _ I1 q1) fun us s2 ⟨xs,H2,I2,r2,q2⟩=>⟨x::xs,H2,I2,.cons r1 r2,q2⟩
def tTup (t:TA):TE:=fun σ H Q=>t σ H fun xs H1=>xs.length≤sizeLine∧∀ p,H1 p=none→Q (.ref p) (upd H1 p (.tup xs))
def tLst (t:TA):TE:=fun σ H Q=>t σ H fun xs H1=>xs.length≤sizeLine∧∀ p,H1 p=none→Q (.ref p) (upd H1 p (.lst xs))
theorem pe_tup {x1} (h:PA X es t):PE X (.Tuple es x1 pos) (tTup t):=by
 intro pins s σ H Q I hq
 refine wpAny_Tuple_spliced (thn (h pos pins s σ H _ I hq) fun us s1 ⟨xs,H1,I1,r,z,q⟩=>⟨by rw [← r.length]; exact z,?_⟩)
 have hf:H1 s1.heap.objs.size=none:=I1.hok.fresh (Nat.le_refl _)
 refine⟨.ref s1.heap.objs.size,upd H1 s1.heap.objs.size (.tup xs),I1.laid (t':=s1.toks) (fun b u e=>Heap.get?_push_of_some _ e) (Nat.le_refl _) ?_,rfl,q _ hf⟩
 exact⟨z,us,r,⟨_,Heap.get?_push_size _ rfl,rfl,_,rfl⟩⟩
theorem pe_lst (h:PA X es t):PE X (.List es pos) (tLst t):=by
 intro pins s σ H Q I hq
 refine wpAny_List_spliced (thn (h pos pins s σ H _ I hq) fun us s1 ⟨xs,H1,I1,r,z,q⟩=>⟨by rw [← r.length]; exact z,?_⟩)
 have hf:H1 s1.heap.objs.size=none:=I1.hok.fresh (Nat.le_refl _)
 refine⟨.ref s1.heap.objs.size,upd H1 s1.heap.objs.size (.lst xs),I1.laid (t':=s1.toks) (fun b u e=>Heap.get?_push_of_some _ e) (Nat.le_refl _) ?_,rfl,q _ hf⟩
 exact⟨z,us,0,r,Heap.get?_push_size _ rfl⟩
end
abbrev Sp:=List V→Hp→VK→XK→Prop
abbrev CXT:=List Env→Hp→Shared→XK→Value→Shared→Prop
structure Env0 (P:Program) (w:World) (K:PySem.W.Frag) (mg:Str→Option Value) (base:Heap) (A:Around) (outer:List Env) (s:Shared) (H:Hp):Prop where
 frames:A.frames=some outer
 mod:Mod K mg base
 bs:∀ b o,base.get? b=some o→s.heap.get? b=some o∧H b=none
 bsz:base.objs.size≤s.heap.objs.size
 funs:s.heap.FunFrames base outer
 frf:∀ b∈frs outer,H b=none
 hok:HOk P w H s.heap
 bare:AllBare s.gens
def CE (outer:List Env) (P:Program) (w:World) (H:Hp) (s:Shared) (Q:VK) (u:Value) (s':Shared):Prop :=
 ∃ v H',s'.os=s.os∧AllBare s'.gens∧Un (frs outer) [] H H' s.heap s'.heap∧HOk P w H' s'.heap∧RelV v u∧Q v H'
def CR (CX:CXT) (outer:List Env) (P:Program) (w:World) (H:Hp) (s:Shared) (Q:VK) (E:XK) (r:Result) (s':Shared):Prop :=
 match r with
 | .ok (.ret u)=>CE outer P w H s Q u s'
 | .ok _=>False
 | .error e=>CX outer H s E e s'
structure FnOk (P:Program) (w:World) (K:PySem.W.Frag) (mg:Str→Option Value) (base:Heap) (CX:CXT) (k:Nat) (f:Addr) (fd:FuncData) (ps:List Str) (sp:Sp):Prop where
 len:∀ vs H Q E,sp vs H Q E→vs.length=ps.length
 run:∀ (A:Around) (outer:List Env) (s:Shared) (H:Hp) (args:Args) (us:List Value) (vs:List V) (Q:VK) (E:XK),Room k A→Env0 P w K mg base A outer s H→BindsTo s fd args (ps.zip us)→Vals vs us→sp vs H Q E →
  codeAny (model P w) A (.call (.ref f) args) (CR CX outer P w H s Q E) s
theorem FnOk.mono {P:Program}{w:World}{K:PySem.W.Frag}{mg:Str→Option Value}{base:Heap}{CX:CXT}{j k:Nat}{f:Addr}{fd:FuncData}{ps:List Str}{sp:Sp} (F:FnOk P w K mg base CX j f fd ps sp) (h:j≤k) :
  FnOk P w K mg base CX k f fd ps sp:=⟨F.len,fun A outer s H args us vs Q E hr=>F.run A outer s H args us vs Q E (hr.mono h)⟩
theorem Env0.make {P:Program}{w:World}{K:PySem.W.Frag}{mg:Str→Option Value}{base:Heap}{A:Around}{outer:List Env}{s:Shared}{H:Hp} (e:Env0 P w K mg base A outer s H) (C:Addr) (us:List Value) (kw:List (Str×Value)) :
  Env0 P w K mg base (A.under (.builtin "type.__call__" ⟨.ref C::us,kw⟩)) outer s H:=⟨by first | exact e.frames | (simpa [Around.under,Code.envs,Code.isFrame,pushEnvs] using e.frames),e.mod,e.bs,e.bsz,e.funs,e.frf,e.hok,e.bare⟩
section
variable {X:Cx}{pins:List (Addr×Obj)}{σ:St}{H:Hp}{s s':Shared}
theorem Inv.env0 (I:Inv X pins σ H s):Env0 X.prog X.w X.K X.mg X.base X.A X.stack s H :=
 ⟨I.ok.frames,I.ok.mod,I.bs,Nat.le_trans I.ok.bsz I.sz,I.stack,I.stkFree,I.hok,I.bare⟩
theorem Inv.after {Q:VK}{u:Value} (I:Inv X pins σ H s) (h:CE X.stack X.prog X.w H s Q u s'):EP X pins σ Q u s':=by
 obtain⟨v,H',os,bare,un,hok,r,q⟩:=h
 obtain⟨hh,g,d,t,os'⟩:=s'
 obtain rfl:os'=s.os:=os
 exact⟨v,H',I.call (h':=hh) (g':=g) (d':=d) (t':=t) (ch:=[]) un hok bare (fun b z=>absurd z (by simp)),r,q⟩
end
def tCall (sp:Sp) (dvs:List V) (E:XK) (t:TA):TE:=fun σ H Q=>t σ H fun vs H1=>sp (vs++dvs) H1 Q E
def tMeth (C:Addr) (m:Str) (sp:Sp) (dvs:List V) (E:XK) (ta:TE) (t:TA):TE:=fun σ H Q=>ta σ H fun x H1=>∃ a dx fs,x=.ref a∧H1 a=some (.ins C dx fs)∧fs.lookup m=none ∧
 t σ H1 fun vs H2=>sp (x::(vs++dvs)) H2 Q E
def tMake (C:Addr) (sp:Sp) (dvs:List V) (E:XK) (t:TA):TE:=fun σ H Q=>t σ H fun vs H1=>∀ x dx,H1 x=none→H1 dx=none→dx≠x →
 sp (.ref x::(vs++dvs)) (upd (upd H1 dx (.own x)) x (.ins C dx [])) (fun v H2=>v=.non∧Q (.ref x) H2) E
def Binds (K:PySem.W.Frag) (fd:FuncData) (ps:List Str) (ds:List Value):Prop :=
 ∀ (s:Shared) (us:List Value),K.In s.heap→(us++ds).length=ps.length→BindsTo s fd ⟨us,[]⟩ (ps.zip (us++ds))
theorem Binds.all {K:PySem.W.Frag}{fd:FuncData}{ps:List Str} (h:∀ us:List Value,us.length=ps.length→bindArgs fd ⟨us,[]⟩=pure (ps.zip us)):Binds K fd ps []:=fun s us _ hl=>by
 rw [List.append_nil] at hl ⊢
 exact .of_eq (h us hl)
def Passes (CX:CXT) (X:Cx) (E:XK):Prop:=∀ (pins:List (Addr×Obj)) (σ:St) (H:Hp) (s:Shared) (e:Value) (s':Shared),Inv X pins σ H s→CX X.stack H s E e s'→X.xe e s'
section
variable {X:Cx}{CX:CXT}{k:Nat}{f C:Addr}{fd:FuncData}{ps:List Str}{sp:Sp}{dvs:List V}{ds:List Value}{E:XK}{x m:Str}{p pos apos:Pos}{e o:Expr}{es:List Expr}{ta:TE}{t:TA}
theorem run_fn {pins:List (Addr×Obj)}{σ:St}{H:Hp}{s:Shared}{Q:VK}{us:List Value}{vs:List V} (F:FnOk X.prog X.w X.K X.mg X.base CX k f fd ps sp) (hr:Room k X.A) (hb:Binds X.K fd ps ds) (hd:Vals dvs ds) (hx:Passes CX X E)
  (I:Inv X pins σ H s) (r:Vals vs us) (h:sp (vs++dvs) H Q E):wpAny (model X.prog X.w) X.A (call (.ref f) us) (EP X pins σ Q) X.xe s:=by
 have r2:Vals (vs++dvs) (us++ds):=r.append hd
 have hl:(us++ds).length=ps.length:=by rw [← r2.length]; exact F.len _ _ _ _ h
 refine wpAny_call (codeAny_mono (F.run X.A X.stack s H ⟨us,[]⟩ (us++ds) (vs++dvs) Q E hr I.env0 (hb s us I.kIn hl) r2 h) fun r s' hq=>?_)
 cases r with
 | error e=>exact hx pins σ H s e s' I hq
 | ok fl =>
  cases fl with
  | ret u=>exact I.after hq
  | next=>exact False.elim hq
  | brk=>exact False.elim hq
  | cont=>exact False.elim hq
theorem pe_call (F:FnOk X.prog X.w X.K X.mg X.base CX k f fd ps sp) (hr:Room k X.A) (hg:Gl X x) (hm:X.mg x=some (.ref f)) (hk:PySem.W.keepIn X.K (.ref f)=true) (hb:Binds X.K fd ps ds) (hd:Vals dvs ds) (hx:Passes CX X E)
  (ha:PA X (e::es) t) (hdb:(x == ("__debug__":Str))=false:=by decide) (he:starEach (e::es) X.env=(false,eval e X.env)::starEach es X.env:=by rfl) (hpl:(backTo pos (starEach es X.env)).any (·.1)=false:=by rfl) :
  PE X (.Call (.Name x p) (e::es) [] pos) (tCall sp dvs E t):=by
 intro pins s σ H Q I h
 refine wpAny_Call_Name_kw (ld_glob I hg hm ?_ hdb)
 refine PySem.W.callWith_K (h₀:=X.base) I.ok.mod.kin hk (thn (ha pos pins s σ H _ I h) fun us s1 ⟨vs,H1,I1,r,q⟩=>⟨I1.kIn,?_⟩) he hpl
 exact run_fn F hr hb hd hx I1 r q
theorem pe_meth {pl:Sem Bool} (he:PE X o ta) (c:Cls X.K C) (hm:Meth X.K C m f) (F:FnOk X.prog X.w X.K X.mg X.base CX k f fd ps sp) (hr:Room k X.A) (hb:Binds X.K fd ps ds) (hd:Vals dvs ds) (hx:Passes CX X E) (ha:PA X (e::es) t)
  (hst:starEach (e::es) X.env=(false,eval e X.env)::starEach es X.env:=by rfl) (hpl:(backTo pos (starEach es X.env)).any (·.1)=false:=by rfl)
  (ht:eval (.Call (.Attribute o m apos) (e::es) [] pos) X.env=(do
   let ov ← eval o X.env
   standAt apos.atName
   let (f,first) ← holding [ov] (getMethod ov m pl)
   callWith pos f first (backTo pos (starEach (e::es) X.env)) (backToKw pos (keywordEach [] X.env))):=by rfl) :
  PE X (.Call (.Attribute o m apos) (e::es) [] pos) (tMeth C m sp dvs E ta t):=by
 intro pins s σ H Q I h
 refine PySem.W.methodCall_KW (pl:=pl) (thn (he pins s σ H _ I h) fun u s1 ⟨x,H1,I1,rx,a,dx,fs,ex,ea,l,q⟩=>?_) ht
 subst ex
 obtain rfl:u=Value.ref a:=rx
 refine getmeth_ok I1 ea c hm l ?_
 refine PySem.W.callWith_K (first:=[.ref a]) (h₀:=X.base) I.ok.mod.kin hm.kp (thn (ha pos pins s1 σ H1 _ I1 q) fun us s2 ⟨vs,H2,I2,r,q2⟩=>⟨I2.kIn,?_⟩) hst hpl
 exact run_fn (us:=.ref a::us) (vs:=.ref a::vs) F hr hb hd hx I2 (.cons rfl r) q2
theorem pe_meth0 {pl:Sem Bool} (he:PE X o ta) (c:Cls X.K C) (hm:Meth X.K C m f) (F:FnOk X.prog X.w X.K X.mg X.base CX k f fd ps sp) (hr:Room k X.A) (hb:Binds X.K fd ps ds) (hd:Vals dvs ds) (hx:Passes CX X E)
  (ht:eval (.Call (.Attribute o m apos) [] [] pos) X.env=(do
   let ov ← eval o X.env
   standAt apos.atName
   let (f,first) ← holding [ov] (getMethod ov m pl)
   callWith pos f first (backTo pos (starEach [] X.env)) (backToKw pos (keywordEach [] X.env))):=by rfl) :
  PE X (.Call (.Attribute o m apos) [] [] pos) (tMeth C m sp dvs E ta tNil):=by
 intro pins s σ H Q I h
 refine PySem.W.methodCall_KW (pl:=pl) (thn (he pins s σ H _ I h) fun u s1 ⟨x,H1,I1,rx,a,dx,fs,ex,ea,l,q⟩=>?_) ht
 subst ex
 obtain rfl:u=Value.ref a:=rx
 refine getmeth_ok I1 ea c hm l ?_
 exact PySem.W.callWith_K0 (first:=[.ref a]) I1.kIn hm.kp (run_fn (us:=[.ref a]) (vs:=[.ref a]) F hr hb hd hx I1 (.cons rfl .nil) q)
structure Mk (K:PySem.W.Frag) (C f:Addr):Prop where
 makes:PySem.W.makesIn K C=true
 init:PySem.W.findIn K (.ref C) "__init__"=some (some (.ref f))
 fn:PySem.W.isFn K (.ref f)=true
 kp:PySem.W.keepIn K (.ref C)=true
theorem run_make {pins:List (Addr×Obj)}{σ:St}{H:Hp}{s:Shared}{Q:VK}{us:List Value}{vs:List V} (M:Mk X.K C f) (F:FnOk X.prog X.w X.K X.mg X.base CX k f fd ps sp) (hr:Room (k+1) X.A) (hb:Binds X.K fd ps ds) (hd:Vals dvs ds)
  (hx:Passes CX X E) (I:Inv X pins σ H s) (r:Vals vs us)
  (h:∀ x dx,H x=none→H dx=none→dx≠x→sp (.ref x::(vs++dvs)) (upd (upd H dx (.own x)) x (.ins C dx [])) (fun v H2=>v=.non∧Q (.ref x) H2) E) :
  wpAny (model X.prog X.w) X.A (call (.ref C) us) (EP X pins σ Q) X.xe s:=by
 have hq:=h (s.heap.objs.size+1) s.heap.objs.size (I.hok.fresh (Nat.le_succ _)) (I.hok.fresh (Nat.le_refl _)) (Nat.ne_of_lt (Nat.lt_succ_self _))
 have I2:=Inv.made (C:=C) I
 have r2:Vals (V.ref (s.heap.objs.size+1)::(vs++dvs)) (Value.ref (s.heap.objs.size+1)::(us++ds)):=.cons rfl (r.append hd)
 have hl:(Value.ref (s.heap.objs.size+1)::us++ds).length=ps.length:=by
  have e:=r2.length
  rw [F.len _ _ _ _ hq] at e
  exact e.symm
 refine wpAny_call (make_map (f:=f) I.kIn M.makes M.init (beq_iff_eq.mp M.fn) (codeAny_mono (F.run _ X.stack _ _ ⟨Value.ref (s.heap.objs.size+1)::us,[]⟩ (Value.ref (s.heap.objs.size+1)::(us++ds)) _ _ E (hr.make C us [])
  (I2.env0.make C us []) (hb _ (Value.ref (s.heap.objs.size+1)::us) I2.kIn hl) r2 hq) fun r s' hq'=>?_))
 cases r with
 | error e=>exact hx pins σ _ _ e s' I2 hq'
 | ok fl =>
  cases fl with
  | ret u =>
   obtain⟨v,H',I3,rv,ev,q3⟩:=I2.after hq'
   subst ev
   exact⟨rv,⟨V.ref (s.heap.objs.size+1),H',I3,rfl,q3⟩⟩
  | next=>exact False.elim hq'
  | brk=>exact False.elim hq'
  | cont=>exact False.elim hq'
theorem pe_make0 (M:Mk X.K C f) (F:FnOk X.prog X.w X.K X.mg X.base CX k f fd ps sp) (hr:Room (k+1) X.A) (hg:Gl X x) (hm:X.mg x=some (.ref C)) (hb:Binds X.K fd ps ds) (hd:Vals dvs ds) (hx:Passes CX X E)
  (hdb:(x == ("__debug__":Str))=false:=by decide):PE X (.Call (.Name x p) [] [] pos) (tMake C sp dvs E tNil):=by
 intro pins s σ H Q I h
 refine wpAny_Call_Name_kw (ld_glob I hg hm ?_ hdb)
 exact PySem.W.callWith_K0 I.kIn M.kp (run_make (us:=[]) M F hr hb hd hx I .nil h)
end
section
variable {X:Cx}{CX:CXT}{k:Nat}{f C:Addr}{fd:FuncData}{ps ks:List Str}{sp:Sp}{E:XK}{x m:Str}{p pos apos kpos:Pos}{e o:Expr}{es:List Expr}{kws:List Keyword}{te ta:TE}{t tk:TA}{nm:Option Str}
variable {g:List Value→List Value→List Value}{gV:List V→List V→List V}
end
structure FnScope (N P:List Str) (sc:Scope):Prop where
 kind:sc.kind=.function
 co:sc.isCoroutine=false
 gen:sc.isGenerator=false
 nd:N.Nodup
 pre:N.take P.length=P
 par:∀ x∈P,sc.names.lookup x=some .local∨sc.names.lookup x=some .cell
 nofree:∀ y∈sc.names,y.2≠.free
theorem bindL_out {kindOf:Str→Option NameKind}{x:Str}:∀ {binds:List (Str×Value)}{m:Str→Option Value},(∀ v,(x,v) ∉ binds)→bindL kindOf binds m x=m x
 | [],_,_=>rfl
 | (n,v)::r,m,h=>by
  unfold bindL
  rw [bindL_out fun w hw=>h w (List.mem_cons_of_mem _ hw)]
  split
  ·have:x≠n:=by rintro rfl; exact h v List.mem_cons_self
   simp [this]
  ·rfl
theorem bindC_out {kindOf:Str→Option NameKind}{x:Str}:∀ {binds:List (Str×Value)}{m:Str→Option Value},(∀ v,(x,v) ∉ binds)→bindC kindOf binds m x=m x
 | [],_,_=>rfl
 | (n,v)::r,m,h=>by
  unfold bindC
  rw [bindC_out fun w hw=>h w (List.mem_cons_of_mem _ hw)]
  split
  ·rfl
  ·have:x≠n:=by rintro rfl; exact h v List.mem_cons_self
   simp [this]
theorem bindL_get {kindOf:Str→Option NameKind}{x:Str}{v:Value}:∀ {P:List Str}{vs:List Value}{i:Nat}{m:Str→Option Value},P.Nodup→P[i]?=some x→vs[i]?=some v→kindOf x=some .local →
  bindL kindOf (P.zip vs) m x=some v
 | [],_,_,_,_,h,_,_=>by simp at h
 | _::_,[],_,_,_,_,h,_=>by simp at h
 | p::P,w::vs,0,m,nd,h1,h2,hk=>by
  simp at h1 h2; subst h1; subst h2
  show bindL kindOf ((p,w)::P.zip vs) m p=_
  unfold bindL
  rw [bindL_out fun v hv=>(List.nodup_cons.mp nd).1 (List.of_mem_zip hv).1,if_pos hk]
  simp
 | p::P,w::vs,i+1,m,nd,h1,h2,hk=>by
  show bindL kindOf ((p,w)::P.zip vs) m x=_
  unfold bindL
  exact bindL_get (i:=i) (List.nodup_cons.mp nd).2 (by simpa using h1) (by simpa using h2) hk
theorem bindC_get {kindOf:Str→Option NameKind}{x:Str}{v:Value}:∀ {P:List Str}{vs:List Value}{i:Nat}{m:Str→Option Value},P.Nodup→P[i]?=some x→vs[i]?=some v→kindOf x≠some .local →
  bindC kindOf (P.zip vs) m x=some v
 | [],_,_,_,_,h,_,_=>by simp at h
 | _::_,[],_,_,_,_,h,_=>by simp at h
 | p::P,w::vs,0,m,nd,h1,h2,hk=>by
  simp at h1 h2; subst h1; subst h2
  show bindC kindOf ((p,w)::P.zip vs) m p=_
  unfold bindC
  rw [bindC_out fun v hv=>(List.nodup_cons.mp nd).1 (List.of_mem_zip hv).1,if_neg hk]
  simp
 | p::P,w::vs,i+1,m,nd,h1,h2,hk=>by
  show bindC kindOf ((p,w)::P.zip vs) m x=_
  unfold bindC
  exact bindC_get (i:=i) (List.nodup_cons.mp nd).2 (by simpa using h1) (by simpa using h2) hk
def start (N:List Str) (vs:List V):St:=vs.map some++List.replicate (N.length - vs.length) none
def cxOf (CX:CXT) (P:Program) (w:World) (K:PySem.W.Frag) (mg:Str→Option Value) (base:Heap) (N:List Str) (qual:Str) (scope:Scope) (f:Addr) (cd:Value) (A:Around) (outer:List Env) (s:Shared) (H:Hp) (E:XK):Cx where
 prog:=P
 w:=w
 K:=K
 mg:=mg
 base:=base
 A:=A.deeper (envOfC qual scope s.heap.objs.size f cd)
 N:=N
 s₀:=s
 H₀:=H
 env:=envOfC qual scope s.heap.objs.size f cd
 outer:=outer
 stack:=envOfC qual scope s.heap.objs.size f cd::outer
 ex:=[]
 calm:=true
 fn:=fun _=>true
 pn:=[]
 xe:=fun e s'=>wpAny (model P w) (A.deeper (envOfC qual scope s.heap.objs.size f cd)) (leaving (envOfC qual scope s.heap.objs.size f cd) e) (fun _ s''=>CX outer H s E e s'') (fun e' s''=>CX outer H s E e' s'') s'
theorem cell_has {sc:Scope}{n:Nat}{x:Str} (h:sc.names.lookup x=some .cell):∃ c,(cellsFrom n sc.names []).lookup x=some c:=by
 have q:=PySem.W.cellsFrom_some sc.names n [] (.inl h)
 exact Option.isSome_iff_exists.mp q
theorem inv_start {CX:CXT}{P:Program}{w:World}{K:PySem.W.Frag}{mg:Str→Option Value}{base:Heap}{N ps:List Str}{qual:Str}{scope:Scope}{f:Addr}{cd:Value}{A:Around}{outer:List Env}{s s1:Shared}{H:Hp}{E:XK}{us:List Value}{vs:List V}
  (S:FnScope N ps scope) (hd:A.handled=none) (e0:Env0 P w K mg base A outer s H) (hl:vs.length=ps.length) (r:Vals vs us)
  (x:InCallC s s.heap.objs.size (bindL (envOfC qual scope s.heap.objs.size f cd).kindOf (ps.zip us) fun _=>none) (cellsFrom (s.heap.objs.size+1) scope.names []) (bindC (envOfC qual scope s.heap.objs.size f cd).kindOf (ps.zip us) fun _=>none) s1) :
  Inv (cxOf CX P w K mg base N qual scope f cd A outer s H E) [] (start N vs) H s1:=by
 have hpl:ps.length≤N.length:=by have:=congrArg List.length S.pre; rw [List.length_take] at this; lia
 obtain⟨h1,tk,rfl,hk⟩:=x.done
 have noA:∀ b:Addr,b ∉ (cxOf CX P w K mg base N qual scope f cd A outer s H E).ex:=fun b z=>absurd (show b∈([]:List Addr) from z) (by simp)
 refine⟨⟨e0.mod,S.kind,rfl,rfl,Nat.le_refl _,fun y z c h1 h2=>?_,fun y hy=>?_,fun y c _ h=>?_,fun _=>hd,Around.frames_deeper e0.frames,.inr ⟨rfl,rfl⟩,fun b z=>absurd z (noA b),e0.bs,e0.bsz,fun b _ _=>noA b,fun b z=>absurd z (noA b),e0.funs,e0.frf⟩,
  rfl,e0.bare,Un.kept hk,⟨_,x.toInCall.ns,fun i y v h1 h2 h3=>?_⟩,fun y c h=>⟨_,x.cell y c h⟩,e0.hok.fresh (Nat.le_refl _),fun y c h=>?_,fun p hp=>absurd (show p∈([]:List (Addr×Obj)) from hp) (by simp),e0.hok.kept hk,?_⟩
 ·exact name_of_addr x.apart (PySem.mem_of_lookup h1) (PySem.mem_of_lookup h2)
 ·have hy:scope.names.lookup y=some .cell∨scope.names.lookup y=some .free:=hy
  rcases hy with hy | hy
  ·exact cell_has hy
  ·exact absurd rfl (S.nofree _ (PySem.mem_of_lookup hy))
 ·exact Nat.le_of_lt (x.above y c (PySem.mem_of_lookup h))
 ·have hi:i<vs.length:=by
   unfold start at h2
   by_cases hi:i<vs.length
   ·exact hi
   ·rw [List.getElem?_append_right (by simpa using hi)] at h2
    rw [List.getElem?_replicate] at h2
    split at h2 <;> cases h2
  have ha:vs[i]?=some v:=by
   unfold start at h2
   rw [List.getElem?_append_left (by simpa using hi),List.getElem?_map] at h2
   cases e:vs[i]? with
   | none=>rw [e] at h2; cases h2
   | some a=>rw [e] at h2; cases h2; rfl
  obtain⟨u,hu,rv⟩:=r.get ha
  have hp:ps[i]?=some y:=by
   rw [← S.pre,List.getElem?_take_of_lt (by lia)]; exact h1
  have ndP:ps.Nodup:=by rw [← S.pre]; exact S.nd.sublist (List.take_sublist _ _)
  refine⟨u,rv,?_⟩
  rcases S.par y (List.mem_of_getElem? hp) with k | k
  ·exact .inl ⟨k,bindL_get ndP hp hu k⟩
  ·obtain⟨c,e⟩:=cell_has (n:=s.heap.objs.size+1) k
   refine .inr ⟨.inl k,c,e,?_⟩
   have q:=x.cell y c e
   rw [bindC_get ndP hp hu (by show scope.names.lookup y≠_; rw [k]; decide)] at q
   exact q
 ·exact e0.hok.fresh (Nat.le_of_lt (x.above y c (PySem.mem_of_lookup h)))
 ·unfold start
  show _=N.length
  rw [List.length_append,List.length_map,List.length_replicate]
  lia
theorem fn_of {CX:CXT}{P:Program}{w:World}{K:PySem.W.Frag}{mg:Str→Option Value}{base:Heap}{k:Nat}{f:Addr}{name qual:Str}{params:Arguments}{body:List Stmt}{scope:Scope}{dV kV doc pm cdv ct oc:Value}{an od:Option Addr}
  {osl:Array (Option Value)}{N ps:List Str}{sp:Sp} (lk:K.lookup f=some ⟨oc,od,.func (PySem.W.fnOf name qual params body scope dV kV doc pm an cdv ct),osl⟩) (hcd:PySem.W.codeIn K cdv qual=true) (S:FnScope N ps scope)
  (len:∀ vs H Q E,sp vs H Q E→vs.length=ps.length)
  (hbody:∀ (A:Around) (outer:List Env) (s:Shared) (H:Hp) (vs:List V) (Q:VK) (E:XK),Room k (A.deeper (envOfC qual scope s.heap.objs.size f cdv))→sp vs H Q E →
   ∃ t,PSs (cxOf CX P w K mg base N qual scope f cdv A outer s H E) body t∧t { nx:=fun _ H'=>Q .non H',rt:=Q } (start N vs) H) :
  FnOk P w K mg base CX (k+1) f (PySem.W.fnOf name qual params body scope dV kV doc pm an cdv ct) ps sp:=by
 refine⟨len,fun A outer s H args us vs Q E hr e0 hb r hsp=>?_⟩
 have hl:=len _ _ _ _ hsp
 have KX:K.In s.heap:=e0.mod.kin.keeps fun b o e=>(e0.bs b o e).1
 have lim:s.heap.NoLimit:=e0.mod.nolimit.keeps fun b o e=>(e0.bs b o e).1
 have hkind:∀ y∈ps.zip us,scope.names.lookup y.1=some .local∨(scope.names.lookup y.1=some .cell∧((cellsFrom (s.heap.objs.size+1) scope.names []).lookup y.1).isSome=true):=fun ⟨n,v⟩ hy=>by
  rcases S.par n (List.of_mem_zip hy).1 with q | q
  ·exact .inl q
  ·exact .inr ⟨q,PySem.W.cellsFrom_some _ _ _ (.inl q)⟩
 refine codeAny_call_function hr.depth (KX _ _ lk) rfl S.co S.gen rfl (PySem.W.codeRec_of KX hcd) (hb _ _ _ _ ?_)
 refine wpAny_newFunctionEnv_cells S.kind hkind fun env he s1 x=>?_
 subst he
 refine⟨lim.keeps x.toInCall.keep,codeAny_func ?_⟩
 obtain⟨t,ht,hq⟩:=hbody A outer s H vs Q E (hr.deeper _) hsp
 have I:Inv (cxOf CX P w K mg base N qual scope f cdv A outer s H E) [] (start N vs) H s1:=inv_start S hr.hd e0 hl r x
 refine wpAny_mono (ht [] s1 (start N vs) H _ I hq) (fun fl s' hs=>?_) fun e s' hs=>hs
 have fin:∀ {σ':St}{H':Hp}{v:V}{u:Value},Inv (cxOf CX P w K mg base N qual scope f cdv A outer s H E) [] σ' H' s'→RelV v u→Q v H'→CE outer P w H s Q u s' :=
  fun {σ' H' v u} J rv q=>⟨v,H',J.os,J.bare,J.base,J.hok,rv,q⟩
 cases fl with
 | ret u =>
  obtain⟨v,σ',H',J,rv,q⟩:=hs
  exact fin J rv q
 | next =>
  obtain⟨σ',H',J,q⟩:=hs
  exact fin (v:=V.non) (u:=Value.none) J rfl q
 | brk =>
  obtain⟨_,_,_,q⟩:=hs
  exact False.elim q
 | cont =>
  obtain⟨_,_,_,q⟩:=hs
  exact False.elim q
end L2
namespace L2
open PySem PySem.Spec PyProof.Rows
section
variable {X:Cx}{x:Str}{p pos:Pos}{e:Expr}{es:List Expr}{t:TA}{id T:String}{r:List V→Hp→VK→Prop}
def tCB (r:List V→Hp→VK→Prop) (t:TA):TE:=fun σ H Q=>t σ H fun vs H1=>r vs H1 Q
theorem pe_callB (hc:CallR X (.builtin id) r) (hg:Gl X x) (hm:X.mg x=none) (hv:bootBuiltins x=some (.builtin id)) (ha:PA X (e::es) t) (hn:x≠"__name__":=by decide) (hdb:(x == ("__debug__":Str))=false:=by decide)
  (he:starEach (e::es) X.env=(false,eval e X.env)::starEach es X.env:=by rfl) (hpl:(backTo pos (starEach es X.env)).any (·.1)=false:=by rfl):PE X (.Call (.Name x p) (e::es) [] pos) (tCB r t):=by
 intro pins s σ H Q I h
 refine wpAny_Call_Name_kw (ld_blt I hg hm hv ?_ hn hdb)
 exact PyProof.Rows.callWith_builtin1 (thn (ha pos pins s σ H _ I h) fun us s1 ⟨vs,H1,I1,r1,q1⟩=>hc pins s1 σ H1 vs us Q I1 r1 q1) he hpl
theorem pe_callTy (hc:CallR X (.type T) r) (hg:Gl X x) (hm:X.mg x=none) (hv:bootBuiltins x=some (.type T)) (ha:PA X (e::es) t) (hn:x≠"__name__":=by decide) (hdb:(x == ("__debug__":Str))=false:=by decide)
  (he:starEach (e::es) X.env=(false,eval e X.env)::starEach es X.env:=by rfl) (hpl:(backTo pos (starEach es X.env)).any (·.1)=false:=by rfl):PE X (.Call (.Name x p) (e::es) [] pos) (tCB r t):=by
 intro pins s σ H Q I h
 refine wpAny_Call_Name_kw (ld_blt I hg hm hv ?_ hn hdb)
 exact PyProof.Rows.callWith_type1 (thn (ha pos pins s σ H _ I h) fun us s1 ⟨vs,H1,I1,r1,q1⟩=>hc pins s1 σ H1 vs us Q I1 r1 q1) he hpl
end
end L2
namespace HT
open PySem PyProof.Rows
section
open PySem.SeqAt
open PySem.AutoSeq1 (wpAny_loadPart')
open PySem.MeetsSeq PySem.MeetsSeq2 PySem.MeetsSeq3
end
section
variable {prog:Program}{w:World}{A:Around}{E:Value→Shared→Prop}{s:Shared}
theorem cat_tup {t b:Addr}{vs ws:List Value}{Q:Value→Shared→Prop} (ht:IsTup s.heap t vs.toArray) (hb:IsTup s.heap b ws.toArray) (hv:vs≠[])
  (h1:ws=[]→Q (.ref t) s) (h2:ws≠[]→Q (.ref s.heap.objs.size) { s with heap:=s.heap.push { cls:=.type "tuple",data:=.seq (vs++ws).toArray } })
  (hsz:vs.length+ws.length≤sizeLine):wpAny (model prog w) A (binaryOp .Add (.ref t) (.ref b)) Q E s:=by
 obtain⟨⟨cls,dd,data,sl⟩,ho,hc,n,hd⟩:=id ht
 obtain⟨⟨cls2,dd2,data2,sl2⟩,ho2,hc2,n2,hd2⟩:=id hb
 simp only at hc hd hc2 hd2
 subst hc hd hc2 hd2
 have e:vs.toArray++ws.toArray=(vs++ws).toArray:=by simp
 by_cases hw:ws=[]
 ·exact concat_meets ⟨_,ho,rfl⟩ ⟨_,ho2,rfl⟩ noFill_tuple_add seq_tuple_add PySem.F.slot_tuple_add PySem.F.entry_tuple_add (PySem.F.args_tuple_add_2 _ _)
   (tuple_addW1 t b vs.toArray ws.toArray n n2 dd dd2 sl sl2 (by simpa using hv) (by simp [hw])) ⟨ho,ho2,h1 hw⟩
 ·refine concat_meets ⟨_,ho,rfl⟩ ⟨_,ho2,rfl⟩ noFill_tuple_add seq_tuple_add PySem.F.slot_tuple_add PySem.F.entry_tuple_add (PySem.F.args_tuple_add_2 _ _)
   (tuple_addW2 t b vs.toArray ws.toArray n n2 dd dd2 sl sl2 (by simpa using hv) (by simpa using hw) (by rw [List.size_toArray,List.size_toArray]; exact hsz)) ⟨ho,ho2,?_⟩
  rw [e]
  exact h2 hw
def sIx (n d:Nat):Option Int→Nat
 | none=>d
 | some v=>if v<0 then (v+(n:Int)).toNat else min v.toNat n
theorem sIx_none (n d:Nat):sIx n d none=d:=rfl
theorem sIx_nat (n d k:Nat):sIx n d (some (k:Int))=min k n:=by
 show (if (k:Int)<0 then ((k:Int)+(n:Int)).toNat else min (k:Int).toNat n)=min k n
 rw [if_neg (by lia),Int.toNat_natCast]
theorem sIx_le (n d:Nat) (hd:d≤n) (o:Option Int):sIx n d o≤n:=by
 cases o with
 | none=>exact hd
 | some v =>
  show (if v<0 then (v+(n:Int)).toNat else min v.toNat n)≤n
  by_cases hv:v<0
  ·rw [if_pos hv]; lia
  ·rw [if_neg hv]; exact Nat.min_le_right _ _
theorem clip_eq (v:Int) (n d:Nat):(if v<0 then max (v+(n:Int)) 0 else min v (n:Int))=((sIx n d (some v):Nat):Int):=by
 show (if v<0 then max (v+(n:Int)) 0 else min v (n:Int))=(((if v<0 then (v+(n:Int)).toNat else min v.toNat n):Nat):Int)
 by_cases hv:v<0
 ·simp only [if_pos hv]; lia
 ·simp only [if_neg hv]; lia
theorem adjust_gen (lo hi:Option Int) (n:Nat):Builtin.Slice.sliceAdjust lo hi 1 (n:Int)=(((sIx n 0 lo:Nat):Int),((sIx n n hi:Nat):Int)):=by
 have h1:¬ ((1:Int)<0):=by lia
 unfold Builtin.Slice.sliceAdjust
 simp only [h1,if_false]
 refine Prod.ext ?_ ?_
 ·cases lo with
  | none=>rfl
  | some v=>exact clip_eq v n 0
 ·cases hi with
  | none=>rfl
  | some v=>exact clip_eq v n n
theorem places_gen (i j:Nat):Builtin.Slice.slicePlaces (i:Int) (j:Int) 1=j - i:=by
 unfold Builtin.Slice.slicePlaces
 have h1:(1:Int) > 0:=by lia
 simp only [h1,if_true,Int.ediv_one]
 split <;> lia
theorem slicePart_ {v:Value}{o:Option Int}{Q:Option Int→Shared→Prop} (p:IsPart v o) (h:Q o s):wpAny (model prog w) A (Builtin.Slice.slicePartIndex v) Q E s:=by
 cases p with
 | none=>exact slicePart_none h
 | int i t=>exact slicePart_int h
theorem sliceApplied_gen {sl:Addr}{vl vu:Value}{lo hi:Option Int}{n:Nat}{Q:Int×Int×Nat→Shared→Prop} (hs:s.heap.IsSliceOf sl vl vu .none) (pl:IsPart vl lo) (pu:IsPart vu hi)
  (h:Q (((sIx n 0 lo:Nat):Int),1,sIx n n hi - sIx n 0 lo) s):wpAny (model prog w) A (Builtin.Slice.sliceApplied (.ref sl) (pure (n:Int))) Q E s:=by
 obtain⟨os,hos,hcs,hds⟩:=id hs
 unfold Builtin.Slice.sliceApplied Builtin.Slice.sliceFields
 refine wpAny_bind (wpAny_bind (wpAny_field hos hds (x:=vl) rfl (wpAny_bind (wpAny_field hos hds (x:=vu) rfl (wpAny_bind (wpAny_field hos hds (x:=.none) rfl (wpAny_pure ?_)))))))
 refine wpAny_bind (slicePart_none ?_)
 show wpAny _ _ (if ((1:Int) == 0)=true then _ else _) _ _ s
 rw [if_neg (by decide)]
 refine wpAny_bind (slicePart_ pl (wpAny_bind (slicePart_ pu (wpAny_bind (wpAny_pure ?_)))))
 show wpAny _ _ (match Builtin.Slice.sliceAdjust lo hi 1 (n:Int) with | (lo,hi)=>pure (lo,(1:Int),Builtin.Slice.slicePlaces lo hi 1)) _ _ s
 rw [adjust_gen lo hi n]
 show wpAny _ _ (pure (((sIx n 0 lo:Nat):Int),(1:Int),Builtin.Slice.slicePlaces ((sIx n 0 lo:Nat):Int) ((sIx n n hi:Nat):Int) 1)) _ _ s
 rw [places_gen]
 exact wpAny_pure h
theorem pick_gen (xs:Array Value) (i k:Nat):((List.range k).filterMap fun (m:Nat)=>xs[((i:Int)+(m:Int) * 1).toNat]?).toArray=((xs.toList.drop i).take k).toArray:=by
 have e:(fun (m:Nat)=>xs[((i:Int)+(m:Int) * 1).toNat]?)=fun m=>xs[i+m]?:=by
  funext m
  have:((i:Int)+(m:Int) * 1).toNat=i+m:=by lia
  rw [this]
 rw [e]
 have:=pick_run xs i k
 rw [List.filterMap_map] at this
 have e2:((fun x=>xs[x]?)∘fun x=>i+x)=fun m=>xs[i+m]?:=rfl
 rw [e2] at this
 rw [this]
theorem getItem_tuple_cut {t sl:Addr}{items:Array Value}{vl vu:Value}{lo hi:Option Int}{Q:Value→Shared→Prop} (ht:IsTup s.heap t items) (hs:s.heap.IsSliceOf sl vl vu .none) (pl:IsPart vl lo) (pu:IsPart vu hi)
  (hw:¬ (sIx items.size 0 lo=0∧sIx items.size items.size hi=items.size))
  (h:Q (.ref s.heap.objs.size) { s with heap:=s.heap.push { cls:=.type "tuple",data:=.seq ((items.toList.drop (sIx items.size 0 lo)).take (sIx items.size items.size hi - sIx items.size 0 lo)).toArray } })
  (hsz:items.size≤sizeLine):wpAny (model prog w) A (getItem (.ref t) (.ref sl)) Q E s:=by
 have htake:sizeOk (.seq ((items.toList.drop (sIx items.size 0 lo)).take (sIx items.size items.size hi - sIx items.size 0 lo)).toArray):=by
  show ((items.toList.drop (sIx items.size 0 lo)).take (sIx items.size items.size hi - sIx items.size 0 lo)).toArray.size≤sizeLine
  rw [List.size_toArray,List.length_take,List.length_drop,Array.length_toList]
  lia
 have hj:sIx items.size items.size hi≤items.size:=sIx_le _ _ (Nat.le_refl _) hi
 obtain⟨os,hos,hcs,hds⟩:=id hs
 have hTs:s.TypeIs (.ref sl) "slice":=⟨os,hos,hcs⟩
 unfold getItem
 try with_reducible refine wpAny_holding ?_
 first | refine wpAny_bind (wpAny_pure ?_) | skip
 refine wpAny_bind (wpAny_sequenceKey ht.typeIs (by decide) ?_)
 refine wpAny_bind (wpAny_callSpecial?_slot (name:=Str.ofString "__getitem__") ht.typeIs PyProof.Rows.slot_tuple_getitem
  (wpAny_call_entry PyProof.Rows.slot_tuple_getitem ht.typeIs entry_tuple_getitem ?_ (args_tuple_getitem _ _)))
 show wpAny _ _ (Builtin.Tuple.tupleItemsOf (.ref t) >>= _) _ _ s
 refine wpAny_bind (tupleItemsOf_ ht ?_)
 refine wpAny_bind (wpAny_typeOf hTs ?_)
 rw [if_pos (by decide)]
 refine wpAny_bind (sliceApplied_gen hs pl pu ?_)
 have hno:¬ ((((sIx items.size 0 lo:Nat):Int) == 0 && (1:Int) == 1 && (sIx items.size items.size hi - sIx items.size 0 lo) == items.size)=true):=by
  intro q
  rw [Bool.and_eq_true,Bool.and_eq_true] at q
  have q1:((sIx items.size 0 lo:Nat):Int)=0:=eq_of_beq q.1.1
  have q2:sIx items.size items.size hi - sIx items.size 0 lo=items.size:=eq_of_beq q.2
  exact hw ⟨by lia,by lia⟩
 show wpAny _ _ (if (((sIx items.size 0 lo:Nat):Int) == 0 && (1:Int) == 1 && (sIx items.size items.size hi - sIx items.size 0 lo) == items.size)=true then _ else _) _ _ s
 rw [if_neg hno,pick_gen]
 first
  | exact wpAny_bind (m:=Builtin.Tuple.tupleExact _) (wpAny_newObj_type (wpAny_pure ⟨_,rfl,wpAny_pure h⟩) htake)
  | exact wpAny_bind (m:=Builtin.Tuple.tupleExact _) (wpAny_newObj_type (wpAny_bind (wpAny_pure (wpAny_pure ⟨_,rfl,wpAny_pure h⟩))) htake)
  | exact wpAny_bind (wpAny_bind (m:=Builtin.Tuple.tupleExact _) (wpAny_newObj_type (wpAny_pure (wpAny_pure ⟨_,rfl,wpAny_pure h⟩)) htake))
  | exact wpAny_bind (wpAny_bind (m:=Builtin.Tuple.tupleExact _) (wpAny_newObj_type (wpAny_pure ⟨_,rfl,wpAny_pure h⟩) htake))
end
end HT
namespace L2
open PySem PySem.Spec PyProof.Rows
abbrev TO:=St→Hp→(Option Int→Hp→Prop)→Prop
def PO (X:Cx) (e:Option Expr) (t:TO):Prop :=
 ∀ (pins:List (Addr×Obj)) (s:Shared) (σ:St) (H:Hp) (Q:Option Int→Hp→Prop),Inv X pins σ H s→t σ H Q →
  wpAny (model X.prog X.w) X.A (evalPart e X.env) (fun u s'=>∃ o H',Inv X pins σ H' s'∧IsPart u o∧Q o H') X.xe s
def tNoPart:TO:=fun _ H Q=>Q none H
def tPart (t:TE):TO:=fun σ H Q=>t σ H fun x H1=>∃ i,x=.int i∧Q (some i) H1
theorem intsAre_of {ns:List Int}:∀ {us:List Value},Vals (ns.map V.int) us→IntsAre us ns:=by
 induction ns with
 | nil=>intro us r; rw [List.map_nil] at r; cases r; exact .nil
 | cons n ns ih =>
  intro us r
  rw [List.map_cons] at r
  cases r with
  | cons r1 r2 =>
   obtain⟨t,e⟩:=r1
   subst e
   exact .cons n t (ih r2)
section
variable {X:Cx}{e:Expr}{te:TE}{lo hi:Option Expr}{tl th:TO}{pos p2:Pos}
theorem po_none:PO X none tNoPart:=by
 intro pins s σ H Q I h
 rw [evalPart_none]
 exact wpAny_pure ⟨none,H,I,.none,h⟩
theorem po_some (h:PE X e te):PO X (some e) (tPart te):=by
 intro pins s σ H Q I hw
 rw [evalPart_some]
 refine thn (h pins s σ H _ I hw) fun u s1 ⟨x,H1,I1,r1,q1⟩=>?_
 obtain⟨i,rfl,q⟩:=q1
 obtain⟨t,rfl⟩:=r1
 exact⟨some i,H1,I1,.int i t,q⟩
def SlR (X:Cx) (r:V→Option Int→Option Int→Hp→VK→Prop):Prop :=
 ∀ (pins:List (Addr×Obj)) (s:Shared) (σ:St) (H:Hp) (x:V) (v vl vu:Value) (lo hi:Option Int) (sl:Addr) (Q:VK),Inv X pins σ H s→RelV x v→s.heap.IsSliceOf sl vl vu .none→IsPart vl lo→IsPart vu hi→r x lo hi H Q →
  ∃ T id,typeLookup (.type T) "__getitem__"=pure (some (.builtin id))∧s.TypeIs v T∧wpAny (model X.prog X.w) X.A (getItem v (.ref sl)) (EP X pins σ Q) X.xe s
def tSl (r:V→Option Int→Option Int→Hp→VK→Prop) (te:TE) (tl th:TO):TE:=fun σ H Q=>te σ H fun x H1=>tl σ H1 fun l H2=>th σ H2 fun u H3=>r x l u H3 Q
theorem pe_slice {r:V→Option Int→Option Int→Hp→VK→Prop} (hr:SlR X r) (he:PE X e te) (hl:PO X lo tl) (hu:PO X hi th):PE X (.Subscript e (.Slice lo hi none p2) pos) (tSl r te tl th):=by
 intro pins s σ H Q I h
 refine Subscript_ (thn (he pins s σ H _ I h) fun v s1 ⟨x,H1,I1,r1,q1⟩=>?_)
 refine wpAny_Slice (thn (hl pins s1 σ H1 _ I1 q1) fun vl s2 ⟨l,H2,I2,pl,q2⟩=>thn (hu pins s2 σ H2 _ I2 q2) fun vu s3 ⟨u,H3,I3,pu,q3⟩=>?_)
 rw [evalPart_none]
 refine wpAny_pure ?_
 have I4:Inv X pins σ H3 { s3 with heap:=s3.heap.push { cls:=.type "slice",data:=.fields #[vl,vu,.none] } }:=I3.kept (t':=s3.toks) fun b ob q=>Heap.get?_push_of_some _ q
 obtain⟨T,id,hT,ht,hg⟩:=hr pins { s3 with heap:=s3.heap.push { cls:=.type "slice",data:=.fields #[vl,vu,.none] } } σ H3 x v vl vu l u s3.heap.objs.size Q I4 r1 (Heap.IsSliceOf.new ..) pl pu q3
 show wpAny (model X.prog X.w) X.A (subscriptTail e (.Slice lo hi none p2) v (.ref s3.heap.objs.size)) (EP X pins σ Q) X.xe { s3 with heap:=s3.heap.push { cls:=.type "slice",data:=.fields #[vl,vu,.none] } }
 exact tail_any (ops:=[.ref s3.heap.objs.size,v]) ht hT hg (by with_unfolding_all rfl)
def cutV (xs:List V) (lo hi:Option Int):List V:=(xs.drop (HT.sIx xs.length 0 lo)).take (HT.sIx xs.length xs.length hi - HT.sIx xs.length 0 lo)
theorem cutV_length (xs:List V) (lo hi:Option Int):(cutV xs lo hi).length≤xs.length:=by
 unfold cutV
 rw [List.length_take,List.length_drop]
 lia
def rSlT (K:PySem.W.Frag):V→Option Int→Option Int→Hp→VK→Prop:=fun x lo hi H Q=>∃ a xs,x=.ref a∧SqT K H a xs ∧
 ¬ (HT.sIx xs.length 0 lo=0∧HT.sIx xs.length xs.length hi=xs.length)∧∀ p,H p=none→Q (.ref p) (upd H p (.tup (cutV xs lo hi)))
theorem sl_tup:SlR X (rSlT X.K):=by
 intro pins s σ H x v vl vu lo hi sl Q I rx hs pl pu h
 obtain⟨a,xs,rfl,hx,hw,q⟩:=h
 cases rx
 obtain⟨its,r,ht,hz⟩:=I.tuple hx
 have hlen:its.toArray.size=xs.length:=by rw [List.size_toArray]; exact r.length.symm
 refine⟨"tuple",_,PyProof.Rows.slot_tuple_getitem.lookup,ht.typeIs,?_⟩
 refine HT.getItem_tuple_cut ht hs pl pu (by rw [hlen]; exact hw) ?_ (by rw [hlen]; exact hz)
 rw [hlen]
 refine⟨.ref s.heap.objs.size,_,I.laid (t':=s.toks) (o:=.tup (cutV xs lo hi)) (fun b ob q=>Heap.get?_push_of_some _ q) (Nat.le_refl _) ?_,rfl,q _ (I.hok.fresh (Nat.le_refl _))⟩
 exact⟨Nat.le_trans (cutV_length xs lo hi) hz,_,(r.drop (HT.sIx xs.length 0 lo)).take (HT.sIx xs.length xs.length hi - HT.sIx xs.length 0 lo),IsTup.new _ _⟩
def rCatT (K:PySem.W.Frag):R2:=fun x y H Q=>∃ a b xs ys,x=.ref a∧y=.ref b∧SqT K H a xs∧SqT K H b ys∧xs≠[]∧xs.length+ys.length≤sizeLine ∧
 (ys=[]→Q (.ref a) H)∧(ys≠[]→∀ p,H p=none→Q (.ref p) (upd H p (.tup (xs++ys))))
theorem Vals.nil_iff {xs:List V}{us:List Value} (r:Vals xs us):us=[]↔xs=[]:=by
 cases r with
 | nil=>simp
 | cons _ _=>simp
theorem op_catT:OpR X (binaryOp .Add) (rCatT X.K):=by
 intro pins s σ H x y v u Q I rx ry h
 obtain⟨a,b,xs,ys,rfl,rfl,ha,hb,hx,hz,q1,q2⟩:=h
 cases rx
 cases ry
 obtain⟨its,r1,p1,_⟩:=I.tuple ha
 obtain⟨its2,r2,p2,_⟩:=I.tuple hb
 refine HT.cat_tup p1 p2 (fun z=>hx (r1.nil_iff.mp z)) (fun z=>⟨.ref a,H,I,rfl,q1 (r2.nil_iff.mp z)⟩) (fun z=>?_) (by rw [← r1.length,← r2.length]; exact hz)
 refine⟨.ref s.heap.objs.size,_,I.laid (t':=s.toks) (o:=.tup (xs++ys)) (fun b ob q=>Heap.get?_push_of_some _ q) (Nat.le_refl _) ?_,rfl,q2 (fun w=>z (r2.nil_iff.mpr w)) _ (I.hok.fresh (Nat.le_refl _))⟩
 exact⟨by rw [List.length_append]; exact hz,_,r1.append r2,IsTup.new _ _⟩
end
end L2
namespace L2
open PySem PySem.Spec PyProof.Rows
def ixN (n:Nat) (i:Int):Option Nat:=if 0≤i then (if i<n then some i.toNat else none) else if -(n:Int)≤i then some (i+n).toNat else none
def atI {α:Type} (xs:List α) (i:Int):Option α:=(ixN xs.length i).bind fun j=>xs[j]?
theorem ixN_seq {n:Nat}{i:Int}{j:Nat} (h:ixN n i=some j):seqIndex? i n=some j∧j<n∧-(n:Int)≤i∧i<n:=by
 unfold ixN at h
 by_cases h0:0≤i
 ·rw [if_pos h0] at h
  by_cases h1:i<n
  ·rw [if_pos h1] at h
   have e:i.toNat=j:=Option.some.inj h
   exact⟨by rw [seqIndex_of h0 h1,e],by lia,by lia,h1⟩
  ·rw [if_neg h1] at h; cases h
 ·rw [if_neg h0] at h
  by_cases h1:-(n:Int)≤i
  ·rw [if_pos h1] at h
   have e:(i+n).toNat=j:=Option.some.inj h
   exact⟨by rw [seqIndex_neg (by lia) h1,e],by lia,h1,by lia⟩
  ·rw [if_neg h1] at h; cases h
theorem atI_get {α:Type}{xs:List α}{i:Int}{v:α} (h:atI xs i=some v):∃ j,seqIndex? i xs.length=some j∧xs[j]?=some v∧j<xs.length∧-(xs.length:Int)≤i∧i<xs.length:=by
 unfold atI at h
 cases e:ixN xs.length i with
 | none=>rw [e] at h; cases h
 | some j =>
  rw [e] at h
  obtain⟨h1,h2,h3,h4⟩:=ixN_seq e
  exact⟨j,h1,h,h2,h3,h4⟩
theorem atI_nat {α:Type}{xs:List α}{j:Nat}{v:α} (h:xs[j]?=some v):atI xs (j:Int)=some v:=by
 have hj:j<xs.length:=(List.getElem?_eq_some_iff.mp h).1
 have e:ixN xs.length (j:Int)=some j:=by
  unfold ixN
  rw [if_pos (by lia),if_pos (by lia)]; simp
 unfold atI; rw [e]; exact h
def PlainIx (b:Expr):Prop:=∀ o i,subscripted b false o i=operate [o,i] (getItem o i)
def IxR (X:Cx) (r:R2):Prop :=
 ∀ (value slice:Expr) (pins:List (Addr×Obj)) (s:Shared) (σ:St) (H:Hp) (x y:V) (v u:Value) (Q:VK),Inv X pins σ H s→RelV x v→RelV y u→r x y H Q →
  subscripted slice false v u=operate [v,u] (getItem v u)→wpAny (model X.prog X.w) X.A (subscriptTail value slice v u) (EP X pins σ Q) X.xe s
def MtR (X:Cx) (id:String) (r:V→List V→Hp→VK→Prop):Prop :=
 ∀ (pins:List (Addr×Obj)) (s:Shared) (σ:St) (H:Hp) (x:V) (xs:List V) (v:Value) (us:List Value) (Q:VK),Inv X pins σ H s→RelV x v→Vals xs us→r x xs H Q →
  wpAny (model X.prog X.w) X.A (call (.builtin id) (v::us)) (EP X pins σ Q) X.xe s
section
variable {X:Cx}{a b:Expr}{ta tb:TE}{pos:Pos}
theorem pe_ix {r:R2} (hr:IxR X r) (ha:PE X a ta) (hb:PE X b tb) (hs:PlainIx b):PE X (.Subscript a b pos) (tOp r ta tb):=by
 intro pins s σ H Q I h
 exact Subscript_ (binT ha hb I h fun v u s2 x y H2 I2 rx ry q=>hr a b pins s2 σ H2 x y v u Q I2 rx ry q (hs _ _))
def rIxL (K:PySem.W.Frag):R2:=fun x y H Q=>∃ p xs i v,x=.ref p∧y=.int i∧SqL K H p xs∧atI xs i=some v∧Q v H
def rIxT (K:PySem.W.Frag):R2:=fun x y H Q=>∃ p xs i v,x=.ref p∧y=.int i∧SqT K H p xs∧atI xs i=some v∧Q v H
def rIxS:R2:=fun x y H Q=>∃ z i c,x=.str z∧y=.int i∧z.length≤sizeLine∧atI z.cps.toList i=some c∧Q (.str ⟨#[c]⟩) H
theorem ix_list:IxR X (rIxL X.K):=by
 intro value slice pins s σ H x y v u Q I rx ry h hs
 obtain⟨p,xs,i,z,rfl,rfl,hq,he,q⟩:=h
 cases rx
 obtain⟨t,rfl⟩:=ry
 obtain⟨its,r,pl,hz⟩:=I.list hq
 obtain⟨j,h1,h2,h3,h4,h5⟩:=atI_get he
 obtain⟨w,ew,rw'⟩:=r.get h2
 have hl:=r.length
 have hn:=line63
 have fin:EP X pins σ Q w s:=⟨z,H,I,rw',q⟩
 by_cases h0:0≤i
 ·have hj:i.toNat=j:=by
   rw [seqIndex_of h0 h5] at h1
   exact Option.some.inj h1
  exact item_listR pl.isList h0 (by lia) (by rw [hj]; simpa using ew) fin hs
 ·have hj:(i+(its.toArray.size:Int)).toNat=j:=by
   rw [seqIndex_neg (by lia) h4] at h1
   rw [List.size_toArray,← hl]
   exact Option.some.inj h1
  exact subscriptTail_builtinR (x:=w) pl.isList.typeIs slot_list_getitem.lookup
   (wpAny_getItem_list_neg (Q:=fun r s'=>r=w∧EP X pins σ Q r s') pl.isList (by lia) (by rw [List.size_toArray] <;> lia) (by lia) (by rw [hj]; simpa using ew) ⟨rfl,fin⟩) hs
theorem ix_tup:IxR X (rIxT X.K):=by
 intro value slice pins s σ H x y v u Q I rx ry h hs
 obtain⟨p,xs,i,z,rfl,rfl,hq,he,q⟩:=h
 cases rx
 obtain⟨t,rfl⟩:=ry
 obtain⟨its,r,pl,hz⟩:=I.tuple hq
 obtain⟨j,h1,h2,h3,h4,h5⟩:=atI_get he
 obtain⟨w,ew,rw'⟩:=r.get h2
 have hl:=r.length
 have hn:=line63
 have fin:EP X pins σ Q w s:=⟨z,H,I,rw',q⟩
 exact subscriptTail_builtinR (x:=w) pl.typeIs slot_tuple_getitem.lookup
  (getItem_tuple (j:=j) (Q:=fun r s'=>r=w∧EP X pins σ Q r s') pl (by lia) (by lia) (by rw [List.size_toArray,← hl]; exact h1) (by simpa using ew) ⟨rfl,fin⟩) hs
theorem ix_str:IxR X rIxS:=by
 intro value slice pins s σ H x y v u Q I rx ry h hs
 obtain⟨z,i,c,rfl,rfl,hz,he,q⟩:=h
 obtain⟨t,rfl⟩:=rx
 obtain⟨t',rfl⟩:=ry
 obtain⟨j,h1,h2,h3,h4,h5⟩:=atI_get he
 have hl:z.cps.toList.length=z.length:=by simp [Str.length]
 rw [hl] at h1 h4 h5
 have hn:=line63
 exact tail_any (typeIs_str s z t) slot_str_getitem.lookup (getItem_str (c:=c) (by
  have e1:decide (i < -(2 ^ 63:Int))=false:=decide_eq_false (by lia)
  have e2:decide (i ≥ 2 ^ 63)=false:=decide_eq_false (by lia)
  rw [e1,e2,Bool.or_false]) (by rw [h1]; simpa using h2) ⟨.str ⟨#[c]⟩,H,I.tok _,⟨_,rfl⟩,q⟩) hs
theorem slice_bounds (lo hi:Option Int) (n:Nat):(sliceBounds lo hi none n).1=((HT.sIx n 0 lo:Nat):Int)∧(sliceBounds lo hi none n).2.1=((HT.sIx n n hi:Nat):Int)∧(sliceBounds lo hi none n).2.2=1:=by
 refine⟨?_,?_,rfl⟩
 ·cases lo with
  | none=>simp [sliceBounds,HT.sIx]
  | some i =>
   simp only [sliceBounds,HT.sIx,Option.getD_none,show (1:Int) > 0 by decide,if_true]
   by_cases h:i<0
   ·simp only [h,if_true] <;> lia
   ·simp only [h,if_false] <;> lia
 ·cases hi with
  | none=>simp [sliceBounds,HT.sIx]
  | some i =>
   simp only [sliceBounds,HT.sIx,Option.getD_none,show (1:Int) > 0 by decide,if_true]
   by_cases h:i<0
   ·simp only [h,if_true] <;> lia
   ·simp only [h,if_false] <;> lia
theorem slicePick_cut (its:List Value) (lo hi:Option Int):slicePick its.toArray lo hi none=((its.drop (HT.sIx its.length 0 lo)).take (HT.sIx its.length its.length hi - HT.sIx its.length 0 lo)).toArray:=by
 obtain⟨h1,h2,h3⟩:=slice_bounds lo hi its.toArray.size
 unfold slicePick
 rw [h1,h2,h3]
 simp only [sliceRange_one,pick_run,List.size_toArray] <;> rfl
def rSlL (K:PySem.W.Frag):V→Option Int→Option Int→Hp→VK→Prop:=fun x lo hi H Q=>∃ a xs,x=.ref a∧SqL K H a xs∧∀ p,H p=none→Q (.ref p) (upd H p (.lst (cutV xs lo hi)))
theorem sl_list:SlR X (rSlL X.K):=by
 intro pins s σ H x v vl vu lo hi sl Q I rx hs pl pu h
 obtain⟨a,xs,rfl,hx,q⟩:=h
 cases rx
 obtain⟨its,r,ht,hz⟩:=I.list hx
 have hlen:=r.length
 refine⟨"list",_,slot_list_getitem.lookup,ht.isList.typeIs,?_⟩
 refine wpAny_getItem_list_slice ht.isList hs pl pu .none (by simp) ?_ (by rw [List.size_toArray] <;> lia)
 rw [slicePick_cut,← hlen]
 refine⟨.ref s.heap.objs.size,_,I.laid (t':=s.toks) (o:=.lst (cutV xs lo hi)) (fun b ob q=>Heap.get?_push_of_some _ q) (Nat.le_refl _) ?_,rfl,q _ (I.hok.fresh (Nat.le_refl _))⟩
 exact⟨Nat.le_trans (cutV_length xs lo hi) hz,_,0,(r.drop (HT.sIx xs.length 0 lo)).take (HT.sIx xs.length xs.length hi - HT.sIx xs.length 0 lo),Heap.get?_push_size _ rfl⟩
def flatV:V→Bool
 | .non=>true
 | .bl _=>true
 | .int _=>true
 | .str _=>true
 | _=>false
def eqV:V→V→Bool
 | .non,.non=>true
 | .bl a,.bl b=>a == b
 | .bl a,.int b=>(if a then 1 else 0) == b
 | .int a,.bl b=>a == (if b then 1 else 0)
 | .int a,.int b=>a == b
 | .str a,.str b=>a == b
 | _,_=>false
theorem eqAt_V {A:Around}{s:Shared}{y x:V}{u v:Value} (ry:RelV y u) (rx:RelV x v) (fy:flatV y=true) (fx:flatV x=true):SeqAt.EqAt A s u v (eqV y x):=by
 cases y with
 | non =>
  cases ry
  cases x with
  | non=>cases rx; exact SeqAt.EqAt.same _
  | bl b=>cases rx; exact SeqAt.EqAt.none_bool b
  | int b=>obtain⟨t,rfl⟩:=rx; exact SeqAt.EqAt.none_int b t
  | str b=>obtain⟨t,rfl⟩:=rx; exact SeqAt.EqAt.none_str b t
  | _=>exact absurd (show false=true from fx) Bool.false_ne_true
 | bl a =>
  cases ry
  cases x with
  | non=>cases rx; exact SeqAt.EqAt.bool_none a
  | bl b=>cases rx; exact SeqAt.EqAt.bool_bool a b
  | int b=>obtain⟨t,rfl⟩:=rx; exact SeqAt.EqAt.bool_int a b t
  | str b=>obtain⟨t,rfl⟩:=rx; exact SeqAt.EqAt.bool_str a b t
  | _=>exact absurd (show false=true from fx) Bool.false_ne_true
 | int a =>
  obtain⟨t',rfl⟩:=ry
  cases x with
  | non=>cases rx; exact SeqAt.EqAt.int_none a t'
  | bl b=>cases rx; exact SeqAt.EqAt.int_bool a t' b
  | int b=>obtain⟨t,rfl⟩:=rx; exact SeqAt.EqAt.int_int a t' b t
  | str b=>obtain⟨t,rfl⟩:=rx; exact SeqAt.EqAt.int_str a t' b t
  | _=>exact absurd (show false=true from fx) Bool.false_ne_true
 | str a =>
  obtain⟨t',rfl⟩:=ry
  cases x with
  | non=>cases rx; exact SeqAt.EqAt.str_none a t'
  | bl b=>cases rx; exact SeqAt.EqAt.str_bool a t' b
  | int b=>obtain⟨t,rfl⟩:=rx; exact SeqAt.EqAt.str_int a t' b t
  | str b=>obtain⟨t,rfl⟩:=rx; exact SeqAt.EqAt.str_str a t' b t
  | _=>exact absurd (show false=true from fx) Bool.false_ne_true
 | _=>exact absurd (show false=true from fy) Bool.false_ne_true
def eqU (x:V) (u:Value):Bool:=match u with
 | .none=>eqV .non x
 | .bool b=>eqV (.bl b) x
 | .int i _=>eqV (.int i) x
 | .str z _=>eqV (.str z) x
 | _=>false
theorem eqU_of {x y:V}{u:Value} (r:RelV y u) (f:flatV y=true):eqU x u=eqV y x:=by
 cases y with
 | non=>cases r; rfl
 | bl b=>cases r; rfl
 | int i=>obtain⟨t,rfl⟩:=r; rfl
 | str z=>obtain⟨t,rfl⟩:=r; rfl
 | _=>exact absurd (show false=true from f) Bool.false_ne_true
theorem any_eqU {x:V}:∀ {xs:List V}{us:List Value},Vals xs us→xs.all flatV=true→us.any (eqU x)=xs.any fun y=>eqV y x
 | _,_,.nil,_=>rfl
 | y::xs,u::us,.cons r t,f=>by
  rw [List.all_cons,Bool.and_eq_true] at f
  rw [List.any_cons,List.any_cons,eqU_of r f.1,any_eqU t f.2]
theorem mem_eqAt {A:Around}{s:Shared}{x:V}{v:Value} (rx:RelV x v) (fx:flatV x=true):∀ {xs:List V}{us:List Value},Vals xs us→xs.all flatV=true→∀ u∈us,SeqAt.EqAt A s u v (eqU x u)
 | _,_,.nil,_=>fun u hu=>by cases hu
 | y::xs,u::us,.cons r t,f=>fun u' hu=>by
  rw [List.all_cons,Bool.and_eq_true] at f
  rcases List.mem_cons.mp hu with rfl | hu
  ·rw [eqU_of r f.1]; exact eqAt_V r rx f.1 fx
  ·exact mem_eqAt rx fx t f.2 u' hu
def inV (x:V) (xs:List V):Bool:=xs.any fun y=>eqV y x
def rIn (K:PySem.W.Frag) (neg:Bool):R2:=fun x y H Q=>∃ p xs,y=.ref p∧(SqL K H p xs∨SqT K H p xs)∧flatV x=true∧xs.all flatV=true∧Q (.bl (if neg then !inV x xs else inV x xs)) H
theorem op_in_seq:OpR X (compareOp .In) (rIn X.K false):=by
 intro pins s σ H x y v u Q I rx ry h
 obtain⟨p,xs,rfl,hq,fx,fs,q⟩:=h
 cases ry
 rcases hq with hq | hq
 ·obtain⟨its,r,pl,hz⟩:=I.list hq
  refine SeqAt.in_listAt (eqU x) pl.isList (fun w hw=>mem_eqAt rx fx r fs w (by simpa using hw)) ⟨.bl _,H,I,rfl,?_⟩
  rw [show its.toArray.any (eqU x)=its.any (eqU x) by simp,any_eqU r fs]
  exact q
 ·obtain⟨its,r,pl,hz⟩:=I.tuple hq
  refine SeqAt.in_tupleAt (eqU x) pl (fun w hw=>mem_eqAt rx fx r fs w (by simpa using hw)) ⟨.bl _,H,I,rfl,?_⟩
  rw [show its.toArray.any (eqU x)=its.any (eqU x) by simp,any_eqU r fs]
  exact q
theorem call_len_seq:CallR X (.builtin "len") (fun xs H Q=>∃ p ys,xs=[.ref p]∧(SqL X.K H p ys∨SqT X.K H p ys)∧Q (.int ys.length) H):=by
 intro pins s σ H xs us Q I r h
 obtain⟨p,ys,rfl,hq,q⟩:=h
 obtain⟨u,rfl,rx⟩:=vals1 r
 cases rx
 have hn:=line63
 rcases hq with hq | hq
 ·obtain⟨its,r',pl,hz⟩:=I.list hq
  have hlen:=r'.length
  exact Calls.call_len_list pl.isList (by simp only [List.size_toArray] <;> lia) ⟨.int ys.length,H,I.tok _,⟨s.toks+1,by rw [List.size_toArray,hlen]⟩,q⟩
 ·obtain⟨its,r',pl,hz⟩:=I.tuple hq
  have hlen:=r'.length
  exact len_tuple pl (by simp only [List.size_toArray] <;> lia) ⟨.int ys.length,H,I.tok _,⟨s.toks+1,by rw [List.size_toArray,hlen]⟩,q⟩
theorem call_len_str:CallR X (.builtin "len") (fun xs H Q=>∃ z,xs=[.str z]∧z.length≤sizeLine∧Q (.int z.length) H):=by
 intro pins s σ H xs us Q I r h
 obtain⟨z,rfl,hz,q⟩:=h
 obtain⟨u,rfl,t,rfl⟩:=vals1 r
 have hn:=line63
 exact len_str (by lia) ⟨.int z.length,H,I.tok _,⟨_,rfl⟩,q⟩
theorem call_tuple_of:CallR X (.type "tuple") (fun xs H Q=>∃ p ys,xs=[.ref p]∧((SqL X.K H p ys∧∀ l,H l=none→Q (.ref l) (upd H l (.tup ys)))∨(SqT X.K H p ys∧Q (.ref p) H))):=by
 intro pins s σ H xs us Q I r h
 obtain⟨p,ys,rfl,h⟩:=h
 obtain⟨u,rfl,rx⟩:=vals1 r
 cases rx
 rcases h with⟨hq,q⟩ | ⟨hq,q⟩
 ·obtain⟨its,r',pl,hz⟩:=I.list hq
  have hlen:=r'.length
  refine call_tuple_list pl.isList (fun h' kp=>?_) (by simp only [List.size_toArray] <;> lia)
  have I1:Inv X pins σ H { s with heap:=h' }:=I.kept (t':=s.toks) kp
  have I2:Inv X pins σ (upd H h'.objs.size (.tup ys)) { s with heap:=h'.push { cls:=.type "tuple",data:=.seq its.toArray } } :=
   I1.laid (t':=s.toks) (fun b o e=>Heap.get?_push_of_some _ e) (Nat.le_refl _) (show ObjOk X.prog X.w _ _ _ (.tup ys) from ⟨hz,its,r',IsTup.new _ _⟩)
  exact⟨.ref h'.objs.size,_,I2,rfl,q _ (I1.hok.fresh (Nat.le_refl _))⟩
 ·obtain⟨its,r',pl,hz⟩:=I.tuple hq
  exact call_tuple_same pl ⟨.ref p,H,I,rfl,q⟩
def tyV (K:PySem.W.Frag) (T:String) (x:V) (H:Hp):Prop:=match x with
 | .str _=>T="str"
 | .int _=>T="int"
 | .ref p=>(T="list"∧∃ xs,SqL K H p xs)∨(T="tuple"∧∃ o,K.lookup p=some o∧o.cls=.type "tuple"∧o.dict=none) ∨
   (T="dict"∧((∃ kvs,H p=some (.dK kvs))∨∃ kvs,H p=some (.dT kvs)))∨(T="set"∧∃ S n,H p=some (.set S n))
 | _=>False
theorem tyV_is {pins:List (Addr×Obj)}{σ:St}{H:Hp}{s:Shared}{T:String}{x:V}{v:Value} (I:Inv X pins σ H s) (r:RelV x v) (ty:tyV X.K T x H) :
  s.TypeIs v T∧∀ a,v=.ref a→∃ ob,s.heap.get? a=some ob∧ob.dict=none:=by
 cases x with
 | str z =>
  obtain⟨t,rfl⟩:=r
  cases (show T="str" from ty)
  exact⟨typeIs_str s z t,fun _ e=>nomatch e⟩
 | int i =>
  obtain⟨t,rfl⟩:=r
  cases (show T="int" from ty)
  exact⟨typeIs_int s i t,fun _ e=>nomatch e⟩
 | ref p =>
  cases r
  rcases ty with⟨rfl,xs,hq⟩ | ⟨rfl,o,hk,hc,hd⟩ | ⟨rfl,hk⟩ | ⟨rfl,S,n,hk⟩
  ·obtain⟨its,_,pl,_⟩:=I.list hq
   refine⟨pl.isList.typeIs,fun a e=>?_⟩
   cases e
   obtain⟨o,n,e,c,hd,_⟩:=pl
   exact⟨o,e,hd⟩
  ·refine⟨⟨o,I.kIn p o hk,hc⟩,fun a e=>?_⟩
   cases e
   exact⟨o,I.kIn _ o hk,hd⟩
  ·have z:∃ o,s.heap.get? p=some o∧o.ExactDict:=by
    rcases hk with⟨kvs,hk⟩ | ⟨kvs,hk⟩
    ·obtain⟨_,_,_,_,o,_,_,e,ex,_⟩:=I.hok p _ hk
     exact⟨o,e,ex⟩
    ·obtain⟨_,_,_,_,o,_,_,e,ex,_⟩:=I.hok p _ hk
     exact⟨o,e,ex⟩
   obtain⟨o,e,ex⟩:=z
   refine⟨⟨o,e,ex.1⟩,fun a e2=>?_⟩
   cases e2
   exact⟨o,e,ex.2.1⟩
  ·obtain⟨o,_,_,_,e,ex,_⟩:=I.hok p _ hk
   refine⟨⟨o,e,ex.1⟩,fun a e2=>?_⟩
   cases e2
   exact⟨o,e,ex.2.1⟩
 | _=>exact False.elim ty
def tBM0 (K:PySem.W.Frag) (T:String) (r:V→List V→Hp→VK→Prop) (to:TE):TE:=fun σ H Q=>to σ H fun x H1=>tyV K T x H1∧r x [] H1 Q
def tBM (K:PySem.W.Frag) (T:String) (r:V→List V→Hp→VK→Prop) (to:TE) (t:TA):TE:=fun σ H Q=>to σ H fun x H1=>tyV K T x H1∧t σ H1 fun xs H2=>r x xs H2 Q
variable {o e:Expr}{es:List Expr}{to:TE}{t:TA}{name:Str}{apos cpos:Pos}{T id:String}{r:V→List V→Hp→VK→Prop}
theorem pe_bm0 (pa:PlainAttrs T) (slot:Slot T name id) (hty:typeOf (.builtin id)=pure (.type "method_descriptor")) (hm:MtR X id r) (ho:PE X o to)
  (hbase:attributeBase o name X.env (eval o X.env)=eval o X.env:=by rfl) (hline:(apos.endLine == cpos.line)=true:=by rfl):PE X (.Call (.Attribute o name apos) [] [] cpos) (tBM0 X.K T r to):=by
 intro pins s σ H Q I h
 refine wpAny_Call_method0_late hbase hline (thn (ho pins s σ H _ I h) fun v s1 ⟨x,H1,I1,r1,ty,q1⟩=>?_)
 obtain⟨h1,h2⟩:=tyV_is I1 r1 ty
 exact⟨T,id,pa,slot,hty,h1,h2,Calls.callWith_builtin rfl (PySem.evalArgs_none (hm pins s1 σ H1 x [] v [] Q I1 r1 .nil q1))⟩
theorem pe_bm (pa:PlainAttrs T) (slot:Slot T name id) (hty:typeOf (.builtin id)=pure (.type "method_descriptor")) (hm:MtR X id r) (ho:PE X o to) (ha:PA X (e::es) t)
  (hbase:attributeBase o name X.env (eval o X.env)=eval o X.env:=by rfl)
  (hfew:((backTo cpos (starEach (e::es) X.env)).all (fun x=>!x.1) && (backToKw cpos (keywordEach [] X.env)).all (fun x=>x.1.isSome)
   && decide ((e::es).length+([]:List Keyword).length+(if ([]:List Keyword).isEmpty then 0 else 1)<30))=true:=by rfl)
  (hline:(apos.endLine == cpos.line)=true:=by rfl) (hs:starEach (e::es) X.env=(false,eval e X.env)::starEach es X.env:=by rfl) (hplain:(backTo cpos (starEach es X.env)).any (·.1)=false:=by rfl) :
  PE X (.Call (.Attribute o name apos) (e::es) [] cpos) (tBM X.K T r to t):=by
 intro pins s σ H Q I h
 refine wpAny_Call_method_late hbase hfew hline rfl (thn (ho pins s σ H _ I h) fun v s1 ⟨x,H1,I1,r1,ty,q1⟩=>?_)
 obtain⟨h1,h2⟩:=tyV_is I1 r1 ty
 refine⟨T,id,pa,slot,hty,h1,h2,?_⟩
 have hA:=ha cpos pins s1 σ H1 _ I1 q1
 rw [hs] at hA ⊢
 refine Calls.callWith_builtin (by show (false || (backTo cpos (starEach es X.env)).any (·.1))=false; rw [hplain] <;> rfl) (Calls.evalArgs_plain ?_)
 exact thn hA fun us s2 ⟨vs,H2,I2,r2,q2⟩=>hm pins s2 σ H2 x vs v us Q I2 r1 r2 q2
end
end L2
namespace L2
open PySem PySem.Spec PyProof.Rows
def MtM (X:Cx) (id:String) (r:V→List V→Hp→VK→Prop):Prop :=
 ∀ (pins:List (Addr×Obj)) (s:Shared) (σ:St) (H:Hp) (x:V) (xs:List V) (v:Value) (us:List Value) (Q:VK),Inv X pins σ H s→RelV x v→Vals xs us→r x xs H Q →
  wpAny (model X.prog X.w) X.A (call (.builtin id) (v::us)) (EP X pins σ Q) X.xe s
theorem Vals.one:∀ {x:V}{us:List Value},Vals [x] us→∃ u,us=[u]∧RelV x u
 | _,_,.cons r .nil=>⟨_,rfl,r⟩
theorem Vals.zero:∀ {us:List Value},Vals [] us→us=[]
 | _,.nil=>rfl
theorem Vals.dropLast {xs:List V}{us:List Value} (h:Vals xs us):Vals xs.dropLast us.dropLast:=by
 induction h with
 | nil=>exact .nil
 | cons r t ih =>
  cases t with
  | nil=>exact .nil
  | cons q t'=>exact .cons r ih
theorem Vals.reverse {xs:List V}{us:List Value} (h:Vals xs us):Vals xs.reverse us.reverse:=by
 induction h with
 | nil=>exact .nil
 | cons r t ih=>rw [List.reverse_cons,List.reverse_cons]; exact Vals.append ih (.cons r .nil)
theorem Vals.rep {xs:List V}{us:List Value} (h:Vals xs us):∀ k:Nat,Vals (List.replicate k xs).flatten (List.replicate k us).flatten
 | 0=>.nil
 | k+1=>by
  rw [List.replicate_succ,List.replicate_succ,List.flatten_cons,List.flatten_cons]
  exact Vals.append h (Vals.rep h k)
theorem erase_last {α:Type} (l:List α):l.eraseIdx (l.length - 1)=l.dropLast:=by
 induction l with
 | nil=>rfl
 | cons a r ih =>
  cases r with
  | nil=>rfl
  | cons b r =>
   have e:(a::b::r).length - 1=((b::r).length - 1)+1:=by
    have h1:(a::b::r).length=r.length+2:=rfl
    have h2:(b::r).length=r.length+1:=rfl
    lia
   rw [e,List.eraseIdx_cons_succ,ih]
   all_goals rfl
theorem foldl_rep (its:List Value):∀ (k:Nat) (acc:List Value),
  List.foldl (fun x1 x2=>x1++x2) acc.toArray (List.replicate k its.toArray)=(acc++(List.replicate k its).flatten).toArray
 | 0,acc=>by simp
 | k+1,acc=>by
  have e:acc.toArray++its.toArray=(acc++its).toArray:=by simp
  have e2:(acc++its)++(List.replicate k its).flatten=acc++(List.replicate (k+1) its).flatten:=by
   rw [List.replicate_succ,List.flatten_cons,List.append_assoc]
  rw [← e2,← foldl_rep its k (acc++its),← e,List.replicate_succ,List.foldl_cons]
section
variable {X:Cx}{pins:List (Addr×Obj)}{σ:St}{H:Hp}{s:Shared}{l b:Addr}{xs ys zs:List V}
theorem Inv.lset {its its':List Value}{n:Nat}{f:Array Value→Array Value}{t':Nat} (I:Inv X pins σ H s) (hH:H l=some (.lst xs))
  (e:s.heap.get? l=some { cls:=.type "list",data:=.seq its.toArray n }) (hf:f its.toArray=its'.toArray) (hv:Vals ys its') (hz:ys.length≤sizeLine) :
  Inv X pins σ (upd H l (.lst ys)) { s with heap:=s.heap.update l (Obj.mapSeq f),toks:=t' }:=by
 have q:=PySem.IsL.update e f
 rw [hf] at q
 refine I.write (x:=l) (e:=l) (by rw [hH]; exact trivial) (.inl rfl) (fun b' u hb hu=>(Heap.get?_update_other s.heap (Obj.mapSeq f) (Ne.symm hb)).trans hu) ⟨_,q⟩ ?_
 exact⟨hz,its',_,hv,q⟩
theorem Inv.lnew {its:List Value}{t':Nat} (I:Inv X pins σ H s) (hv:Vals ys its) (hz:ys.length≤sizeLine) :
  Inv X pins σ (upd H s.heap.objs.size (.lst ys)) { s with heap:=s.heap.push { cls:=.type "list",data:=.seq its.toArray },toks:=t' } :=
 I.laid (fun _ _ q=>Heap.get?_push_of_some _ q) (Nat.le_refl _) ⟨hz,its,0,hv,Heap.get?_push_size _ rfl⟩
theorem Inv.fresh (I:Inv X pins σ H s):H s.heap.objs.size=none:=I.hok.fresh (Nat.le_refl _)
theorem Inv.lstM (I:Inv X pins σ H s) (hH:H l=some (.lst xs)):xs.length≤sizeLine∧∃ (its:List Value) (n:Nat),Vals xs its∧xs.length=its.length∧s.heap.get? l=some { cls:=.type "list",data:=.seq its.toArray n }:=by
 obtain⟨z,its,n,r,e⟩:=I.hok l _ hH
 exact⟨z,its,n,r,r.length,e⟩
theorem notLongL {n:Nat} (h:n≤sizeLine):Builtin.List.listTooLong n=false:=by
 unfold Builtin.List.listTooLong
 exact decide_eq_false (by lia)
end
section
variable {X:Cx}
def rAppend:V→List V→Hp→VK→Prop:=fun x vs H Q=>∃ l xs y,x=.ref l∧vs=[y]∧H l=some (.lst xs)∧xs.length<sizeLine∧Q .non (upd H l (.lst (xs++[y])))
theorem mt_append:MtM X "list.append" rAppend:=by
 intro pins s σ H x vs v us Q I rx rv h
 obtain⟨l,xs,y,rfl,rfl,hH,hz,q⟩:=h
 cases rx
 obtain⟨u,rfl,ru⟩:=rv.one
 obtain⟨z,its,n,r,hl,e⟩:=I.lstM hH
 refine call_meets F.slot_list_append ⟨_,e,rfl⟩ F.entry_list_append (F.args_list_append_2 _ _) (PySem.list_append l its.toArray n u (by rw [List.size_toArray]; lia)) ⟨e,?_⟩
 refine⟨.non,_,I.lset (its':=its++[u]) hH e (by simp) (r.append (.cons ru .nil)) ?_,rfl,q⟩
 rw [List.length_append,List.length_singleton]
 lia
def rExtend:V→List V→Hp→VK→Prop:=fun x vs H Q=>∃ l b xs zs,x=.ref l∧vs=[.ref b]∧H l=some (.lst xs)∧H b=some (.lst zs)∧xs.length+zs.length≤sizeLine∧Q .non (upd H l (.lst (xs++zs)))
theorem mt_extend:MtM X "list.extend" rExtend:=by
 intro pins s σ H x vs v us Q I rx rv h
 obtain⟨l,b,xs,zs,rfl,rfl,hH,hB,hz,q⟩:=h
 cases rx
 obtain⟨u,rfl,ru⟩:=rv.one
 cases ru
 obtain⟨z,its,n,r,hl,e⟩:=I.lstM hH
 obtain⟨z2,its2,n2,r2,hl2,e2⟩:=I.lstM hB
 have hsz:its.toArray.size+its2.toArray.size≤sizeLine:=by rw [List.size_toArray,List.size_toArray]; lia
 have hlong:¬ (!its.toArray.isEmpty && Builtin.List.listTooLong (its.toArray.size+its2.toArray.size))=true:=by
  rw [notLongL hsz,Bool.and_false]
  exact Bool.false_ne_true
 refine call_meets F.slot_list_extend ⟨_,e,rfl⟩ F.entry_list_extend (F.args_list_extend_2 _ _)
  (AutoSeq1.list_extend_list_list_0 l its.toArray n b its2.toArray n2 hlong (by rw [List.size_toArray]; lia) (by lia)) ⟨e,e2,?_⟩
 refine⟨.non,_,I.lset (its':=its++its2) hH e (by simp) (r.append r2) ?_,rfl,q⟩
 rw [List.length_append]
 lia
def rPop:V→List V→Hp→VK→Prop:=fun x vs H Q=>∃ l xs y,x=.ref l∧vs=[]∧H l=some (.lst xs)∧xs[xs.length - 1]?=some y∧Q y (upd H l (.lst xs.dropLast))
theorem mt_pop:MtM X "list.pop" rPop:=by
 intro pins s σ H x vs v us Q I rx rv h
 obtain⟨l,xs,y,rfl,rfl,hH,hy,q⟩:=h
 cases rx
 have hus:=rv.zero
 subst hus
 obtain⟨z,its,n,r,hl,e⟩:=I.lstM hH
 obtain⟨u,hu,ru⟩:=r.get hy
 have hy':its.toArray[its.toArray.size - 1]?=some u:=by
  show its.toArray[its.length - 1]?=some u
  rw [← Array.getElem?_toList,← hl]
  exact hu
 refine call_meets F.slot_list_pop ⟨_,e,rfl⟩ F.entry_list_pop (F.args_list_pop_1 _) (MeetsSeq.list_pop_last l its.toArray n u hy' (by rw [List.size_toArray]; lia)) ⟨e,?_⟩
 refine⟨y,_,I.lset (its':=its.dropLast) hH e ?_ r.dropLast ?_,ru,q⟩
 ·show its.toArray.eraseIdxIfInBounds (its.toArray.size - 1)=its.dropLast.toArray
  rw [List.size_toArray,List.eraseIdxIfInBounds_toArray,erase_last]
 ·rw [List.length_dropLast]
  lia
def rCat:R2:=fun x y H Q=>∃ l b xs zs,x=.ref l∧y=.ref b∧H l=some (.lst xs)∧H b=some (.lst zs)∧xs.length+zs.length≤sizeLine∧∀ p,H p=none→Q (.ref p) (upd H p (.lst (xs++zs)))
theorem op_cat:OpR X (binaryOp .Add) rCat:=by
 intro pins s σ H x y v u Q I rx ry h
 obtain⟨l,b,xs,zs,rfl,rfl,hH,hB,hz,q⟩:=h
 cases rx
 cases ry
 obtain⟨z,its,n,r,hl,e⟩:=I.lstM hH
 obtain⟨z2,its2,n2,r2,hl2,e2⟩:=I.lstM hB
 refine PySem.P.add_list e e2 ?_ (by rw [List.size_toArray,List.size_toArray]; lia)
 have ea:its.toArray++its2.toArray=(its++its2).toArray:=by simp
 rw [ea]
 exact⟨.ref _,_,I.lnew (t':=s.toks) (r.append r2) (by rw [List.length_append]; lia),rfl,q _ I.fresh⟩
def rRep:R2:=fun x y H Q=>∃ l k xs,x=.ref l∧y=.int k∧H l=some (.lst xs)∧-(2 ^ 63)≤k∧k<2 ^ 63∧xs.length * k.toNat≤sizeLine ∧
 ∀ p,H p=none→Q (.ref p) (upd H p (.lst (List.replicate k.toNat xs).flatten))
theorem len_rep {α:Type} (xs:List α) (k:Nat):(List.replicate k xs).flatten.length=k * xs.length:=by
 induction k with
 | zero=>simp
 | succ k ih=>rw [List.replicate_succ,List.flatten_cons,List.length_append,ih,Nat.succ_mul,Nat.add_comm]
theorem op_rep:OpR X (binaryOp .Mult) rRep:=by
 intro pins s σ H x y v u Q I rx ry h
 obtain⟨l,k,xs,rfl,rfl,hH,h1,h2,hz,q⟩:=h
 cases rx
 obtain⟨t,rfl⟩:=ry
 obtain⟨z,its,n,r,hl,e⟩:=I.lstM hH
 have hlen:its.toArray.size * k.toNat≤sizeLine:=by rw [List.size_toArray,← hl]; exact hz
 have hcap:¬ its.toArray.size * k.toNat > (2 ^ 63 - 1) / 8:=by
  have:(sizeLine:Nat)≤(2 ^ 63 - 1) / 8:=by decide
  lia
 have hfit:¬ (!Builtin.List.listFitsIndex k)=true:=by
  rw [fitsIndex_both h1 h2]
  exact Bool.false_ne_true
 have hlong:¬ Builtin.List.listTooLong (its.toArray.size * k.toNat)=true:=by
  rw [notLongL hlen]
  exact Bool.false_ne_true
 have hnew:List.foldl (fun x1 x2=>x1++x2) #[] (List.replicate (if its.toArray.isEmpty=true then 0 else k.toNat) its.toArray)=(List.replicate k.toNat its).flatten.toArray:=by
  have f0:∀ m:Nat,List.foldl (fun x1 x2=>x1++x2) #[] (List.replicate m its.toArray)=(List.replicate m its).flatten.toArray:=fun m=>by
   have:=foldl_rep its m []
   rw [List.nil_append] at this
   exact this
  rw [f0]
  cases its with
  | nil=>simp
  | cons a r'=>rw [if_neg (by simp)]
 refine wpAny_binaryOp_repeat_ref (T:="list") (U:="int") (by decide) ⟨_,e,rfl⟩ (fun s'=>typeIs_int s' k t) noFill_list_mul F.fills_int_mul F.slot_int_rmul repeat_list F.slot_int_index.lookup
  (call_meets F.slot_int_rmul (typeIs_int s k t) F.entry_int_rmul (F.args_int_rmul_2 _ _) (int___rmul___int_list k t l its.toArray n)
   ⟨e,rfl,⟨_,e,rfl⟩,call_meets F.slot_list_mul ⟨_,e,rfl⟩ F.entry_list_mul (F.args_list_mul_2 _ _) (AutoListH.list___mul___list_int_3 l its.toArray n k t hfit hcap hlong) ⟨e,?_⟩⟩)
 rw [hnew]
 exact⟨.ref _,_,I.lnew (t':=s.toks) (r.rep k.toNat) (by rw [len_rep,Nat.mul_comm]; exact hz),rfl,q _ I.fresh⟩
end
section
variable {prog:Program}{w:World}{A:Around}{E:Value→Shared→Prop}{s:Shared}
end
section
variable {X:Cx}
end
end L2
namespace Att
open PySem PySem.W PySem.Calls PyProof.Rows
theorem ints_of_wellAll {P:Params}{h:Heap}:∀ (ns:List Int) (vs:List Value),WellAll P h vs (ns.map WData.int)→IntsAre vs ns:=by
 intro ns
 induction ns with
 | nil =>
  intro vs w
  rw [List.map_nil] at w
  cases w
  exact .nil
 | cons n ns ih =>
  intro vs w
  rw [List.map_cons] at w
  cases w with
  | cons a b =>
   cases a
   exact .cons _ _ (ih _ b)
theorem script_of {l:OpenLaw}{n:Nat} (hn:l.most=some n) {P:Params}{h:Heap}{args:List WData}{vals:List Value}
  (hpre:l.row.toRowW.claim.pre args=true) (hwl:WellAll P h vals args) :
  ∃ a vs ns,vals=[Value.ref a]∧args=[WData.list (ns.map WData.int)]∧h.get? a=some { cls:=.type "list",data:=.seq vs.toArray }∧IntsAre vs ns∧ns.length≤n:=by
 have hsh:WShape.hasAll [] args [.list .int]=true:=(pre_splitW hpre).1
 have hc:l.pre.holds [] { args:=args }=true:=(pre_splitW hpre).2
 obtain⟨d,r,rfl,h1,h2⟩:=hasAllW_cons hsh
 obtain rfl:=hasAllW_nil h2
 obtain⟨xs,rfl,h3⟩:=hasW_list h1
 obtain⟨ns,rfl⟩:=items_int h3
 have hlen:ns.length≤n:=by
  unfold OpenLaw.pre at hc
  have h4:(WTm.not (.lt (.lit (.int (n:Int))) (.len (.arg 0)))).holds [] { args:=[.list (ns.map .int)] }=true:=by
   have h4:=(holds_andW hc).1
   rw [hn] at h4
   exact h4
  have h5:=condW_of h4 (w_not (w_lt w_lit (w_len_list (w_arg rfl))))
  rw [List.length_map] at h5
  refine Nat.le_of_not_lt fun q=>?_
  have q':(n:Int)<((ns.length:Nat):Int):=by lia
  first
   | (rw [decide_eq_true q'] at h5; exact absurd h5 (by decide))
   | (simp at h5; lia)
 cases hwl with
 | cons w1 w2 =>
  cases w2
  cases w1 with
  | list ho hall=>exact⟨_,_,ns,rfl,rfl,ho,ints_of_wellAll ns _ hall,hlen⟩
theorem post_true (l:OpenLaw) (args:List WData):l.row.toRowW.claim.post args (.bool true) args=true :=
 postW_of (r:=l.row.toRowW) (X:=(true == true))
  (show WShape.has [] (.bool true) .bool=true by first | rfl | decide | simp [WShape.has,WShape.arms,WShape.armsAll])
  (show (WTm.eq .res (.lit (.bool true))).value [] { args:=args,res:=some (.bool true),after:=args }=some (.bool (true == true)) from w_eq_bool (w_res rfl) w_lit) rfl
theorem attach_call {l:OpenLaw}{n:Nat}{q:Program}{loose:List Str}{XP:(Str→Option Value)→Heap→Prop}{YP:World→Heap→Prop}{d:DefRec}
  (hn:l.most=some n) (hdf:d.params.defaults=[])
  (call:∀ (w:World) (s₀ s₁:Shared) (mg mb:Str→Option Value) (fa:Addr) (o:Obj) (pm cd doc:Value) (a:Addr) (vs:List Value) (ns:List Int),
   Ground q loose [] XP w s₀ mg mb s₁.heap→YP w s₁.heap →
   s₁.heap.get? fa=some o→o.data=.func (docDef d.name d.params d.body d.scope pm cd doc)→s₁.heap.CodeRec cd d.name→mg d.name=some (.ref fa) →
   s₁.heap.get? a=some { cls:=.type "list",data:=.seq vs.toArray }→IntsAre vs ns→ns.length≤n→s₁.gens=#[] →
   codeAny (model l.prog w) callerA (.call (.ref fa) ⟨[.ref a],[]⟩) (fun r s'=>r=.ok (.ret (.bool true))∧OldK s₁.heap s'.heap∧s'.os=s₁.os∧AllBare s'.gens) s₁) :
  WalkO q loose XP YP l.row.toRowW d [] (fun f vs=>PySem.call f vs):=by
 intro w s₀ s₁ mg mb G Y fa o pm cd doc dV kV ho hd hcd hD hmg hg args vals as hpre hlay hrd hwl hlo
 obtain rfl:dV=.none:=Dflts.none hD hdf
 obtain rfl:kV=.none:=Dflts.noKw hD
 obtain⟨a,vs,ns,rfl,rfl,hobj,hints,hlen⟩:=script_of hn hpre hwl
 refine enter_call (codeAny_mono (call w s₀ s₁ mg mb fa o pm cd doc a vs ns G Y ho (fd_plain hd) hcd hmg hobj hints hlen hg) fun r s' hq=>?_)
 obtain⟨rfl,h2,h3,h4⟩:=hq
 exact⟨.inl ⟨.bool true,.bool true,[],rfl,fun _=>rfl,.bool true,post_true l _,fun _=>⟨List.Pairwise.nil,fun _ hm=>(nomatch hm)⟩⟩,h2,h3,h4⟩
section
variable {prog:Program}{w:World}{A:Around}{E:Value→Shared→Prop}{s:Shared}{K:Frag}
end
end Att
namespace L2
open PySem PySem.Spec PyProof.Rows
theorem vals_ints:∀ {vs:List Value}{ns:List Int},IntsAre vs ns→Vals (ns.map V.int) vs
 | _,_,.nil=>.nil
 | _,_,.cons n t h=>.cons ⟨t,rfl⟩ (vals_ints h)
def Only (H:Hp):Prop:=∀ b,H b=none∨∃ o xs,H b=some (.frz o (.lst xs))
theorem law_call {P:Program}{w:World}{K:PySem.W.Frag}{mg mb:Str→Option Value}{CX:CXT}{k:Nat}{fa a:Addr}{fd:FuncData}{x:Str}{sp:Sp}{s₁:Shared}{vs:List Value}{ns:List Int}
  (KX:K.In s₁.heap) (hns:s₁.heap.Ns mainGlobals mg) (hb:s₁.heap.Ns builtinsNs mb) (hbb:∀ x:Str,x≠"__name__"→mb x=bootBuiltins x) (hlim:s₁.heap.NoLimit) (hg:s₁.gens=#[])
  (ha:s₁.heap.get? a=some { cls:=.type "list",data:=.seq vs.toArray }) (hi:IntsAre vs ns) (hl:ns.length≤sizeLine) (hr:Room k callerA)
  (F:∀ base:Heap,K.In base→base.Ns mainGlobals mg→FnOk P w K mg base CX k fa fd [x] sp) (hbind:∀ (s:Shared) (u:Value),BindsTo s fd ⟨[u],[]⟩ [(x,u)])
  (hsp:∀ H:Hp,Only H→SqL K H a (ns.map V.int)→sp [.ref a] H (fun v _=>v=.bl true) fun _ _ _=>False)
  (hCX:∀ H e s',CX [] H s₁ (fun _ _ _=>False) e s'→False) :
  codeAny (model P w) callerA (.call (.ref fa) ⟨[.ref a],[]⟩) (fun r s'=>r=.ok (.ret (.bool true))∧OldK s₁.heap s'.heap∧s'.os=s₁.os∧AllBare s'.gens) s₁:=by
 have rv:=vals_ints hi
 have lenV:=hi.length
 have core:∀ H:Hp,Only H→SqL K H a (ns.map V.int)→HOk P w H s₁.heap→(∀ b,H b≠none→b=a)→(H a≠none→K.lookup a=none) →
   codeAny (model P w) callerA (.call (.ref fa) ⟨[.ref a],[]⟩) (fun r s'=>r=.ok (.ret (.bool true))∧OldK s₁.heap s'.heap∧s'.os=s₁.os∧AllBare s'.gens) s₁:=by
  intro H hO hS hok hA hK
  have base_of:∀ {b:Addr}{o:Obj},s₁.heap.get? b=some o→H b=none→(hidT s₁.heap H).get? b=some o:=fun e n=>hidT_get e n
  have noA:∀ {b:Addr}{o:Obj}{es:Array DictEntry}{ep:Nat},s₁.heap.get? b=some o→o.data=.dict es ep→H b=none:=fun {b o es ep} e d=>by
   cases q:H b with
   | none=>rfl
   | some u =>
    have e':b=a:=hA b (by rw [q]; simp)
    subst e'
    rw [ha] at e; cases e
    have d':Data.seq vs.toArray _=Data.dict es ep:=d
    cases d'
  have nsK:∀ {b:Addr}{m:Str→Option Value},s₁.heap.Ns b m→(hidT s₁.heap H).Ns b m:=fun {b m} ⟨o,es,ep,e,d,r⟩=>⟨o,es,ep,base_of e (noA e d),d,r⟩
  have hKb:K.In (hidT s₁.heap H):=fun b o e=>base_of (KX b o e) (by
   cases q:H b with
   | none=>rfl
   | some u =>
    have e':b=a:=hA b (by rw [q]; simp)
    subst e'
    rw [hK (by rw [q]; simp)] at e; cases e)
  have hM:Mod K mg (hidT s₁.heap H):=⟨hKb,nsK hns,⟨mb,nsK hb,hbb⟩,let ⟨mc,h1,h2⟩:=hlim; ⟨mc,nsK h1,h2⟩⟩
  have e0:Env0 P w K mg (hidT s₁.heap H) callerA [] s₁ H:=⟨rfl,hM,fun b o e=>of_hidT e,Nat.le_of_eq (hidT_size _ _),trivial,fun b hb=>absurd (show b∈([]:List Addr) from hb) (by simp),hok,.of_eq hg⟩
  refine codeAny_mono ((F _ hKb (nsK hns)).run callerA [] s₁ H ⟨[.ref a],[]⟩ [.ref a] [.ref a] _ _ hr e0 (hbind s₁ (.ref a)) (.cons rfl .nil) (hsp H hO hS)) fun r s' h=>?_
  cases r with
  | error e=>exact (hCX H e s' h).elim
  | ok fl =>
   cases fl with
   | next=>exact False.elim h
   | brk=>exact False.elim h
   | cont=>exact False.elim h
   | ret u =>
    obtain⟨v,H',os,bare,un,hok',r',q⟩:=h
    have q':v=.bl true:=q
    subst q'
    obtain rfl:u=Value.bool true:=r'
    refine⟨rfl,OldK.of_keep fun b o e=>?_,os,bare⟩
    cases q:H b with
    | none=>exact un.keep b o e q (by intro z; exact absurd (show b∈([]:List Addr) from z) (by simp)) (by simp)
    | some u =>
     rcases hO b with z | ⟨ob,xs,z⟩
     ·rw [q] at z; cases z
     ·have z2:=un.frzs b ob _ z
      obtain⟨e1,_⟩:=hok b _ z
      obtain⟨e2,_⟩:=hok' b _ z2
      rw [e] at e1; cases e1
      exact e2
 cases hk:K.lookup a with
 | some o =>
  have e:=KX a o hk
  rw [ha] at e
  cases e
  refine core (fun _=>none) (fun _=>.inl rfl) (.inr ⟨_,vs.toArray,_,hk,rfl,rfl,rfl,by rw [List.size_toArray,lenV]; exact hl,by simpa using rv⟩) (fun b u z=>by have z':(none:Option HO)=some u:=z; cases z') (fun b z=>absurd rfl z) fun z=>absurd rfl z
 | none =>
  refine core (fun b=>if b=a then some (.frz { cls:=.type "list",data:=.seq vs.toArray } (.lst (ns.map V.int))) else none) (fun b=>?_) (.inl (.inr ⟨{ cls:=.type "list",data:=.seq vs.toArray },if_pos rfl⟩)) (fun b u z=>?_) (fun b z=>?_) fun _=>hk
  ·by_cases hb:b=a
   ·exact .inr ⟨_,_,if_pos hb⟩
   ·exact .inl (if_neg hb)
  ·by_cases hb:b=a
   ·have z':=(if_pos hb).symm.trans z
    cases z'
    subst hb
    exact⟨ha,by rw [List.length_map]; exact hl,vs,_,rv,ha⟩
   ·have z':=(if_neg hb).symm.trans z
    cases z'
  ·by_cases hb:b=a
   ·exact hb
   ·exact absurd (if_neg hb) z
end L2
namespace L2
open PySem PySem.Spec PyProof.Rows
theorem walk_of {l:PySem.W.OpenLaw}{n k:Nat}{q:Program}{loose:List Str}{XP:(Str→Option Value)→Heap→Prop}{YP:World→Heap→Prop}{d:DefRec}{K:Params→PySem.W.Frag}{CX:World→CXT}{sp:World→Sp}{x:Str}
  (hn:l.most=some n) (hn2:n≤sizeLine) (hdf:d.params.defaults=[]) (hr:Room k callerA)
  (hY:∀ (w:World) (h:Heap),YP w h→(K w.params).In h)
  (F:∀ (w:World) (mg:Str→Option Value) (fa:Addr) (h:Heap),(K w.params).In h→h.Ns mainGlobals mg→mg d.name=some (.ref fa) →
   ∃ fd:FuncData,(∀ (s:Shared) (u:Value),BindsTo s fd ⟨[u],[]⟩ [(x,u)]) ∧
    ∀ base:Heap,(K w.params).In base→base.Ns mainGlobals mg→FnOk l.prog w (K w.params) mg base (CX w) k fa fd [x] (sp w))
  (hsp:∀ (w:World) (H:Hp) (a:Addr) (ns:List Int),ns.length≤n→Only H→SqL (K w.params) H a (ns.map V.int)→sp w [.ref a] H (fun v _=>v=.bl true) fun _ _ _=>False)
  (hCX:∀ (w:World) (H:Hp) (s:Shared) (e:Value) (s':Shared),CX w [] H s (fun _ _ _=>False) e s'→False) :
  PySem.W.WalkO q loose XP YP l.row.toRowW d [] (fun f vs=>PySem.call f vs):=by
 refine Att.attach_call hn hdf fun w s₀ s₁ mg mb fa o pm cd doc a vs ns G Y ho hd hcd hmg hobj hints hlen hg=>?_
 have KX:=hY w _ Y
 obtain⟨fd,hb,hF⟩:=F w mg fa _ KX G.T.g hmg
 exact law_call KX G.T.g G.T.b G.T.builtins G.T.nolimit hg hobj hints (Nat.le_trans hlen hn2) hr hF hb (fun H hO hS=>hsp w H a ns hlen hO hS) fun H e s'=>hCX w H s₁ e s'
end L2
namespace L2
open PySem PySem.Spec PyProof.Rows
def inClass (s:Stmt) (j:Nat):Stmt:=match s with
 | .ClassDef _ _ _ body _ _ _ _ _ _ _=>body.getD j (.Pass ⟨0,0,0,0⟩)
 | _=>.Pass ⟨0,0,0,0⟩
def defArgs (s:Stmt):Arguments:=match s with
 | .FunctionDef _ a _ _ _ _ _ _ _ _=>a
 | _=>{ posonlyargs:=[],args:=[],vararg:=none,kwonlyargs:=[],kw_defaults:=[],kwarg:=none,defaults:=[] }
def defBody (s:Stmt):List Stmt:=match s with
 | .FunctionDef _ _ b _ _ _ _ _ _ _=>b
 | _=>[]
def defScope (s:Stmt):Scope:=match s with
 | .FunctionDef _ _ _ _ _ _ sc _ _ _=>sc
 | _=>{ kind:=.function,names:=[],isGenerator:=false,isCoroutine:=false }
abbrev CX0:CXT:=fun _ _ _ _ _ _=>False
abbrev E0:XK:=fun _ _ _=>False
theorem pass0 {X:Cx}:Passes CX0 X E0:=fun _ _ _ _ _ _ _ h=>h.elim
structure Fun (K:PySem.W.Frag) (x qual:Str) (st:Stmt) (f:Addr) (fd:FuncData):Prop where
 ex:∃ (oc:Value) (od:Option Addr) (kV doc pm:Value) (an:Option Addr) (cdv ct:Value) (osl:Array (Option Value)),
  fd=PySem.W.fnOf x qual (defArgs st) (defBody st) (defScope st) .none kV doc pm an cdv ct∧K.lookup f=some ⟨oc,od,.func fd,osl⟩∧PySem.W.codeIn K cdv qual=true
 kp:PySem.W.keepIn K (.ref f)=true
section
variable {P:Program}{w:World}{K:PySem.W.Frag}{mg:Str→Option Value}{base:Heap}
theorem Fun.ok {x qual:Str}{st:Stmt}{f:Addr}{fd:FuncData}{N ps:List Str}{k:Nat}{sp:Sp} (F:Fun K x qual st f fd) (S:FnScope N ps (defScope st)) (len:∀ vs H Q E,sp vs H Q E→vs.length=ps.length)
  (hbody:∀ (cdv:Value) (A:Around) (outer:List Env) (s:Shared) (H:Hp) (vs:List V) (Q:VK) (E:XK),Room k (A.deeper (envOfC qual (defScope st) s.heap.objs.size f cdv))→sp vs H Q E →
   ∃ t,PSs (cxOf CX0 P w K mg base N qual (defScope st) f cdv A outer s H E).nox (defBody st) t∧t { nx:=fun _ H'=>Q .non H',rt:=Q } (start N vs) H):FnOk P w K mg base CX0 (k+1) f fd ps sp:=by
 obtain⟨oc,od,kV,doc,pm,an,cdv,ct,osl,rfl,lk,hcd⟩:=F.ex
 refine fn_of lk hcd S len fun A outer s H vs Q E hr hsp=>?_
 obtain⟨t,h,q⟩:=hbody cdv A outer s H vs Q E hr hsp
 exact⟨t,h.nox,q⟩
theorem Fun.binds {x qual:Str}{st:Stmt}{f:Addr}{fd:FuncData}{ps:List Str} (F:Fun K x qual st f fd)
  (h:∀ (kV doc pm:Value) (an:Option Addr) (cdv ct:Value) (us:List Value),us.length=ps.length→bindArgs (PySem.W.fnOf x qual (defArgs st) (defBody st) (defScope st) .none kV doc pm an cdv ct) ⟨us,[]⟩=pure (ps.zip us)):Binds K fd ps []:=by
 obtain⟨oc,od,kV,doc,pm,an,cdv,ct,osl,rfl,lk,hcd⟩:=F.ex
 exact .all (h kV doc pm an cdv ct)
theorem fun_mk {x qual:Str}{st:Stmt}{f:Addr}{oc:Value}{od an:Option Addr}{osl:Array (Option Value)}{kV doc pm cdv ct:Value} (l:K.lookup f=some ⟨oc,od,.func (PySem.W.fnOf x qual (defArgs st) (defBody st) (defScope st) .none kV doc pm an cdv ct),osl⟩)
  (c:PySem.W.codeIn K cdv qual=true) (k:PySem.W.keepIn K (.ref f)=true):Fun K x qual st f (PySem.W.fnOf x qual (defArgs st) (defBody st) (defScope st) .none kV doc pm an cdv ct):=⟨⟨oc,od,kV,doc,pm,an,cdv,ct,osl,rfl,l,c⟩,k⟩
end
section
variable {X:Cx}
theorem pv (i:Nat) {x:Str}{pos:Pos} (hN:X.N[i]?=some x:=by rfl) (hv:Vis X.env.scope x:=by first | exact Or.inl rfl | exact Or.inr (Or.inl rfl) | exact Or.inr (Or.inr rfl)) (hd:(x == ("__debug__":Str))=false:=by decide)
  (hcd:(x == ("__classdict__":Str))=false:=by decide):PE X (.Name x pos) (tVar i):=pe_var hN hv hd hcd
end
theorem iteF {A B:Prop} (h:B):if false=true then A else B:=by
 rw [if_neg Bool.false_ne_true]
 exact h
theorem iteT {A B:Prop} (h:A):if true=true then A else B:=by
 rw [if_pos rfl]
 exact h
theorem ite2 {c A B:Prop} [Decidable c] (h1:c→A) (h2:¬ c→B):if c then A else B:=by
 by_cases h:c
 ·rw [if_pos h]
  exact h1 h
 ·rw [if_neg h]
  exact h2 h
def Same (H H':Hp):Prop:=∀ b o,H b=some o→H' b=some o
theorem Same.refl (H:Hp):Same H H:=fun _ _ h=>h
theorem Same.trans {H H1 H2:Hp} (a:Same H H1) (b:Same H1 H2):Same H H2:=fun c o h=>b c o (a c o h)
theorem Same.free {H H':Hp} (e:Same H H') {l:Addr} (h:H' l=Option.none):H l=Option.none:=by
 cases q:H l with
 | none=>rfl
 | some o =>
  rw [e l o q] at h
  cases h
theorem Same.seq {K:PySem.W.Frag}{H H':Hp}{a:Addr}{xs:List V} (e:Same H H') (h:SqL K H a xs):SqL K H' a xs:=by
 rcases h with (h | ⟨o,h⟩) | h
 ·exact .inl (.inl (e _ _ h))
 ·exact .inl (.inr ⟨o,e _ _ h⟩)
 ·exact .inr h
end L2
set_option maxHeartbeats 4000000
namespace Sw
inductive All2 {α β:Type} (R:α→β→Prop):List α→List β→Prop where
 | nil:All2 R [] []
 | cons {a:α}{b:β}{as:List α}{bs:List β}:R a b→All2 R as bs→All2 R (a::as) (b::bs)
namespace All2
variable {α β:Type}{R S:α→β→Prop}
theorem length {as:List α}{bs:List β} (h:All2 R as bs):bs.length=as.length:=by
 induction h with
 | nil=>rfl
 | cons _ _ ih=>rw [List.length_cons,List.length_cons,ih]
theorem imp {as:List α}{bs:List β} (f:∀ a b,R a b→S a b) (h:All2 R as bs):All2 S as bs:=by
 induction h with
 | nil=>exact .nil
 | cons r _ ih=>exact .cons (f _ _ r) ih
theorem append {as as':List α}{bs bs':List β} (h:All2 R as bs) (g:All2 R as' bs'):All2 R (as++as') (bs++bs'):=by
 induction h with
 | nil=>exact g
 | cons r _ ih=>exact .cons r ih
theorem one {a:α}{b:β} (h:R a b):All2 R [a] [b]:=.cons h .nil
theorem get {as:List α}{bs:List β} (h:All2 R as bs):∀ {i:Nat}{b:β},bs[i]?=some b→∃ a,as[i]?=some a∧R a b:=by
 induction h with
 | nil=>intro i b e; simp at e
 | cons r _ ih =>
  intro i b e
  cases i with
  | zero=>exact⟨_,rfl,by have e':=Option.some.inj e; rw [← e']; exact r⟩
  | succ i=>exact ih (i:=i) (by simpa using e)
theorem take (n:Nat):∀ {as:List α}{bs:List β},All2 R as bs→All2 R (as.take n) (bs.take n):=by
 induction n with
 | zero=>intro as bs _; rw [List.take_zero,List.take_zero]; exact .nil
 | succ n ih =>
  intro as bs h
  cases h with
  | nil=>exact .nil
  | cons r h=>exact .cons r (ih h)
theorem drop (n:Nat):∀ {as:List α}{bs:List β},All2 R as bs→All2 R (as.drop n) (bs.drop n):=by
 induction n with
 | zero=>intro as bs h; exact h
 | succ n ih =>
  intro as bs h
  cases h with
  | nil=>exact .nil
  | cons r h=>exact ih h
theorem of_get:∀ {bs:List β}{as:List α},bs.length=as.length→(∀ (i:Nat) b,bs[i]?=some b→∃ a,as[i]?=some a∧R a b)→All2 R as bs
 | [],[],_,_=>.nil
 | [],_::_,h,_=>by simp at h
 | _::_,[],h,_=>by simp at h
 | b::bs,a::as,h,g=>by
  obtain⟨a',e,r⟩:=g 0 b rfl
  have e':=Option.some.inj e
  refine .cons (by rw [e']; exact r) (of_get (by simpa using h) fun i b e=>?_)
  exact g (i+1) b (by simpa using e)
theorem map_eq {f:α→β}{as:List α}{bs:List β} (h:All2 (fun a b=>b=f a) as bs):bs=as.map f:=by
 induction h with
 | nil=>rfl
 | cons r _ ih=>rw [List.map_cons,ih,r]
end All2
inductive T where
 | node (ts:List T)
namespace T
def kids:T→List T | .node ts=>ts
mutual
def parts:T→Nat | .node ts=>1+partsL ts
def partsL:List T→Nat
 | []=>0
 | t::ts=>parts t+partsL ts
end
mutual
def deep:T→Nat | .node ts=>deepL ts
def deepL:List T→Nat
 | []=>0
 | t::ts=>max (deep t+1) (deepL ts)
end
mutual
def beq:T→T→Bool | .node ts,.node us=>beqL ts us
def beqL:List T→List T→Bool
 | [],[]=>true
 | t::ts,u::us=>beq t u && beqL ts us
 | _,_=>false
end
mutual
theorem beq_iff:∀ t u:T,beq t u=true↔t=u
 | .node ts,.node us=>by
  unfold beq
  rw [beqL_iff ts us]
  exact⟨fun h=>by rw [h],fun h=>by injection h⟩
theorem beqL_iff:∀ ts us:List T,beqL ts us=true↔ts=us
 | [],[]=>by simp [beqL]
 | [],_::_=>by simp [beqL]
 | _::_,[]=>by simp [beqL]
 | t::ts,u::us=>by
  unfold beqL
  rw [Bool.and_eq_true,beq_iff t u,beqL_iff ts us]
  simp
end
theorem beq_self (t:T):beq t t=true:=(beq_iff t t).mpr rfl
instance:DecidableEq T:=fun t u=>if h:beq t u=true then isTrue ((beq_iff t u).mp h) else isFalse fun e=>h ((beq_iff t u).mpr e)
theorem parts_node (ts:List T):(T.node ts).parts=1+partsL ts:=by unfold parts; rfl
theorem deep_node (ts:List T):(T.node ts).deep=deepL ts:=by unfold deep; rfl
theorem partsL_nil:partsL []=0:=by unfold partsL; rfl
theorem partsL_cons (t:T) (ts:List T):partsL (t::ts)=t.parts+partsL ts:=by rw [partsL]
theorem deepL_nil:deepL []=0:=by unfold deepL; rfl
theorem deepL_cons (t:T) (ts:List T):deepL (t::ts)=max (t.deep+1) (deepL ts):=by rw [deepL]
theorem parts_pos (t:T):1≤t.parts:=by cases t; rw [parts_node]; lia
theorem parts_kids (t:T):t.parts=1+partsL t.kids:=by cases t; rw [parts_node]; rfl
theorem partsL_append:∀ a b:List T,partsL (a++b)=partsL a+partsL b
 | [],b=>by rw [partsL_nil,List.nil_append]; lia
 | t::a,b=>by rw [List.cons_append,partsL_cons,partsL_cons,partsL_append a b]; lia
theorem deepL_append:∀ a b:List T,deepL (a++b)=max (deepL a) (deepL b)
 | [],b=>by rw [deepL_nil,List.nil_append]; lia
 | t::a,b=>by rw [List.cons_append,deepL_cons,deepL_cons,deepL_append a b]; lia
theorem len_le_parts:∀ ts:List T,ts.length≤partsL ts
 | []=>by simp
 | t::ts=>by
  have h1:=parts_pos t
  have h2:=len_le_parts ts
  rw [partsL_cons,List.length_cons]
  lia
mutual
theorem deep_lt:∀ t:T,t.deep<t.parts
 | .node ts=>by
  have h:=deepL_le ts
  rw [deep_node,parts_node]
  lia
theorem deepL_le:∀ ts:List T,deepL ts≤partsL ts
 | []=>by rw [deepL_nil]; lia
 | t::ts=>by
  have h1:=deep_lt t
  have h2:=deepL_le ts
  rw [deepL_cons,partsL_cons]
  lia
end
theorem partsL_dropLast {ts:List T}{t:T} (h:ts[ts.length - 1]?=some t):partsL ts=partsL ts.dropLast+t.parts:=by
 have e:ts=ts.dropLast++[t]:=by
  have hne:ts≠[]:=by rintro rfl; simp at h
  have h2:=List.dropLast_concat_getLast hne
  have h3:ts.getLast hne=t:=by
   rw [← List.getLast?_eq_getElem?,List.getLast?_eq_some_getLast hne] at h
   exact Option.some.inj h
  rw [h3] at h2
  exact h2.symm
 have e2:partsL ts=partsL (ts.dropLast++[t]):=congrArg partsL e
 rw [e2,partsL_append,partsL_cons,partsL_nil]
 lia
theorem partsL_take_drop (n:Nat) (ts:List T):partsL ts=partsL (ts.take n)+partsL (ts.drop n):=by
 rw [← partsL_append,List.take_append_drop]
theorem mem_parts:∀ {ts:List T}{t:T},t∈ts→t.parts≤partsL ts
 | _::ts,t,h=>by
  rw [partsL_cons]
  rcases List.mem_cons.mp h with rfl | h
  ·lia
  ·have:=mem_parts h
   lia
theorem mem_deep:∀ {ts:List T}{t:T},t∈ts→t.deep+1≤deepL ts
 | _::ts,t,h=>by
  rw [deepL_cons]
  rcases List.mem_cons.mp h with rfl | h
  ·lia
  ·have:=mem_deep h
   lia
end T
end Sw
namespace Sw
open PySem PySem.Spec PyProof.Rows L2
abbrev Sg:=List (Option V)
def blk (X:Cx) (scope:Scope) (cl:List (Str×Addr)) (C:Addr) (N:List Str) (s:Shared) (H:Hp) (fp:List Addr) (pins:List (Addr×Obj)):Cx :=
 { X with N:=N,s₀:=s,H₀:=H,env:=compEnvC scope cl C X.env,outer:=X.stack,ex:=fp,fn:=fun _=>false,calm:=true,pn:=X.pn++pins,xe:=fun _ _=>False }
def FrOk (X:Cx) (scope:Scope):List Str→List Nat→Prop
 | [],[]=>True
 | y::fr,j::js=>(X.N[j]?=some y∧X.env.scope.names.lookup y=some .cell∧(relabel scope X.env).names.lookup y=some .cell)∧FrOk X scope fr js
 | _,_=>False
theorem FrOk.len {X:Cx}{scope:Scope}:∀ {fr:List Str}{js:List Nat},FrOk X scope fr js→fr.length=js.length
 | [],[],_=>rfl
 | _::_,_::_,h=>congrArg (· + 1) (FrOk.len h.2)
theorem FrOk.get {X:Cx}{scope:Scope}:∀ {fr:List Str}{js:List Nat},FrOk X scope fr js→∀ {i:Nat}{y:Str},fr[i]?=some y →
  ∃ j:Nat,js[i]?=some j∧X.N[j]?=some y∧X.env.scope.names.lookup y=some .cell∧(relabel scope X.env).names.lookup y=some .cell
 | [],[],_,i,y,e=>by simp at e
 | z::fr,j::js,h,0,y,e=>by
  have e':z=y:=by simpa using e
  subst e'
  exact⟨j,rfl,h.1⟩
 | z::fr,j::js,h,i+1,y,e=>by
  obtain⟨k,h1,h2⟩:=FrOk.get h.2 (i:=i) (y:=y) (by simpa using e)
  exact⟨k,by simpa using h1,h2⟩
structure LcOk (X:Cx) (scope:Scope) (x:Str) (fr:List Str) (js:List Nat) (cl:List (Str×Addr)):Prop where
 kind:scope.kind=.function
 clos:closureFor scope X.env=pure cl
 cell:∀ y∈scope.names,y.2≠.cell
 loc:∀ y∈scope.names,y.2=.local→scope.names.lookup y.1=some .local
 var:scope.names.lookup x=some .local
 sub:∀ y c,cl.lookup y=some c→X.env.cells.lookup y=some c
 has:∀ y,((relabel scope X.env).names.lookup y=some .cell∨(relabel scope X.env).names.lookup y=some .free)→∃ c,cl.lookup y=some c
 frk:FrOk X scope fr js
 nd:(x::fr).Nodup
section
variable {X:Cx}{pins:List (Addr×Obj)}{σ:Sg}{H:Hp}{s:Shared}{scope:Scope}{cl:List (Str×Addr)}{x:Str}{fr:List Str}{js:List Nat}{fp:List Addr}
theorem blk_ok {N:List Str} (I:Inv X pins σ H s) (L:LcOk X scope x fr js cl) (hc:X.calm=true) (hfp:∀ b∈fp,FpOk X pins H b) (hsz:∀ b∈fp,b<s.heap.objs.size) :
  (blk X scope cl s.heap.objs.size N s H fp pins).Ok where
 mod:=I.ok.mod
 kind:=L.kind
 glob:=I.ok.glob
 blt:=I.ok.blt
 above:=Nat.le_refl _
 inj:=fun y z c h1 h2=>I.ok.inj y z c (L.sub y c h1) (L.sub z c h2)
 has:=fun y hy=>L.has y hy
 cab:=fun y c h _=>absurd (show false=true from h) Bool.false_ne_true
 hd:=fun _=>I.ok.hd hc
 frames:=I.ok.frames
 stk:=.inl rfl
 exf:=fun b hb=>⟨Nat.ne_of_lt (hsz b hb),fun y c h=>(hfp b hb).2.2.2.2.1 y c (L.sub y c h)⟩
 bs:=I.bs
 bsz:=Nat.le_trans I.ok.bsz I.sz
 noex:=fun b o e hb=>by
  rcases (hfp b hb).2.2.2.1 with z | z
  ·exact I.ok.noex b o e z
  ·exact absurd (Nat.lt_of_lt_of_le (Nat.lt_of_lt_of_le (Heap.lt_size e) I.ok.bsz) z) (Nat.lt_irrefl _)
 exfs:=fun b hb z=>by
  rcases List.mem_cons.mp (I.stkSub b z) with e | e
  ·exact (hfp b hb).2.1 e
  ·exact (hfp b hb).2.2.1 e
 funs:=I.stack
 frf:=I.stkFree
def frv (σ:Sg) (js:List Nat):Sg:=js.map fun j=>(σ[j]?).getD none
theorem blk_inv {h1:Heap}{m1:Str→Option Value}{tk:Nat} (I:Inv X pins σ H s) (L:LcOk X scope x fr js cl) (hc:X.calm=true) (hfp:∀ b∈fp,FpOk X pins H b) (hsz:∀ b∈fp,b<s.heap.objs.size)
  (hn:h1.Ns s.heap.objs.size m1) (hk:∀ b o,s.heap.get? b=some o→h1.get? b=some o) :
  Inv (blk X scope cl s.heap.objs.size (x::fr) s H fp pins) [] (none::frv σ js) H { s with heap:=h1,toks:=tk }:=by
 refine⟨blk_ok I L hc hfp hsz,rfl,I.bare,Un.kept hk,⟨m1,hn,fun i y v e1 e2 _=>?_⟩,fun y c e=>?_,I.hok.fresh (Nat.le_refl _),fun y c e=>I.freeC y c (L.sub y c e),fun p hp=>?_,I.hok.kept hk,?_⟩
 ·cases i with
  | zero=>exact absurd e2 (by simp)
  | succ i =>
   have e1':fr[i]?=some y:=by simpa [blk] using e1
   obtain⟨j,hj,hN,hcell,hrel⟩:=L.frk.get e1'
   have e2':σ[j]?=some (some v):=by
    have q:(frv σ js)[i]?=some (some v):=by simpa using e2
    unfold frv at q
    rw [List.getElem?_map,hj] at q
    have q':(σ[j]?).getD none=some v:=by simpa using q
    cases hs:σ[j]? with
    | none=>rw [hs] at q'; cases q'
    | some o=>rw [hs] at q'; exact congrArg some q'
   obtain⟨m,_,hl⟩:=I.loc
   obtain⟨u,r,lk⟩:=hl j y v hN e2' (.inr (.inl hcell))
   refine⟨u,r,.inr ⟨.inl hrel,?_⟩⟩
   rcases lk with⟨hloc,_⟩ | ⟨_,c,hc1,hc2⟩
   ·have:X.env.scope.names.lookup y=some .local:=hloc
    rw [hcell] at this; cases this
   ·obtain⟨c',hc'⟩:=L.has y (.inl hrel)
    have e3:=L.sub y c' hc'
    rw [hc1] at e3; cases e3
    exact⟨c,hc',hc2.keeps hk⟩
 ·obtain⟨v,hv⟩:=I.cell y c (L.sub y c e)
  exact⟨v,hv.keeps hk⟩
 ·have hp':p∈X.pn++pins:=by simpa [blk] using hp
  obtain⟨a1,a2,a3,a4,a5⟩:=I.pin p hp'
  refine⟨hk _ _ a1,a2,Nat.ne_of_lt (Heap.lt_size a1),fun z=>?_,a5⟩
  rcases List.mem_cons.mp (I.stkSub _ z) with e | e
  ·exact a3 e
  ·exact a4 e
 ·show (none::frv σ js).length=(x::fr).length
  simp [frv,L.frk.len]
theorem blk_back {H':Hp}{s':Shared}{h':Heap}{σ':Sg}{N:List Str}{pins':List (Addr×Obj)} (I:Inv X pins σ H s) (J:Inv (blk X scope cl s.heap.objs.size N s H fp pins) pins' σ' H' s') (hfp:∀ b∈fp,FpOk X pins H b)
  (hsb:Heap.SameBut s.heap.objs.size s'.heap h'):Inv X pins σ H' { s' with heap:=h' }:=by
 have hos:s'.os=s.os:=J.os
 have nC:H' s.heap.objs.size=none:=J.free
 have kp:∀ b,b≠s.heap.objs.size→h'.get? b=s'.heap.get? b:=hsb.2
 have low:∀ b o,s.heap.get? b=some o→b≠s.heap.objs.size:=fun b o e=>Nat.ne_of_lt (Heap.lt_size e)
 have u:Un (frs X.stack) fp H H' s.heap h':=by
  have u0:Un (frs X.stack) fp H H' s.heap s'.heap:=J.base
  exact⟨fun b o e n h1 h2=>(kp b (low b o e)).trans (u0.keep b o e n h1 h2),fun b o e n h1 h2=>by
    obtain⟨sl,q⟩:=u0.slot b o e n h1 h2
    exact⟨sl,(kp b (low b o e)).trans q⟩,u0.free,fun b o e h1=>by
    obtain⟨o',q⟩:=u0.there b o e h1
    exact⟨o',(kp b (low b o e)).trans q⟩,u0.tups,u0.frzs,u0.tbls⟩
 have hok:HOk X.prog X.w H' h':=fun b o e=>by
  refine (J.hok b o e).stay (fun c v hc q=>(kp c ?_).trans q) (fun _ q=>q) fun _ _ q=>q
  rcases hc with z | z
  ·rw [z]; intro z'; rw [z',nC] at e; cases e
  ·intro z'; rw [z',nC] at z; cases z
 have q:=I.call (g':=s'.gens) (t':=s'.toks) (d':=s'.drawn) u hok J.bare fun b hb=>⟨(hfp b hb).2.2.2.1,(hfp b hb).2.1,(hfp b hb).2.2.2.2.1,(hfp b hb).2.2.2.2.2⟩
 obtain⟨hp,g,d,tk,os⟩:=s'
 have:os=s.os:=hos
 subst this
 exact q
end
def LcRun (J:It) (js:List Nat) (te:TE) (σ:Sg) (Q:VK) (H1:Hp):Prop:=∀ D,H1 D=none →
 ∃ W:Nat→Nat→List V→Hp→Prop,(∃ m,W 0 m [] (upd H1 D (.lst [])))∧∀ i m ys H',W i m ys H'→H' D=some (.lst ys) ∧
  ((J.stop i H'∧Q (.ref D) H')∨(J.go i H'∧∀ x H2,J.yld i H' x H2→te (some x::frv σ js) H2 fun y H3=>H3 D=some (.lst ys)∧ys.length<sizeLine ∧
   ∃ m',m'<m∧W (i+1) m' (ys++[y]) (upd H3 D (.lst (ys++[y])))))
def tLC (wi:TI) (js:List Nat) (te:TE):TE:=fun σ H Q=>wi σ H fun J H1=>LcRun J js te σ Q H1
section
variable {X:Cx}{scope:Scope}{cl:List (Str×Addr)}{x:Str}{fr:List Str}{js:List Nat}{elt iter:Expr}{px pos:Pos}{wi:TI}{te:TE}
theorem lc_loop {prog:Program}{w:World}{A:Around}{R:Result→Shared→Prop}{s:Shared}{tg:Expr}{it acc:Value}{env:Env} (Iv:Nat→Shared→Prop)
  (turn:∀ n s,Iv n s→wpAny (model prog w) A (pyNext it) (fun r s1=>match r with
   | none=>R (.ok .next) s1
   | some v=>wpAny (model prog w) A (letOwnedTupleGo tg it v) (fun _ s2=>wpAny (model prog w) A (assign tg env v) (fun _ s3=>wpAny (model prog w) A (eval elt env) (fun y s4 =>
     wpAny (model prog w) A (call (.builtin "list.append") [acc,y]) (fun _ s5=>∃ m,m<n∧Iv m s5) (fun _ _=>False) s4) (fun _ _=>False) s3) (fun _ _=>False) s2) (fun _ _=>False) s1) (fun _ _=>False) s)
  (n:Nat) (h:Iv n s):codeAny (model prog w) A (.compLoop (.ListComp elt [⟨tg,iter,[],0⟩] scope pos) 0 it acc env) R s:=by
 refine codeAny_loop rfl Iv (fun n s hI=>?_) n h
 refine wpAny_noted ?_
 rw [compTurn_list1]
 refine wpAny_bind (wpAny_standAt (wpAny_bind (wpAny_mono (turn n s hI) (fun r s1 h1=>?_) fun _ _ z=>z.elim)))
 cases r with
 | none=>exact wpAny_pure h1
 | some v =>
  refine wpAny_bind (wpAny_mono h1 (fun _ s2 h2=>?_) fun _ _ z=>z.elim)
  refine wpAny_bind (wpAny_mono h2 (fun _ s3 h3=>?_) fun _ _ z=>z.elim)
  refine wpAny_bind (wpAny_bind (wpAny_mono h3 (fun y s4 h4=>?_) fun _ _ z=>z.elim))
  refine wpAny_bind (wpAny_mono h4 (fun _ s5 h5=>?_) fun _ _ z=>z.elim)
  exact wpAny_pure (wpAny_pure ⟨rfl,h5⟩)
theorem pe_lc (hc:X.calm=true) (L:LcOk X scope x fr js cl) (hi:PI X (.Name x px) iter wi)
  (he:∀ C s H fp pins,PE (blk X scope cl C (x::fr) s H fp pins) elt te)
  (hs:∀ v,foldedSetIterable iter X.env v=pure v:=by intro _; rfl) :
  PE X (.ListComp elt [⟨.Name x px,iter,[],0⟩] scope pos) (tLC wi js te):=by
 intro pins s σ H Q I h
 rw [eval_ListComp]
 refine wpAny_comprehension_free (use:=none) rfl hs L.clos L.kind L.loc (thn (hi pins s σ H _ I h) fun v s1 h1=>thn h1 fun itv s2 h2=>?_)
 obtain⟨it,fp,tn,J,H2,e,I2,T,st2,f2,rd⟩:=h2
 subst e
 obtain⟨W,⟨m0,w0⟩,turn⟩:=rd _ I2.fresh
 have I3:=I2.lnew (ys:=[]) (its:=[]) (t':=s2.toks) .nil (Nat.zero_le _)
 refine wpAny_newObj_type ?_
 have fsz2:∀ b∈fp,b<s2.heap.objs.size:=fun b hb=>by
  obtain⟨o,ho,_⟩:=T.obj 0 _ st2 b hb
  exact Heap.lt_size ho
 generalize hs3:({ s2 with heap:=s2.heap.push { cls:=.type "list",dict:=none,data:=.seq ([]:List Value).toArray } }:Shared)=s3
 have I3':Inv X pins σ (upd H2 s2.heap.objs.size (.lst [])) s3:=by rw [← hs3]; exact I3
 have sz3:s3.heap.objs.size=s2.heap.objs.size+1:=by rw [← hs3]; exact Heap.size_push ..
 have k23:∀ b o,s2.heap.get? b=some o→s3.heap.get? b=some o:=fun b o e=>by rw [← hs3]; exact Heap.get?_push_of_some _ e
 have fsz:∀ b∈fp,b<s3.heap.objs.size:=fun b hb=>by rw [sz3]; exact Nat.lt_succ_of_lt (fsz2 b hb)
 have f3:∀ b∈fp,FpOk X pins (upd H2 s2.heap.objs.size (.lst [])) b:=fun b hb=>⟨by rw [upd_ne (Nat.ne_of_lt (fsz2 b hb))]; exact (f2 b hb).1,(f2 b hb).2⟩
 refine wpAny_newFunctionEnv L.cell (by intro y hy; simp at hy) (fun h4 hn4 hsb4=>?_) L.kind
 have k34:∀ b o,s3.heap.get? b=some o→h4.get? b=some o:=fun b o e=>(hsb4.2 b (Nat.ne_of_lt (Heap.lt_size e))).trans (Heap.get?_push_of_some _ e)
 generalize hX':blk X scope cl s3.heap.objs.size (x::fr) s3 (upd H2 s2.heap.objs.size (.lst [])) fp pins=X'
 have I4:Inv X' [] (none::frv σ js) (upd H2 s2.heap.objs.size (.lst [])) { s3 with heap:=h4,toks:=s3.toks+([]:List (Str×Value)).length }:=by
  rw [← hX']; exact blk_inv I3' L hc f3 fsz hn4 k34
 have st4:tn 0 h4:=T.keep _ _ _ st2 fun b _ o e=>k34 b o (k23 b o e)
 have he':PE X' elt te:=by rw [← hX']; exact he _ _ _ _ _
 have xp:X'.prog=X.prog:=by rw [← hX']; rfl
 have xw:X'.w=X.w:=by rw [← hX']; rfl
 have xK:X'.K=X.K:=by rw [← hX']; rfl
 have xA:X'.A=X.A:=by rw [← hX']; rfl
 have xc:X'.calm=true:=by rw [← hX']; rfl
 have xe:X'.xe=fun _ _=>False:=by rw [← hX']; rfl
 have xn:X'.N=x::fr:=by rw [← hX']; rfl
 have xv:X'.env=compEnvC scope cl s3.heap.objs.size X.env:=by rw [← hX']; rfl
 have xpn:X'.pn=X.pn++pins:=by rw [← hX']; rfl
 have xex:X'.ex=fp:=by rw [← hX']; rfl
 have xfs:X'.fs=frs X.stack:=by rw [← hX']; rfl
 have back:∀ {H':Hp}{s':Shared}{h':Heap}{σ':Sg},Inv X' [] σ' H' s'→Heap.SameBut s3.heap.objs.size s'.heap h'→Inv X pins σ H' { s' with heap:=h' }:=fun {H' s' h' σ'} J' hsb=>by
  rw [← hX'] at J'; exact blk_back I3' J' f3 hsb
 have frame:∀ b∈fp,b ∉ frs X.stack:=fun b hb z=>by
  rcases List.mem_cons.mp (I3'.stkSub b z) with e | e
  ·exact (f3 b hb).2.1 e
  ·exact (f3 b hb).2.2.1 e
 have stat:∀ {H':Hp},(∀ b∈fp,H' b=none)→∀ b∈fp,FpOk X' [] H' b:=fun {H'} hn b hb=>by
  refine⟨hn b hb,?_,?_,.inl (by rw [xex]; exact hb),?_,?_⟩
  ·rw [xv]; exact Nat.ne_of_lt (fsz b hb)
  ·rw [xfs]; exact frame b hb
  ·rw [xv]; exact fun y c e=>(f3 b hb).2.2.2.2.1 y c (L.sub y c e)
  ·rw [xpn,List.append_nil]; exact (f3 b hb).2.2.2.2.2
 have loop:codeAny (model X.prog X.w) X.A (.compLoop (.ListComp elt [⟨.Name x px,iter,[],0⟩] scope pos) 0 (.ref it) (.ref s2.heap.objs.size) (compEnvC scope cl s3.heap.objs.size X.env))
   (compPost (model X.prog X.w) X.A X.xe none (EP X pins σ Q) (.ref s2.heap.objs.size) s3.heap.objs.size) { s3 with heap:=h4,toks:=s3.toks+([]:List (Str×Value)).length }:=by
  refine lc_loop (fun n s'=>∃ i ys o H',Inv X' [] (o::frv σ js) H' s'∧tn i s'.heap∧(∀ b∈fp,H' b=none)∧W i n ys H') ?_ m0 ⟨0,[],none,_,I4,st4,fun b hb=>(f3 b hb).1,w0⟩
  rintro n s5 ⟨i,ys,o,H5,I5,st5,fr5,w5⟩
  obtain⟨hD,hstep⟩:=turn i n ys H5 w5
  rcases hstep with⟨stop,qn⟩ | ⟨go,step⟩
  ·have q:=T.done X' xp xw xK xc i [] s5 _ H5 (fun _ _=>False) I5 (stat fr5) st5 stop
   rw [xA] at q
   refine thn q fun r s6 ⟨hr,I6⟩=>?_
   subst hr
   obtain⟨m6,hn6,_⟩:=I6.loc
   rw [xv] at hn6
   exact⟨m6,hn6,fun h' hsb=>⟨.ref s2.heap.objs.size,H5,back I6 hsb,rfl,qn⟩⟩
  ·have q:=T.item X' xp xw xK xc i [] s5 _ H5 (fun _ _=>False) I5 (stat fr5) st5 go
   rw [xA] at q
   refine thn q fun r s6 ⟨u,hr,h6⟩=>?_
   subst hr
   refine thn h6 fun _ s7 ⟨xx,H7,I7,r7,y7,st7,fr7⟩=>?_
   have I7':=I7.pinned (stat fr7) (T.obj _ _ st7)
   have hg:PG X' (.Name x px) (gName 0):=by
    refine pg_name (i:=0) (x:=x) (by rw [xn]; exact L.nd) (by rw [xn]; rfl) ?_ ?_
    ·rw [xv]; exact .inl (lookup_relabel_local L.var)
    ·rw [xv]; exact .inr (lookup_relabel_local L.var)
   have q7:=hg _ s7 _ H7 xx u (fun σ8 H8=>σ8=some xx::frv σ js∧H8=H7) I7' r7 ⟨rfl,rfl⟩
   rw [xp,xw,xA,xe,xv] at q7
   refine thn q7 fun _ s8 ⟨σ8,H8,I8,e8,e8'⟩=>?_
   subst e8 e8'
   have q8:=he' _ s8 _ _ _ I8 (step xx _ y7)
   rw [xp,xw,xA,xe,xv] at q8
   refine thn q8 fun yv s9 ⟨y,H9,I9,r9,d9,z9,m9,hm9,w9⟩=>?_
   have q9:=mt_append (X:=X') _ s9 _ H9 (.ref s2.heap.objs.size) [y] (.ref s2.heap.objs.size) [yv] (fun z H'=>H'=upd H9 s2.heap.objs.size (.lst (ys++[y]))) I9 rfl (.cons r9 .nil) ⟨_,ys,y,rfl,rfl,d9,z9,rfl⟩
   rw [xp,xw,xA,xe] at q9
   refine thn q9 fun _ s10 ⟨_,H10,I10,_,e10⟩=>?_
   subst e10
   refine⟨m9,hm9,i+1,ys++[y],some xx,_,I10.unpinned,T.keep _ _ _ st7 fun b hb ob e=>(I10.pin (b,ob) (List.mem_append_right _ (List.mem_append_right _ (mem_pinsAt hb e)))).1,fun b hb=>?_,w9⟩
   obtain⟨ob,e,_⟩:=T.obj _ _ st7 b hb
   exact (I10.pin (b,ob) (List.mem_append_right _ (List.mem_append_right _ (mem_pinsAt hb e)))).2.1
 exact codeAny_compStart_list loop (T.self _ 0 _ _ _ st4 loop)
end
end Sw
namespace Sw
open PySem PySem.Spec PyProof.Rows L2
def clOf (cells:List (Str×Addr)):List (Str×NameKind)→List (Str×Addr)→List (Str×Addr)
 | [],acc=>acc
 | (n,.free)::r,acc=>match cells.lookup n with
  | some c=>clOf cells r ((n,c)::acc)
  | none=>clOf cells r acc
 | (_,_)::r,acc=>clOf cells r acc
theorem clOf_skip {cells:List (Str×Addr)}{n:Str}{k:NameKind}{r:List (Str×NameKind)}{acc:List (Str×Addr)} (h:k≠.free):clOf cells ((n,k)::r) acc=clOf cells r acc:=by
 cases k <;> first | rfl | exact absurd rfl h
theorem clOf_free {cells:List (Str×Addr)}{n:Str}{c:Addr}{r:List (Str×NameKind)}{acc:List (Str×Addr)} (h:cells.lookup n=some c):clOf cells ((n,.free)::r) acc=clOf cells r ((n,c)::acc):=by
 rw [clOf,h]
theorem clOf_sub {cells:List (Str×Addr)}:∀ {names:List (Str×NameKind)}{acc:List (Str×Addr)},(∀ y∈names,y.2=.free→∃ c,cells.lookup y.1=some c)→(∀ y c,acc.lookup y=some c→cells.lookup y=some c) →
  ∀ y c,(clOf cells names acc).lookup y=some c→cells.lookup y=some c
 | [],_,_,h,y,c,e=>h y c e
 | (n,k)::r,acc,hf,h,y,c,e=>by
  have hr:∀ y∈r,y.2=.free→∃ c,cells.lookup y.1=some c:=fun y hy=>hf y (List.mem_cons_of_mem _ hy)
  by_cases hk:k=.free
  ·subst hk
   obtain⟨d,hd⟩:=hf (n,.free) List.mem_cons_self rfl
   rw [clOf_free hd] at e
   refine clOf_sub hr (fun z b hz=>?_) y c e
   rw [List.lookup_cons] at hz
   cases hzn:z == n with
   | true =>
    rw [hzn] at hz
    have:z=n:=eq_of_beq hzn
    rw [this,hd]
    exact hz
   | false =>
    rw [hzn] at hz
    exact h z b hz
  ·rw [clOf_skip hk] at e
   exact clOf_sub hr h y c e
theorem clOf_has {cells:List (Str×Addr)}:∀ {names:List (Str×NameKind)}{acc:List (Str×Addr)},(∀ y∈names,y.2=.free→∃ c,cells.lookup y.1=some c) →
  ∀ y:Str,((y,NameKind.free)∈names∨∃ c,acc.lookup y=some c)→∃ c,(clOf cells names acc).lookup y=some c
 | [],_,_,y,h=>by
  rcases h with h | h
  ·simp at h
  ·exact h
 | (n,k)::r,acc,hf,y,h=>by
  have hr:∀ y∈r,y.2=.free→∃ c,cells.lookup y.1=some c:=fun y hy=>hf y (List.mem_cons_of_mem _ hy)
  by_cases hk:k=.free
  ·subst hk
   obtain⟨d,hd⟩:=hf (n,.free) List.mem_cons_self rfl
   rw [clOf_free hd]
   refine clOf_has hr y ?_
   by_cases hyn:y=n
   ·subst hyn
    exact .inr ⟨d,by simp [List.lookup_cons]⟩
   ·rcases h with h | ⟨c,h⟩
    ·rcases List.mem_cons.mp h with e | e
     ·exact absurd (congrArg Prod.fst e) hyn
     ·exact .inl e
    ·refine .inr ⟨c,?_⟩
     rw [List.lookup_cons]
     have:(y == n)=false:=by simpa using hyn
     rw [this]
     exact h
  ·rw [clOf_skip hk]
   refine clOf_has hr y ?_
   rcases h with h | h
   ·rcases List.mem_cons.mp h with e | e
    ·exact absurd (congrArg Prod.snd e).symm hk
    ·exact .inl e
   ·exact .inr h
theorem closure_eq {scope:Scope}{env:Env} (hf:∀ y∈scope.names,y.2=.free→∃ c,env.cells.lookup y.1=some c):closureFor scope env=pure (clOf env.cells scope.names []):=by
 have key:∀ (names:List (Str×NameKind)) (acc:List (Str×Addr)),(∀ y∈names,y.2=.free→∃ c,env.cells.lookup y.1=some c) →
   (forIn names acc fun (x:Str×NameKind) (cs:List (Str×Addr))=>(match x with | (name,kind)=>if (kind == NameKind.free)=true then (cellOf env name >>= fun a=>pure (ForInStep.yield ((name,a)::cs))) else pure (ForInStep.yield cs):Sem (ForInStep (List (Str×Addr)))))=pure (clOf env.cells names acc):=by
  intro names
  induction names with
  | nil=>intro acc _; rfl
  | cons x r ih =>
   intro acc h
   obtain⟨n,k⟩:=x
   have hr:∀ y∈r,y.2=.free→∃ c,env.cells.lookup y.1=some c:=fun y hy=>h y (List.mem_cons_of_mem _ hy)
   rw [List.forIn_cons]
   by_cases hk:k=.free
   ·subst hk
    obtain⟨d,hd⟩:=h (n,.free) List.mem_cons_self rfl
    have hc:cellOf env n=pure d:=by unfold cellOf; rw [hd]
    rw [clOf_free hd,← ih _ hr]
    simp only [beq_self_eq_true,if_true,hc,pure_bind]
   ·have hb:(k == NameKind.free)=false:=by simpa using hk
    rw [clOf_skip hk,← ih _ hr]
    simp only [hb,Bool.false_eq_true,if_false,pure_bind]
 have:=key scope.names [] hf
 unfold closureFor
 simp only [bind_pure_comp,map_pure] at this ⊢
 first
  | exact this
  | (rw [this]; rfl)
  | (simp only [this]; rfl)
theorem lc_free {X:Cx}{scope sc:Scope}{x:Str}{fr:List Str}{js:List Nat} (hk:scope.kind=.function) (hsc:X.env.scope=sc) (hkf:sc.kind=.function)
  (hcell:∀ y∈scope.names,y.2≠.cell) (hloc:∀ y∈scope.names,y.2=.local→scope.names.lookup y.1=some .local) (hvar:scope.names.lookup x=some .local)
  (hfree:∀ y∈scope.names,y.2=.free→sc.names.lookup y.1=some .cell) (hfr:FrOk X scope fr js) (hnd:(x::fr).Nodup)
  (hcs:∀ y,X.env.scope.names.lookup y=some .cell→∃ c,X.env.cells.lookup y=some c):LcOk X scope x fr js (clOf X.env.cells scope.names []):=by
 have hall:∀ y∈scope.names,y.2=.free→∃ c,X.env.cells.lookup y.1=some c:=fun y hy e=>hcs _ (by rw [hsc]; exact hfree y hy e)
 refine⟨hk,closure_eq hall,hcell,hloc,hvar,clOf_sub hall fun y c e=>by simp at e,fun y hy=>clOf_has hall y (.inl ?_),hfr,hnd⟩
 have get:∀ k,(k=NameKind.cell∨k=NameKind.free)→(relabel scope X.env).names.lookup y=some k→(y,NameKind.free)∈scope.names:=fun k hkk e=>by
  have hm:=PySem.mem_of_lookup e
  unfold relabel at hm
  obtain⟨⟨n,k0⟩,hin,heq⟩:=List.mem_map.mp hm
  dsimp only at heq
  split at heq
  ·rename_i hc
   have e1:n=y:=congrArg Prod.fst heq
   have e2:k0=.free:=by
    rw [Bool.and_eq_true,Bool.and_eq_true] at hc
    exact eq_of_beq hc.1.1
   rw [← e1,← e2]
   exact hin
  ·have e1:n=y:=congrArg Prod.fst heq
   have e2:k0=k:=congrArg Prod.snd heq
   rcases hkk with z | z
   ·exact absurd (by rw [e2,z]) (hcell _ hin)
   ·rw [← e1,← z,← e2]
    exact hin
 rcases hy with h | h
 ·exact get _ (.inl rfl) h
 ·exact get _ (.inr rfl) h
end Sw
namespace Sw
open PySem PySem.Spec PyProof.Rows L2
theorem same_new {H:Hp}{p:Addr} (h:H p=none) (o:HO):Same H (upd H p o):=fun b u q=>by rw [upd_ne (ne_of_none q h)]; exact q
structure Kt (H H':Hp):Prop where
 t:∀ b xs,H b=some (.tup xs)→H' b=some (.tup xs)
 f:∀ b o u,H b=some (.frz o u)→H' b=some (.frz o u)
theorem Kt.of {H H':Hp} (S:Same H H'):Kt H H':=⟨fun b _ e=>S b _ e,fun b _ _ e=>S b _ e⟩
theorem Kt.trans {H H1 H2:Hp} (a:Kt H H1) (b:Kt H1 H2):Kt H H2:=⟨fun _ _ e=>b.t _ _ (a.t _ _ e),fun _ _ _ e=>b.f _ _ _ (a.f _ _ _ e)⟩
theorem Kt.new {H:Hp}{p:Addr}{o:HO} (h:H p=none):Kt H (upd H p o):=.of (same_new h o)
theorem Kt.lst {H:Hp}{p:Addr}{ys:List V}{o:HO} (h:H p=some (.lst ys)):Kt H (upd H p o) :=
 ⟨fun b xs e=>by rw [upd_ne (ne_of e h (fun z=>by cases z))]; exact e,fun b o' u e=>by rw [upd_ne (ne_of e h (fun z=>by cases z))]; exact e⟩
theorem sqT_mono {K:PySem.W.Frag}{H H':Hp}{a:Addr}{xs:List V} (S:Kt H H') (h:SqT K H a xs):SqT K H' a xs:=by
 rcases h with (h | ⟨o,h⟩) | h
 ·exact .inl (.inl (S.t _ _ h))
 ·exact .inl (.inr ⟨o,S.f _ _ _ h⟩)
 ·exact .inr h
theorem same_upd {H H':Hp}{p:Addr}{o:HO} (S:Same H H') (h:H p=none):Same H (upd H' p o):=fun b u q=>by rw [upd_ne (ne_of_none q h)]; exact S b u q
section
variable {X:Cx}
theorem call_sum (hc:X.calm=true):CallR X (.builtin "sum") (fun xs H Q=>∃ (p:Addr) (ns:List Int),xs=[.ref p]∧SqL X.K H p (ns.map V.int)∧Q (.int ns.sum) H):=by
 intro pins s σ H xs us Q I r h
 obtain⟨p,ns,rfl,hq,q⟩:=h
 obtain⟨u,rfl,rx⟩:=vals1 r
 cases rx
 obtain⟨its,r',pl,hz⟩:=I.list hq
 have hi:IntsAre its ns:=intsAre_of r'
 obtain⟨ys,e⟩:=hi.allInts.items
 have hns:ns=ys.toList.map (·.1):=by
  rw [← hi.numsOf,← nums_intItems,← e]
 have hl:=pl.isList
 rw [e] at hl
 refine sum_intListG (I.ok.hd hc) hl fun h' tk t' hk=>?_
 have es:preSum (numAt ys) ys.size=ns.sum:=by rw [preSum_eq,List.take_of_length_le (by simp),hns]
 exact⟨.int ns.sum,H,I.kept hk,⟨t',by rw [es]⟩,q⟩
theorem extend_tuple_meets (l:Addr) (items:Array Value) (n:Nat) (b:Addr) (items2:Array Value) (n2:Nat) (dd:Option Addr) (sl:Array (Option Value))
  (h0:¬ (!items.isEmpty && Builtin.List.listTooLong (items.size+items2.size))=true) (h1:items.size≤sizeLine) (h2:items.size+items2.size≤sizeLine+1) :
  Meets (Builtin.«list.extend» ⟨[.ref l,.ref b],[]⟩) (fun _ R s=>s.heap.get? l=some { cls:=.type "list",dict:=none,data:=.seq items n,slots:=#[] } ∧
   s.heap.get? b=some { cls:=.type "tuple",dict:=dd,data:=.seq items2 n2,slots:=sl }∧R (.ok (.ret Value.none)) { s with heap:=s.heap.update l (Obj.mapSeq fun x=>x++items2),toks:=s.toks }) :=
 .of_wp fun prog w A R s h=>by
  obtain⟨hp,g,d,tk,os⟩:=s
  obtain⟨hl,hb,h⟩:=h
  have f1:=AutoSeq1.idx_int
  have f2:=AutoSeq1.sub_tuple_tuple
  have f3:=AutoSeq1.sub_list_list
  have f4:=AutoSeq1.sub_tuple_list
  have f5:=AutoSeq1.sub_list_tuple
  have hz':(items++items2).size≤sizeLine+1:=by
   rw [Array.size_append]
   exact h2
  wp_walk using (wpAny_updateSeq hl rfl (hz:=h1) (_hz':=hz')),AutoSeq1.wpAny_loadPart' hl,AutoSeq1.wpAny_loadPart' hb
  exact⟨_,rfl,h⟩
def rExtT (K:PySem.W.Frag):V→List V→Hp→VK→Prop:=fun x vs H Q=>∃ l b xs zs,x=.ref l∧vs=[.ref b]∧H l=some (.lst xs)∧SqT K H b zs∧xs.length+zs.length≤sizeLine∧Q .non (upd H l (.lst (xs++zs)))
theorem mt_extT:MtM X "list.extend" (rExtT X.K):=by
 intro pins s σ H x vs v us Q I rx rv h
 obtain⟨l,b,xs,zs,rfl,rfl,hH,hB,hz,q⟩:=h
 cases rx
 obtain⟨u,rfl,ru⟩:=rv.one
 cases ru
 obtain⟨z,its,n,r,hl,e⟩:=I.lstM hH
 obtain⟨its2,r2,⟨⟨c2,d2,dt2,sl2⟩,e2,hc2,n2,hd2⟩,z2⟩:=I.tuple hB
 have hl2:=r2.length
 simp only at hc2 hd2
 subst hc2 hd2
 have hsz:its.toArray.size+its2.toArray.size≤sizeLine:=by rw [List.size_toArray,List.size_toArray]; lia
 have hlong:¬ (!its.toArray.isEmpty && Builtin.List.listTooLong (its.toArray.size+its2.toArray.size))=true:=by
  rw [notLongL hsz,Bool.and_false]
  exact Bool.false_ne_true
 refine call_meets F.slot_list_extend ⟨_,e,rfl⟩ F.entry_list_extend (F.args_list_extend_2 _ _)
  (extend_tuple_meets l its.toArray n b its2.toArray n2 d2 sl2 hlong (by rw [List.size_toArray]; lia) (by lia)) ⟨e,e2,?_⟩
 refine⟨.non,_,I.lset (its':=its++its2) hH e (by simp) (r.append r2) ?_,rfl,q⟩
 rw [List.length_append]
 lia
theorem getItem_tuple_whole {prog:Program}{w:World}{A:Around}{E:Value→Shared→Prop}{s:Shared}{t sl:Addr}{items:Array Value}{vl vu:Value}{lo hi:Option Int}{Q:Value→Shared→Prop}
  (ht:IsTup s.heap t items) (hs:s.heap.IsSliceOf sl vl vu .none) (pl:IsPart vl lo) (pu:IsPart vu hi)
  (h1:HT.sIx items.size 0 lo=0) (h2:HT.sIx items.size items.size hi=items.size) (h:Q (.ref t) s):wpAny (model prog w) A (getItem (.ref t) (.ref sl)) Q E s:=by
 obtain⟨os,hos,hcs,hds⟩:=id hs
 have hTs:s.TypeIs (.ref sl) "slice":=⟨os,hos,hcs⟩
 unfold getItem
 try with_reducible refine wpAny_holding ?_
 first | refine wpAny_bind (wpAny_pure ?_) | skip
 refine wpAny_bind (wpAny_sequenceKey ht.typeIs (by decide) ?_)
 refine wpAny_bind (wpAny_callSpecial?_slot (name:=Str.ofString "__getitem__") ht.typeIs PyProof.Rows.slot_tuple_getitem
  (wpAny_call_entry PyProof.Rows.slot_tuple_getitem ht.typeIs entry_tuple_getitem ?_ (args_tuple_getitem _ _)))
 show wpAny _ _ (Builtin.Tuple.tupleItemsOf (.ref t) >>= _) _ _ s
 refine wpAny_bind (tupleItemsOf_ ht ?_)
 refine wpAny_bind (wpAny_typeOf hTs ?_)
 rw [if_pos (by decide)]
 refine wpAny_bind (HT.sliceApplied_gen hs pl pu ?_)
 have hyes:(((HT.sIx items.size 0 lo:Nat):Int) == 0 && (1:Int) == 1 && (HT.sIx items.size items.size hi - HT.sIx items.size 0 lo) == items.size)=true:=by
  rw [h1,h2]
  simp
 show wpAny _ _ (if (((HT.sIx items.size 0 lo:Nat):Int) == 0 && (1:Int) == 1 && (HT.sIx items.size items.size hi - HT.sIx items.size 0 lo) == items.size)=true then _ else _) _ _ s
 rw [if_pos hyes]
 unfold Builtin.Tuple.tupleIsExact
 refine wpAny_bind (wpAny_bind (wpAny_typeOf ht.typeIs (wpAny_pure ?_)))
 rw [if_pos (by decide)]
 refine wpAny_bind (wpAny_rule ?_)
 exact wpAny_pure ⟨_,rfl,wpAny_pure h⟩
def rSlTW (K:PySem.W.Frag):V→Option Int→Option Int→Hp→VK→Prop:=fun x lo hi H Q=>∃ a xs,x=.ref a∧SqT K H a xs ∧
 HT.sIx xs.length 0 lo=0∧HT.sIx xs.length xs.length hi=xs.length∧Q (.ref a) H
theorem sl_tupW:SlR X (rSlTW X.K):=by
 intro pins s σ H x v vl vu lo hi sl Q I rx hs pl pu h
 obtain⟨a,xs,rfl,hx,w1,w2,q⟩:=h
 cases rx
 obtain⟨its,r,ht,hz⟩:=I.tuple hx
 have hlen:its.toArray.size=xs.length:=by rw [List.size_toArray]; exact r.length.symm
 refine⟨"tuple",_,PyProof.Rows.slot_tuple_getitem.lookup,ht.typeIs,?_⟩
 exact getItem_tuple_whole ht hs pl pu (by rw [hlen]; exact w1) (by rw [hlen]; exact w2) ⟨.ref a,H,I,rfl,q⟩
def rSlTA (K:PySem.W.Frag):V→Option Int→Option Int→Hp→VK→Prop:=fun x lo hi H Q=>∃ a xs,x=.ref a∧SqT K H a xs∧∀ p H',Same H H'→SqT K H' p (cutV xs lo hi)→Q (.ref p) H'
theorem cutV_whole {xs:List V}{lo hi:Option Int} (h1:HT.sIx xs.length 0 lo=0) (h2:HT.sIx xs.length xs.length hi=xs.length):cutV xs lo hi=xs:=by
 unfold cutV
 rw [h1,h2]
 simp
theorem sl_tupA:SlR X (rSlTA X.K):=by
 intro pins s σ H x v vl vu lo hi sl Q I rx hs pl pu h
 obtain⟨a,xs,rfl,hx,q⟩:=h
 by_cases hw:HT.sIx xs.length 0 lo=0∧HT.sIx xs.length xs.length hi=xs.length
 ·exact sl_tupW pins s σ H _ v vl vu lo hi sl Q I rx hs pl pu ⟨a,xs,rfl,hx,hw.1,hw.2,q a H (Same.refl H) (by rw [cutV_whole hw.1 hw.2]; exact hx)⟩
 ·exact sl_tup pins s σ H _ v vl vu lo hi sl Q I rx hs pl pu ⟨a,xs,rfl,hx,hw,fun p hp=>q p _ (same_new hp _) (SqT.of upd_same)⟩
theorem call_isinst:CallR X (.builtin "isinstance") (fun xs H Q=>∃ x T t b,xs=[x,.ty T]∧TyOf X.K H x t∧PySem.W.kitOne X.K t (.type T)=some b∧Q (.bl b) H):=by
 intro pins s σ H xs us Q I r h
 obtain⟨x,T,t,b,rfl,ty,e,q⟩:=h
 obtain⟨u,w',rfl,r1,r2⟩:=vals2 r
 cases r2
 exact isinst_ok I r1 ty e fun tk=>⟨.bl b,H,I.tok tk,rfl,q⟩
theorem call_isinstT:CallR X (.builtin "isinstance") (fun xs H Q=>∃ a ys T b,xs=[.ref a,.ty T]∧SqT X.K H a ys∧PySem.W.kitOne X.K (.type "tuple") (.type T)=some b∧Q (.bl b) H):=by
 intro pins s σ H xs us Q I r h
 obtain⟨a,ys,T,b,rfl,hq,e,q⟩:=h
 obtain⟨u,w',rfl,r1,r2⟩:=vals2 r
 cases r1
 cases r2
 obtain⟨its,_,⟨o,h1,h2,_⟩,_⟩:=I.tuple hq
 exact PySem.W.kia_one PySem.W.kitx_tuple I.kIn ⟨o,h1,h2⟩ e (fun z=>nomatch z) fun tk=>⟨.bl b,H,I.tok tk,rfl,q⟩
end
mutual
def TR (K:PySem.W.Frag) (H:Hp):T→V→Prop
 | .node ts,x=>∃ a xs,x=.ref a∧SqT K H a xs∧TRs K H ts xs
def TRs (K:PySem.W.Frag) (H:Hp):List T→List V→Prop
 | [],xs=>xs=[]
 | t::ts,xs=>∃ x r,xs=x::r∧TR K H t x∧TRs K H ts r
end
section
variable {K:PySem.W.Frag}{H H':Hp}
theorem TR_node {ts:List T}{x:V}:TR K H (.node ts) x↔∃ a xs,x=.ref a∧SqT K H a xs∧TRs K H ts xs:=by rw [TR]
theorem TRs_nil {xs:List V}:TRs K H [] xs↔xs=[]:=by rw [TRs]
theorem TRs_cons {t:T}{ts:List T}{xs:List V}:TRs K H (t::ts) xs↔∃ x r,xs=x::r∧TR K H t x∧TRs K H ts r:=by rw [TRs]
theorem TR_of {t:T}{x:V} (h:TR K H t x):∃ a xs,x=.ref a∧SqT K H a xs∧TRs K H t.kids xs:=by
 cases t with
 | node ts=>exact TR_node.mp h
theorem TR_mk {ts:List T}{a:Addr}{xs:List V} (h:SqT K H a xs) (q:TRs K H ts xs):TR K H (.node ts) (.ref a):=TR_node.mpr ⟨a,xs,rfl,h,q⟩
mutual
theorem TR.mono (S:Kt H H'):∀ {t:T}{x:V},TR K H t x→TR K H' t x
 | .node ts,x,h=>by
  obtain⟨a,xs,e,h1,h2⟩:=TR_node.mp h
  exact TR_node.mpr ⟨a,xs,e,sqT_mono S h1,TRs.mono S h2⟩
theorem TRs.mono (S:Kt H H'):∀ {ts:List T}{xs:List V},TRs K H ts xs→TRs K H' ts xs
 | [],xs,h=>by rw [TRs_nil] at h ⊢; exact h
 | t::ts,xs,h=>by
  obtain⟨x,r,e,h1,h2⟩:=TRs_cons.mp h
  exact TRs_cons.mpr ⟨x,r,e,TR.mono S h1,TRs.mono S h2⟩
end
theorem TRs.length:∀ {ts:List T}{xs:List V},TRs K H ts xs→xs.length=ts.length
 | [],xs,h=>by rw [TRs_nil] at h; rw [h]; rfl
 | t::ts,xs,h=>by
  obtain⟨x,r,e,h1,h2⟩:=TRs_cons.mp h
  rw [e,List.length_cons,List.length_cons,TRs.length h2]
theorem TRs.append:∀ {ts us:List T}{xs ys:List V},TRs K H ts xs→TRs K H us ys→TRs K H (ts++us) (xs++ys)
 | [],us,xs,ys,h,g=>by rw [TRs_nil] at h; rw [h]; exact g
 | t::ts,us,xs,ys,h,g=>by
  obtain⟨x,r,e,h1,h2⟩:=TRs_cons.mp h
  rw [e]
  exact TRs_cons.mpr ⟨x,r++ys,rfl,h1,TRs.append h2 g⟩
theorem TRs.get:∀ {ts:List T}{xs:List V},TRs K H ts xs→∀ {i:Nat}{x:V},xs[i]?=some x→∃ t,ts[i]?=some t∧TR K H t x
 | [],xs,h,i,x,e=>by rw [TRs_nil] at h; rw [h] at e; simp at e
 | t::ts,xs,h,i,x,e=>by
  obtain⟨y,r,rfl,h1,h2⟩:=TRs_cons.mp h
  cases i with
  | zero=>exact⟨t,rfl,by have e':y=x:=(by simpa using e);rw [← e']; exact h1⟩
  | succ i=>exact TRs.get h2 (i:=i) (by simpa using e)
theorem TRs.take:∀ (n:Nat) {ts:List T}{xs:List V},TRs K H ts xs→TRs K H (ts.take n) (xs.take n)
 | 0,ts,xs,h=>by rw [List.take_zero,List.take_zero,TRs_nil]
 | n+1,[],xs,h=>by rw [TRs_nil] at h; rw [h]; exact TRs_nil.mpr rfl
 | n+1,t::ts,xs,h=>by
  obtain⟨x,r,rfl,h1,h2⟩:=TRs_cons.mp h
  exact TRs_cons.mpr ⟨x,r.take n,rfl,h1,TRs.take n h2⟩
theorem TRs.drop:∀ (n:Nat) {ts:List T}{xs:List V},TRs K H ts xs→TRs K H (ts.drop n) (xs.drop n)
 | 0,ts,xs,h=>h
 | n+1,[],xs,h=>by rw [TRs_nil] at h; rw [h]; exact TRs_nil.mpr rfl
 | n+1,t::ts,xs,h=>by
  obtain⟨x,r,rfl,h1,h2⟩:=TRs_cons.mp h
  exact TRs.drop n h2
theorem TRs.dropLast {ts:List T}{xs:List V} (h:TRs K H ts xs):TRs K H ts.dropLast xs.dropLast:=by
 rw [List.dropLast_eq_take,List.dropLast_eq_take,h.length]
 exact h.take _
end
section
variable {X:Cx}{pins:List (Addr×Obj)}{σ:Sg}{H:Hp}{s:Shared}
theorem tr_inj (I:Inv X pins σ H s):∀ (n:Nat),(∀ (t u:T) (x:V),t.parts≤n→TR X.K H t x→TR X.K H u x→t=u)∧(∀ (ts us:List T) (xs:List V),T.partsL ts≤n→TRs X.K H ts xs→TRs X.K H us xs→ts=us)
 | 0=>⟨fun t u x h _ _=>absurd (T.parts_pos t) (by lia),fun ts us xs h q r=>by
   have h1:=T.len_le_parts ts
   have h2:=q.length
   have h3:=r.length
   have e1:ts=[]:=List.length_eq_zero_iff.mp (by lia)
   have e2:us=[]:=List.length_eq_zero_iff.mp (by lia)
   rw [e1,e2]⟩
 | n+1=>by
  have ih:=tr_inj I n
  have A:∀ (t u:T) (x:V),t.parts≤n+1→TR X.K H t x→TR X.K H u x→t=u:=fun t u x h q r=>by
   cases t with
   | node ts =>
    cases u with
    | node us =>
     obtain⟨a,xs,e1,q1,q2⟩:=TR_node.mp q
     obtain⟨b,ys,e2,r1,r2⟩:=TR_node.mp r
     rw [e1] at e2
     cases e2
     have:=I.tuple_inj q1 r1
     subst this
     rw [T.parts_node] at h
     rw [ih.2 ts us xs (by lia) q2 r2]
  refine⟨A,fun ts us xs h q r=>?_⟩
  cases ts with
  | nil =>
   rw [TRs_nil] at q
   subst q
   have:=r.length
   exact (List.length_eq_zero_iff.mp (by simpa using this.symm)).symm
  | cons t ts =>
   obtain⟨x,r',rfl,q1,q2⟩:=TRs_cons.mp q
   cases us with
   | nil=>rw [TRs_nil] at r; cases r
   | cons u us =>
    obtain⟨x2,r2',e,r1,r2⟩:=TRs_cons.mp r
    cases e
    rw [T.partsL_cons] at h
    have h1:=T.parts_pos t
    rw [A t u x (by lia) q1 r1,ih.2 ts us r' (by lia) q2 r2]
def eqsAt (ts us:List T) (j:Nat):Bool:=match ts[j]?,us[j]? with
 | some t,some u=>T.beq t u
 | _,_=>false
theorem beqL_range:∀ ts us:List T,((List.range (min ts.length us.length)).all (eqsAt ts us) && ts.length == us.length)=T.beqL ts us
 | [],[]=>by simp [T.beqL]
 | [],u::us=>by simp [T.beqL]
 | t::ts,[]=>by simp [T.beqL]
 | t::ts,u::us=>by
  have ih:=beqL_range ts us
  have e:min (t::ts).length (u::us).length=min ts.length us.length+1:=by simp only [List.length_cons]; lia
  rw [e,List.range_succ_eq_map,List.all_cons,List.all_map]
  have e2:(eqsAt (t::ts) (u::us)∘Nat.succ)=eqsAt ts us:=by
   funext j
   simp [eqsAt]
  have e3:eqsAt (t::ts) (u::us) 0=T.beq t u:=rfl
  have e4:((t::ts).length == (u::us).length)=(ts.length == us.length):=by simp
  rw [e2,e3,e4,Bool.and_assoc,ih]
  rw [T.beqL]
theorem rc_tree (I:Inv X pins σ H s):∀ (n:Nat) (t u:T) (A:Around) (a b:Addr),t.deep≤n→TR X.K H t (.ref a)→TR X.K H u (.ref b)→A.units+n<cLine→SeqAt.RcAt A s (.ref a) (.ref b) (T.beq t u):=by
 intro n
 induction n with
 | zero =>
  intro t u A a b hd q r hu
  cases t with
  | node ts =>
   cases u with
   | node us =>
    obtain⟨a',xs,e1,q1,q2⟩:=TR_node.mp q
    cases e1
    obtain⟨b',ys,e2,r1,r2⟩:=TR_node.mp r
    cases e2
    rw [T.deep_node] at hd
    have hts:ts=[]:=by
     cases ts with
     | nil=>rfl
     | cons t ts=>rw [T.deepL_cons] at hd; lia
    subst hts
    rw [TRs_nil] at q2
    subst q2
    obtain⟨its,rv,ht,_⟩:=I.tuple q1
    obtain⟨its2,rv2,ht2,_⟩:=I.tuple r1
    have h0:=rv.length
    have h2:=rv2.length
    have h3:=r2.length
    have key:=SeqAt.RcAt.tuples (A:=A) (e:=fun _=>true) ht ht2 (by lia) (fun j j1 _=>absurd j1 (by rw [List.size_toArray,← h0]; simp))
    have ev:((List.range (min its.toArray.size its2.toArray.size)).all (fun _=>true) && its.toArray.size == its2.toArray.size)=T.beq (.node []) (.node us):=by
     rw [List.size_toArray,List.size_toArray,← h0,← h2,h3,T.beq,← beqL_range]
     simp
    rw [ev] at key
    exact key
 | succ n ih =>
  intro t u A a b hd q r hu
  cases t with
  | node ts =>
   cases u with
   | node us =>
    obtain⟨a',xs,e1,q1,q2⟩:=TR_node.mp q
    cases e1
    obtain⟨b',ys,e2,r1,r2⟩:=TR_node.mp r
    cases e2
    rw [T.deep_node] at hd
    obtain⟨its,rv,ht,_⟩:=I.tuple q1
    obtain⟨its2,rv2,ht2,_⟩:=I.tuple r1
    have l1:=rv.length
    have l2:=rv2.length
    have l3:=q2.length
    have l4:=r2.length
    have key:=SeqAt.RcAt.tuples (A:=A) (e:=eqsAt ts us) ht ht2 (by lia) (fun j j1 j2=>?_)
    ·have ev:((List.range (min its.toArray.size its2.toArray.size)).all (eqsAt ts us) && its.toArray.size == its2.toArray.size)=T.beq (.node ts) (.node us):=by
      rw [List.size_toArray,List.size_toArray,← l1,← l2,l3,l4,T.beq,← beqL_range]
     rw [ev] at key
     exact key
    ·have j1':j<xs.length:=by rw [l1]; simpa using j1
     have j2':j<ys.length:=by rw [l2]; simpa using j2
     obtain⟨u1,hu1,ru1⟩:=rv.get (List.getElem?_eq_getElem j1')
     obtain⟨u2,hu2,ru2⟩:=rv2.get (List.getElem?_eq_getElem j2')
     obtain⟨t1,ht1,tr1⟩:=q2.get (List.getElem?_eq_getElem j1')
     obtain⟨t2,ht2',tr2⟩:=r2.get (List.getElem?_eq_getElem j2')
     have ee:eqsAt ts us j=T.beq t1 t2:=by unfold eqsAt; rw [ht1,ht2']
     have g1:its.toArray[j]=u1:=by
      have:its[j]?=some u1:=hu1
      rw [List.getElem?_eq_some_iff] at this
      obtain⟨_,e⟩:=this
      simpa using e
     have g2:its2.toArray[j]=u2:=by
      have:its2[j]?=some u2:=hu2
      rw [List.getElem?_eq_some_iff] at this
      obtain⟨_,e⟩:=this
      simpa using e
     rw [ee,g1,g2]
     obtain⟨a1,zs1,e1,_⟩:=TR_of tr1
     obtain⟨a2,zs2,e2,_⟩:=TR_of tr2
     rw [e1] at ru1 tr1
     rw [e2] at ru2 tr2
     obtain rfl:u1=Value.ref a1:=ru1
     obtain rfl:u2=Value.ref a2:=ru2
     by_cases hne:a1=a2
     ·subst hne
      have et:t1=t2:=(tr_inj I t1.parts).1 t1 t2 _ (Nat.le_refl _) tr1 tr2
      rw [et,T.beq_self]
      exact SeqAt.EqAt.same _
     ·have hd1:t1.deep≤n:=by
       have:=T.mem_deep (List.mem_of_getElem? ht1)
       lia
      exact SeqAt.EqAt.of_refs hne (ih t1 t2 A.in1 a1 a2 hd1 tr1 tr2 (by rw [Around.in1_units]; lia))
end
section
variable {X:Cx}
def rEqTr (K:PySem.W.Frag) (n:Nat):R2:=fun x y H Q=>∃ t u,TR K H t x∧TR K H u y∧t.deep≤n∧Q (.bl (T.beq t u)) H
theorem op_eqTr {n:Nat} (hu:X.A.units+n<cLine):OpR X (compareOp .Eq) (rEqTr X.K n):=by
 intro pins s σ H x y v u Q I rx ry h
 obtain⟨t,t',h1,h2,hd,q⟩:=h
 obtain⟨a,xs,e1,_⟩:=TR_of h1
 obtain⟨b,ys,e2,_⟩:=TR_of h2
 subst e1 e2
 cases rx
 cases ry
 exact rc_tree I n t t' X.A a b hd h1 h2 hu _ _ _ _ ⟨.bl _,H,I,rfl,q⟩
end
section
variable {X:Cx}{K:PySem.W.Frag}
theorem ix_tupK (h:X.K=K):IxR X (rIxT K):=by subst h; exact ix_tup
end
theorem sqL_new {K:PySem.W.Frag}{H:Hp}{a D:Addr}{xs:List V}{o:HO} (h:SqL K H a xs) (hD:H D=none):SqL K (upd H D o) a xs:=(same_new hD o).seq h
theorem lc_list {K:PySem.W.Frag}{H:Hp}{a:Addr}{xs:List V}{σ:Sg}{js:List Nat}{te:TE}{Q:VK} (Pr:Nat→V→Prop) (hl:SqL K H a xs) (hz:xs.length≤sizeLine)
  (hte:∀ (i:Nat) (x:V) (H':Hp) (R:VK),xs[i]?=some x→Same H H'→(∀ y,Pr i y→R y H')→te (some x::frv σ js) H' R)
  (q:∀ (D:Addr) (ys:List V),H D=none→ys.length=xs.length→(∀ i y,ys[i]?=some y→Pr i y)→Q (.ref D) (upd H D (.lst ys))) :
  LcRun (Itl K a) js te σ Q H:=by
 intro D hD
 refine⟨fun i m ys H'=>m=xs.length - i∧i≤xs.length∧ys.length=i∧(∀ j y,ys[j]?=some y→Pr j y)∧H'=upd H D (.lst ys),⟨xs.length,by lia,Nat.zero_le _,rfl,fun j y e=>by simp at e,rfl⟩,?_⟩
 rintro i m ys H' ⟨rfl,hi,hly,hp,rfl⟩
 refine⟨upd_same,?_⟩
 have hl':=sqL_new (o:=.lst ys) hl hD
 by_cases hlt:i<xs.length
 ·refine .inr ⟨⟨xs,xs[i],hl',List.getElem?_eq_getElem hlt⟩,fun x H2 y=>?_⟩
  obtain⟨e,y⟩:=y
  subst e
  refine hte i x _ _ (y xs hl') (same_new hD _) fun y py=>⟨upd_same,by lia,xs.length - (i+1),by lia,rfl,by lia,by simp [hly],fun j z e=>?_,by rw [upd_upd]⟩
  by_cases hj:j<ys.length
  ·rw [List.getElem?_append_left hj] at e
   exact hp j z e
  ·rw [List.getElem?_append_right (by lia)] at e
   have:j - ys.length=0:=by
    rcases Nat.eq_zero_or_pos (j - ys.length) with h | h
    ·exact h
    ·rw [List.getElem?_eq_none (by simp; lia)] at e; cases e
   rw [this] at e
   have e':y=z:=by simpa using e
   have ej:j=i:=by lia
   rw [← e',ej]
   exact py
 ·have ei:i=xs.length:=by lia
  exact .inl ⟨⟨xs,hl',by lia⟩,q D ys hD (by lia) hp⟩
end Sw
namespace SwR
open PySem PySem.Spec PyProof.Rows L2 Sw
theorem sl_next:Slot "reversed" "__next__" "reversed.__next__":=.of (owner:="reversed") (n:="__next__") (by rw [typeLookup_type,builtinLookup_eq_fast]; kernel_rfl) (by decide +kernel) (by decide +kernel) (by decide +kernel) (by first | exact .inl (by decide +kernel) | exact .inr (by decide +kernel)) (by rw [isSubtype_type]; kernel_rfl)
theorem en_next:entryFor table "reversed.__next__"=some Builtin.«reversed.__next__»:=entryFor_of_tree (by kernel_rfl)
theorem ar_next (a:Value):argsOk "reversed.__next__" ⟨[a],[]⟩:=by unfold argsOk; kernel_rfl
theorem sl_iter:Slot "reversed" "__iter__" "reversed.__iter__":=.of (owner:="reversed") (n:="__iter__") (by rw [typeLookup_type,builtinLookup_eq_fast]; kernel_rfl) (by decide +kernel) (by decide +kernel) (by decide +kernel) (by first | exact .inl (by decide +kernel) | exact .inr (by decide +kernel)) (by rw [isSubtype_type]; kernel_rfl)
theorem ar_iter (a:Value):argsOk "reversed.__iter__" ⟨[a],[]⟩:=by unfold argsOk; kernel_rfl
theorem en_iter:entryFor table "reversed.__iter__"=some Builtin.«dict_keyiterator.__iter__»:=entryFor_alias (id':="dict_keyiterator.__iter__") (by kernel_rfl) (by first | rfl | decide +kernel) (by decide +kernel) (by kernel_rfl)
theorem sl_hint:Slot "reversed" "__length_hint__" "reversed.__length_hint__":=.of (owner:="reversed") (n:="__length_hint__") (by rw [typeLookup_type,builtinLookup_eq_fast]; kernel_rfl) (by decide +kernel) (by decide +kernel) (by decide +kernel) (by first | exact .inl (by decide +kernel) | exact .inr (by decide +kernel)) (by rw [isSubtype_type]; kernel_rfl)
theorem en_hint:entryFor table "reversed.__length_hint__"=some Builtin.«reversed.__length_hint__»:=entryFor_of_tree (by kernel_rfl)
theorem ar_hint (a:Value):argsOk "reversed.__length_hint__" ⟨[a],[]⟩:=by unfold argsOk; kernel_rfl
theorem no_len:typeLookup (.type "reversed") "__len__"=pure none:=by rw [typeLookup_type,builtinLookup_eq_fast]; kernel_rfl
theorem sl_init:Slot "reversed" "__init__" "object.__init__":=.of (owner:="object") (n:="__init__") (by rw [typeLookup_type,builtinLookup_eq_fast]; kernel_rfl) (by decide +kernel) (by decide +kernel) (by decide +kernel) (by first | exact .inl (by decide +kernel) | exact .inr (by decide +kernel)) (by rw [isSubtype_type]; kernel_rfl)
theorem tup_norev:typeLookup (.type "tuple") "__reversed__"=pure none:=by rw [typeLookup_type,builtinLookup_eq_fast]; kernel_rfl
theorem called_rev:TypeCalled "reversed" "reversed.__new__" "object.__init__" :=
 ⟨by decide +kernel,by decide +kernel,⟨_,_,F.mro_reversed⟩,F.made_reversed,by decide +kernel,by rw [isSubtype_type]; kernel_rfl,sl_init⟩
def RvO (h:Heap) (p a:Addr) (i:Int):Prop:=∃ o,h.get? p=some o∧o.cls=.type "reversed"∧o.data=.fields #[.ref a,rawInt i]
theorem RvO.typeIs {s:Shared}{p a:Addr}{i:Int} (x:RvO s.heap p a i):s.TypeIs (.ref p) "reversed":=let ⟨o,ho,hc,_⟩:=x; ⟨o,ho,hc⟩
section
variable {prog:Program}{w:World}{A:Around}{E:Value→Shared→Prop}{s:Shared}
theorem next_item {it a:Addr}{i:Nat}{items:Array Value}{x:Value}{Q:Option Value→Shared→Prop} (hit:RvO s.heap it a (i:Int)) (ht:IsTup s.heap a items) (hx:items[i]?=some x) (hz:items.size≤sizeLine) (hne:a≠it)
  (hQ:∀ h' tk,RvO h' it a ((i:Int) - 1)→Heap.SameBut it s.heap h'→Q (some x) { s with heap:=h',toks:=tk }):wpAny (model prog w) A (pyNext (.ref it)) Q E s:=by
 obtain⟨o,ho,hc,hd⟩:=id hit
 unfold pyNext
 refine wpAny_bind (wpAny_attempt (wpAny_callSpecial?_slot (name:=Str.ofString "__next__") hit.typeIs sl_next (wpAny_call_entry sl_next hit.typeIs en_next ?_ (ar_next _))))
 unfold Builtin.«reversed.__next__»
 refine wpAny_bind (wpAny_of_eq (a:=(Value.ref it,[])) rfl ?_)
 dsimp only
 refine wpAny_bind (wpAny_field ho hd (x:=.ref a) rfl ?_)
 refine wpAny_bind (wpAny_field ho hd (x:=rawInt (i:Int)) rfl ?_)
 show wpAny _ _ (if (i:Int)<0 then _ else _) _ _ s
 rw [if_neg (by lia)]
 refine wpAny_bind (wpAny_specialOf ht.typeIs PyProof.Rows.slot_tuple_getitem.lookup ?_)
 rw [if_neg (by decide)]
 have hi:i<items.size:=(Array.getElem?_eq_some_iff.mp hx).1
 have hl:sizeLine=16777216:=sizeLine_eq
 refine wpAny_bind (wpAny_mkInt ?_)
 refine wpAny_bind (wpAny_attempt (getItem_tuple (j:=i) ht (by lia) (by lia) (by rw [seqIndex_of (by lia) (by lia)]; rfl) hx ?_))
 dsimp only
 refine wpAny_bind (wpAny_field ho hd (x:=rawInt (i:Int)) rfl ?_)
 refine wpAny_bind (wpAny_setField ho hd (by simp) ?_)
 refine wpAny_pure ⟨x,rfl,wpAny_pure (hQ _ _ ?_ (Heap.SameBut.update ..))⟩
 exact⟨_,Heap.get?_update_self _ ho (Obj.isFreed_of_fields (Obj.data_mapFields hd _)),(Obj.cls_mapFields ..).trans hc,by rw [Obj.data_mapFields hd]; simp⟩
theorem next_end {it a:Addr}{Q:Option Value→Shared→Prop} (hh:A.handled=none) (hit:RvO s.heap it a (-1))
  (hQ:∀ h',Heap.ExtBut it s.heap h'→Q none { s with heap:=h' }):wpAny (model prog w) A (pyNext (.ref it)) Q E s:=by
 obtain⟨o,ho,hc,hd⟩:=id hit
 unfold pyNext
 refine wpAny_bind (wpAny_attempt (wpAny_callSpecial?_slot (name:=Str.ofString "__next__") hit.typeIs sl_next (wpAny_call_entry sl_next hit.typeIs en_next ?_ (ar_next _))))
 unfold Builtin.«reversed.__next__»
 refine wpAny_bind (wpAny_of_eq (a:=(Value.ref it,[])) rfl ?_)
 dsimp only
 refine wpAny_bind (wpAny_field ho hd (x:=.ref a) rfl ?_)
 refine wpAny_bind (wpAny_field ho hd (x:=rawInt (-1)) rfl ?_)
 show wpAny _ _ (if (-1:Int)<0 then _ else _) _ _ s
 rw [if_pos (by decide)]
 refine wpAny_bind (wpAny_rule ?_)
 have e1:=Heap.get?_update_self (Obj.mapFields fun vs=>vs.setIfInBounds 1 (rawInt (-1))) ho (Obj.isFreed_of_fields (Obj.data_mapFields hd _))
 refine wpAny_bind (wpAny_bind (wpAny_setField ho hd (by simp) ?_))
 refine wpAny_setField e1 (Obj.data_mapFields hd _) (by simp) ?_
 refine wpAny_bind ?_
 unfold Builtin.SmallTypes.stopIteration
 refine wpAny_bind ?_
 simp only [newExc,newTuple]
 refine wpAny_bind (wpAny_newObj_type ?_ (by size_fits)); refine wpAny_bind (m:=firstArgMember _ _) (wpAny_of_eq (a:=Value.none) (by first | rfl | (simp only [firstArgMember]; rfl)) ?_); refine wpAny_newObj_type ?_ (by size_fits)
 simp only [raiseNew]; refine wpAny_bind (wpAny_handled ?_)
 first | rw [show A.in1.handled=none from hh] | rw [hh]
 refine wpAny_bind (wpAny_pure (wpAny_throw ?_)); refine wpAny_bind (wpAny_isInstance (T:="StopIteration") (b:=true) ⟨_,Heap.get?_push_size _ rfl,rfl⟩ isSubtype_stop (wpAny_pure (hQ _ ?_)))
 intro b ob hb e
 refine Heap.get?_push_of_some _ (Heap.get?_push_of_some _ ?_)
 exact (Heap.get?_update_other _ _ (Ne.symm hb)).trans ((Heap.get?_update_other _ _ (Ne.symm hb)).trans e)
theorem iter_self {it a:Addr}{i:Int}{Q:Value→Shared→Prop} (hit:RvO s.heap it a i) (h:Q (.ref it) s):wpAny (model prog w) A (pyIter (.ref it)) Q E s:=by
 refine wpAny_pyIter_slot hit.typeIs sl_iter (wpAny_call_entry sl_iter hit.typeIs en_iter ?_ (ar_iter _))
 show wpAny _ _ (ret (.ref it)) _ _ s
 exact wpAny_pure ⟨_,rfl,"reversed",_,hit.typeIs,sl_next.lookup,h⟩
theorem RvO.keep {h h':Heap}{p a:Addr}{i:Int} (x:RvO h p a i) (e:∀ o,h.get? p=some o→h'.get? p=some o):RvO h' p a i:=let ⟨o,ho,r⟩:=x; ⟨o,e _ ho,r⟩
theorem tup_keep {h h':Heap}{a:Addr}{items:Array Value} (x:IsTup h a items) (e:∀ o,h.get? a=some o→h'.get? a=some o):IsTup h' a items:=let ⟨o,ho,r⟩:=x; ⟨o,e _ ho,r⟩
end
theorem walks_rev {prog:Program}{w:World}{A:Around} (hh:A.handled=none) (I a:Addr) (hne:a≠I) (items:Array Value) (hz:items.size≤sizeLine) :
  Walks prog w A I [I,a] [I] items.size (fun i v=>items[items.size - 1 - i]?=some v) (fun i h=>i≤items.size∧RvO h I a ((items.size:Int) - 1 - (i:Int))∧IsTup h a items) where
 sub:=fun b hb=>by simp at hb; simp [hb]
 frame:=fun _ _ _ x hk=>⟨x.1,x.2.1.keep fun o e=>hk I (by simp) o e,tup_keep x.2.2 fun o e=>hk a (by simp) o e⟩
 item:=fun i s Q E hi x hQ=>by
  obtain⟨_,hit,ht⟩:=x
  have e:(items.size:Int) - 1 - (i:Int)=((items.size - 1 - i:Nat):Int):=by lia
  rw [e] at hit
  have hx:items[items.size - 1 - i]?=some (items[items.size - 1 - i]'(by lia)):=Array.getElem?_eq_getElem (by lia)
  refine next_item hit ht hx hz hne fun h' tk hit' hs'=>hQ _ h' tk hx ⟨by lia,?_,tup_keep ht fun o eo=>(hs'.2 a hne).trans eo⟩ fun b o hb eo=>hs'.extBut b o (fun z=>hb (by simp [z])) eo
  have e2:((items.size - 1 - i:Nat):Int) - 1=(items.size:Int) - 1 - ((i+1:Nat):Int):=by lia
  rw [← e2]
  exact hit'
 done:=fun s Q E x hQ=>by
  obtain⟨_,hit,ht⟩:=x
  have e:(items.size:Int) - 1 - (items.size:Int)=-1:=by lia
  rw [e] at hit
  exact next_end hh hit fun h' he'=>hQ h' s.toks fun b o hb eo=>he' b o (fun z=>hb (by simp [z])) eo
 self:=fun _ _ _ _ x hQ=>iter_self x.2.1 hQ
section
variable {prog:Program}{w:World}{A:Around}{E:Value→Shared→Prop}{s:Shared}
theorem asInt_int (k:Int) (u:Tok):asInt? (.int k u)=pure (some k):=rfl
theorem call_hint {it a:Addr}{items:Array Value}{Q:Value→Shared→Prop} (hit:RvO s.heap it a ((items.size:Int) - 1)) (ht:IsTup s.heap a items) (hz:items.size≤sizeLine)
  (hQ:∀ t tk,s.toks≤tk→Q (.int (items.size:Int) t) { s with toks:=tk }):wpAny (model prog w) A (call (.builtin "reversed.__length_hint__") [.ref it]) Q E s:=by
 obtain⟨o,ho,hc,hd⟩:=id hit
 have hl:sizeLine=16777216:=sizeLine_eq
 refine wpAny_call_entry sl_hint hit.typeIs en_hint ?_ (ar_hint _)
 unfold Builtin.«reversed.__length_hint__»
 refine wpAny_bind (wpAny_of_eq (a:=Value.ref it) rfl ?_)
 refine wpAny_bind (wpAny_field ho hd (x:=.ref a) rfl ?_)
 rw [if_neg (show ¬ ((Value.ref a == Value.none)=true) from Bool.false_ne_true)]
 refine wpAny_bind (len_tuple ht (by lia) ?_)
 refine wpAny_bind (m:=asInt? (.int (items.size:Int) (s.toks+1))) (wpAny_pure ?_)
 dsimp only
 refine wpAny_bind (wpAny_field ho hd (x:=rawInt ((items.size:Int) - 1)) rfl ?_)
 show wpAny _ _ (if (items.size:Int)<((items.size:Int) - 1)+1 then _ else retInt (((items.size:Int) - 1)+1)) _ _ _
 rw [if_neg (by lia),show ((items.size:Int) - 1)+1=(items.size:Int) by lia]
 unfold retInt
 refine wpAny_bind (wpAny_mkInt (wpAny_pure ⟨_,rfl,hQ _ _ ?_⟩))
 show s.toks≤s.toks+1+1+1
 lia
theorem rev_extend {it a S:Addr}{items:Array Value}{c₀:Nat}{R:Result→Shared→Prop} (hh:A.handled=none) (hit:RvO s.heap it a ((items.size:Int) - 1)) (ht:IsTup s.heap a items) (hz:items.size≤sizeLine)
  (hai:a≠it) (hSi:S≠it) (hSa:S≠a) (hS:s.heap.get? S=some { cls:=.type "list",data:=.seq #[] c₀ })
  (hR:∀ h' tk acc' c',(∀ b o,b≠S→b≠it→s.heap.get? b=some o→h'.get? b=some o)→h'.get? S=some { cls:=.type "list",dict:=none,data:=.seq acc' c',slots:=#[] } →
   ItemsOf (fun i v=>items[items.size - 1 - i]?=some v) acc' items.size→R (.ok (.ret .none)) { s with heap:=h',toks:=tk }) :
  wpAny (model prog w) A.in1 (Builtin.List.listExtendWith (.ref S) (.ref it) .none)
   (fun fin s'=>match fin with | .done f=>R (.ok f) s' | .again c'=>c'.quiet=true∧codeAny (model prog w) A c' R s') (fun e s'=>R (.error e) s') s:=by
 have hl:sizeLine=16777216:=sizeLine_eq
 have h1:Builtin.List.listSameRef (.ref S) (.ref it)=false:=by simp [Builtin.List.listSameRef,hSi]
 unfold Builtin.List.listExtendWith
 refine wpAny_bind (wpAny_typeOf hit.typeIs ?_)
 rw [if_neg (by rw [h1]; decide)]
 refine wpAny_bind (iter_self hit ?_)
 refine wpAny_bind (wpAny_holding ?_)
 unfold Builtin.List.listLengthHint
 refine wpAny_bind (wpAny_specialOf hit.typeIs no_len ?_)
 show wpAny _ A.in1 (specialOf (Value.ref it) (Str.ofString "__length_hint__") >>= _) _ _ _
 refine wpAny_bind (wpAny_specialOf hit.typeIs sl_hint.lookup ?_)
 (generalize hid:("reversed.__length_hint__":String)=id0; (fail_if_success (clear hid id0)); wp_delta; rw [show splitId id0=some ("reversed","__length_hint__") from by subst hid; decide +kernel]; subst hid)
 refine wpAny_bind (wpAny_isInstance (b:=true) hit.typeIs (by rw [isSubtype_type]; kernel_rfl) ?_)
 rw [if_neg (by decide)]
 dsimp only
 rw [if_neg (by decide)]
 refine wpAny_bind (wpAny_rule ?_)
 refine wpAny_bind (wpAny_of_eq (sl_hint.bind _) ?_)
 dsimp only
 refine wpAny_bind (wpAny_attempt (call_hint hit ht hz fun t tk htk=>?_))
 dsimp only
 rw [asInt_int,pure_bind]
 dsimp only
 have hf:Builtin.List.listFitsIndex (items.size:Int)=true:=by
  unfold Builtin.List.listFitsIndex
  simp only [Bool.and_eq_true,decide_eq_true_eq]
  lia
 have htl:Builtin.List.listTooLong (Int.toNat (items.size:Int))=false:=by
  rw [Int.toNat_natCast]
  exact notLongL hz
 rw [if_neg (by rw [hf]; decide),if_neg (by lia),if_neg (by rw [htl]; decide)]
 refine wpAny_pure ?_
 have hSf:S ∉ [it,a]:=by simp [hSi,hSa]
 have W:=walks_rev (prog:=prog) (w:=w) (A:=A.in1) hh it a hai items hz
 have loop:∀ (s2:Shared) (c₂:Nat),(∀ b o,b≠S→s.heap.get? b=some o→s2.heap.get? b=some o)→s2.heap.get? S=some { cls:=.type "list",data:=.seq #[] c₂ }→s2.gens=s.gens→s2.drawn=s.drawn→s2.os=s.os →
   codeAny (model prog w) A (.builtin "list.extend.loop" ⟨[.ref S,.ref it,.none],[]⟩) R s2:=fun s2 c₂ hk hS2 g1 g2 g3=>by
  have st:0≤items.size∧RvO s2.heap it a ((items.size:Int) - 1 - ((0:Nat):Int))∧IsTup s2.heap a items:=by
   refine⟨Nat.zero_le _,?_,tup_keep ht fun o e=>hk a o (Ne.symm hSa) e⟩
   have:(items.size:Int) - 1 - ((0:Nat):Int)=(items.size:Int) - 1:=by lia
   rw [this]
   exact hit.keep fun o e=>hk it o (Ne.symm hSi) e
  refine codeAny_extend_loopS W.toS hz S hSf .none items.size 0 s2 #[] c₂ rfl (Nat.zero_le _) st hS2 (ItemsOf.nil _) fun s' acc' c' hm hS' hacc=>?_
  have hs':=Moved.eq_with hm
  rw [g1,g2,g3] at hs'
  rw [hs']
  exact hR s'.heap s'.toks acc' c' (fun b o hbS hbi e=>hm.heap b o (by simp [hbS,hbi]) (hk b o hbS e)) hS' hacc
 split
 ·refine wpAny_bind (wpAny_rule ?_)
  unfold Builtin.List.listTouch
  have e1:=Heap.get?_update_self (Obj.mapSeq (·.push Value.none)) hS rfl
  have e2:=Heap.get?_update_self (Obj.mapSeq (·.pop)) e1 rfl
  refine wpAny_bind (wpAny_bind (m:=Builtin.List.listUpdate (.ref S) (·.push Value.none)) (wpAny_updateSeq hS rfl ?_ (hz:=Nat.zero_le _) (_hz':=Nat.succ_le_succ (Nat.zero_le _))))
  refine wpAny_updateSeq e1 rfl ?_ (hz:=(by show 1≤sizeLine; decide)) (_hz':=Nat.zero_le _)
  refine wpAny_pure ⟨plainId_quiet F.plain_extend_loop _,loop _ _ (fun b o hb e=>?_) (by simpa [Obj.mapSeq] using e2) rfl rfl rfl⟩
  exact (Heap.get?_update_other _ _ (Ne.symm hb)).trans ((Heap.get?_update_other _ _ (Ne.symm hb)).trans e)
 ·exact wpAny_pure ⟨plainId_quiet F.plain_extend_loop _,loop _ c₀ (fun b o _ e=>e) hS rfl rfl rfl⟩
theorem call_list_rev {it a:Addr}{items:Array Value}{Q:Value→Shared→Prop} (hh:A.handled=none) (hit:RvO s.heap it a ((items.size:Int) - 1)) (ht:IsTup s.heap a items) (hz:items.size≤sizeLine) (hai:a≠it)
  (hQ:∀ h' tk acc' c',(∀ b o,b≠it→s.heap.get? b=some o→h'.get? b=some o)→h'.get? s.heap.objs.size=some { cls:=.type "list",dict:=none,data:=.seq acc' c',slots:=#[] } →
   acc'.toList=items.toList.reverse→Q (.ref s.heap.objs.size) { s with heap:=h',toks:=tk }):wpAny (model prog w) A (call (.type "list") [.ref it]) Q E s:=by
 have lit:it<s.heap.objs.size:=let ⟨_,ho,_⟩:=hit; Heap.lt_size ho
 have la:a<s.heap.objs.size:=let ⟨_,ho,_⟩:=ht; Heap.lt_size ho
 refine callType_codes (Q₁:=fun obj s₁=>obj=.ref s.heap.objs.size∧s₁={ s with heap:=s.heap.push { cls:=.type "list",data:=.seq #[] } }) F.called_list (F.typeCall_list_1 _) F.entry_list_init (code_list_new _ ⟨rfl,rfl⟩) fun obj s1 h1=>?_
 obtain⟨e1,e2⟩:=h1
 subst e1 e2
 have hS:(s.heap.push { cls:=.type "list",data:=.seq #[] }).get? s.heap.objs.size=some { cls:=.type "list",data:=.seq #[] }:=Heap.get?_push_size _ rfl
 refine⟨⟨_,hS,rfl⟩,F.args_list_init_2 _ _,?_⟩
 show wpAny _ _ (Builtin.List.listItems (.ref s.heap.objs.size) >>= fun old=>Builtin.List.listUpdate (.ref s.heap.objs.size) (fun _=>#[]) >>= fun _=>letGo old.toList.reverse >>= fun _=>Builtin.List.listExtendWith (.ref s.heap.objs.size) (.ref it) .none) _ _ _
 refine wpAny_bind ?_
 unfold Builtin.List.listItems
 refine wpAny_bind (wpAny_seqItems hS rfl (wpAny_pure ?_))
 refine wpAny_bind (m:=Builtin.List.listUpdate (.ref s.heap.objs.size) (fun _=>#[])) (wpAny_updateSeq hS rfl ?_)
 have hS2:=Heap.get?_update_self (Obj.mapSeq (fun _=>(#[]:Array Value))) hS rfl
 have oth:∀ b o,b≠s.heap.objs.size→s.heap.get? b=some o→((s.heap.push { cls:=.type "list",data:=.seq #[] }).update s.heap.objs.size (Obj.mapSeq (fun _=>(#[]:Array Value)))).get? b=some o :=
  fun b o hb e=>(Heap.get?_update_other _ _ (Ne.symm hb)).trans (Heap.get?_push_of_some _ e)
 refine wpAny_bind (wpAny_letGo ?_)
 refine rev_extend (A:=A.in1) hh (hit.keep fun o e=>oth it o (Nat.ne_of_lt lit) e) (tup_keep ht fun o e=>oth a o (Nat.ne_of_lt la) e) hz hai (Nat.ne_of_gt lit) (Nat.ne_of_gt la) hS2 fun h' tk acc' c' hk hS' hacc=>?_
 refine⟨rfl,hQ h' tk acc' c' (fun b o hb e=>hk b o (Nat.ne_of_lt (Heap.lt_size e)) hb (oth b o (Nat.ne_of_lt (Heap.lt_size e)) e)) hS' ?_⟩
 obtain⟨hsz,hat⟩:=hacc
 refine List.ext_getElem? fun i=>?_
 by_cases hi:i<items.size
 ·have h1:=hat i (acc'[i]'(by lia)) (Array.getElem?_eq_getElem (by lia))
  rw [List.getElem?_reverse (by rw [Array.length_toList]; exact hi),Array.length_toList,Array.getElem?_toList,Array.getElem?_toList,h1,Array.getElem?_eq_getElem (by lia)]
 ·rw [List.getElem?_eq_none (by rw [Array.length_toList]; lia),List.getElem?_eq_none (by rw [List.length_reverse,Array.length_toList]; lia)]
end
section
variable {prog:Program}{w:World}{A:Around}{E:Value→Shared→Prop}{s:Shared}
theorem rev_new_meets (a:Addr) (items:Array Value) (n:Nat) (dd:Option Addr) (sl:Array (Option Value)) (hz:items.size≤sizeLine) :
  Meets (Builtin.«reversed.__new__» ⟨[.type "reversed",.ref a],[]⟩) (fun _ R s=>s.heap.get? a=some { cls:=.type "tuple",dict:=dd,data:=.seq items n,slots:=sl } ∧
   ∀ tk,R (.ok (.ret (.ref s.heap.objs.size))) { s with heap:=s.heap.push { cls:=.type "reversed",data:=.fields #[.ref a,rawInt ((items.size:Int) - 1)] },toks:=tk }) :=
 .of_wp fun prog w A R s h=>by
  obtain⟨ht,h⟩:=h
  have hl:sizeLine=16777216:=sizeLine_eq
  have hT:s.TypeIs (.ref a) "tuple":=⟨_,ht,rfl⟩
  have hI:IsTup s.heap a items:=⟨_,ht,rfl,n,rfl⟩
  unfold Builtin.«reversed.__new__»
  refine wpAny_bind (wpAny_of_eq (newClass_reversed _) ?_)
  dsimp only
  refine wpAny_bind (wpAny_of_eq (a:=()) (by first | rfl | kernel_rfl) ?_); refine wpAny_bind (wpAny_of_eq (a:=()) (by first | rfl | kernel_rfl) ?_)
  refine wpAny_bind (wpAny_specialOf hT tup_norev ?_)
  dsimp only
  refine wpAny_bind ?_
  refine wpAny_bind (wpAny_isInstance (b:=false) hT (by rw [isSubtype_type]; kernel_rfl) ?_)
  rw [if_neg (by decide)]
  refine wpAny_bind (wpAny_specialOf hT PyProof.Rows.slot_tuple_getitem.lookup ?_)
  dsimp only
  rw [if_pos (by decide)]
  refine wpAny_pure ?_
  rw [if_neg (by decide)]
  refine wpAny_bind (len_tuple hI (by lia) ?_)
  rw [asInt_int,pure_bind]
  dsimp only
  show wpAny _ _ (newObj (.type "reversed") (.fields #[.ref a,rawInt ((items.size:Int) - 1)]) >>= _) _ _ _
  refine wpAny_bind (wpAny_newObj_type ?_)
  exact wpAny_pure ⟨_,rfl,h _⟩
theorem call_rev {a:Addr}{items:Array Value}{Q:Value→Shared→Prop} (ht:IsTup s.heap a items) (hz:items.size≤sizeLine)
  (h:∀ tk,Q (.ref s.heap.objs.size) { s with heap:=s.heap.push { cls:=.type "reversed",data:=.fields #[.ref a,rawInt ((items.size:Int) - 1)] },toks:=tk }):wpAny (model prog w) A (call (.type "reversed") [.ref a]) Q E s:=by
 obtain⟨⟨c,d,dt,sl⟩,ho,hc,n,hd⟩:=id ht
 simp only at hc hd
 subst hc hd
 refine callType_new called_rev (by decide) (F.typeCall_reversed_1 _) (F.newCall_reversed_1 _) (fun obj=>F.args_object_init_2 obj _) F.entry_reversed_new (rev_new_meets a items n d sl hz) ⟨ho,fun tk=>?_⟩
 exact⟨⟨_,Heap.get?_push_size _ rfl,rfl⟩,h tk⟩
end
theorem bt_reversed:bootBuiltins "reversed"=some (.type "reversed"):=by decide +kernel
theorem bt_list':bootBuiltins "list"=some (.type "list"):=by decide +kernel
def tLR (K:PySem.W.Frag) (te:TE):TE:=fun σ H Q=>te σ H fun x H1=>∃ a ys,x=.ref a∧SqT K H1 a ys∧∀ l,H1 l=none→Q (.ref l) (upd H1 l (.lst ys.reverse))
theorem pe_listRev {X:Cx}{e:Expr}{te:TE}{p1 p2 pos pos2:Pos} (hgl:Gl X "list") (hgr:Gl X "reversed") (ml:X.mg "list"=none) (mr:X.mg "reversed"=none) (hc:X.calm=true) (he:PE X e te)
  (hs1:starEach [.Call (.Name "reversed" p2) [e] [] pos2] X.env=[(false,eval (.Call (.Name "reversed" p2) [e] [] pos2) X.env)]:=by rfl) (hs2:starEach [e] X.env=[(false,eval e X.env)]:=by rfl) :
  PE X (.Call (.Name "list" p1) [.Call (.Name "reversed" p2) [e] [] pos2] [] pos) (tLR X.K te):=by
 intro pins s σ H Q I h
 refine wpAny_Call_Name_kw (ld_blt I hgl ml bt_list' ?_)
 refine PyProof.Rows.callWith_type1 ?_ (by rw [hs1]; rfl) (by rfl)
 rw [hs1]
 refine Calls.spliced_cons ?_
 refine wpAny_Call_Name_kw (ld_blt I hgr mr bt_reversed ?_)
 refine PyProof.Rows.callWith_type1 ?_ (by rw [hs2]; rfl) (by rfl)
 rw [hs2]
 refine Calls.spliced_cons (thn (he pins s σ H _ I h) fun v s1 ⟨x,H1,I1,r1,q1⟩=>Calls.spliced_nil ?_)
 obtain⟨a,ys,e1,hq,q⟩:=q1
 subst e1
 cases r1
 obtain⟨its,rv,ht,hz⟩:=I1.tuple hq
 have hlen:=rv.length
 have hz':its.toArray.size≤sizeLine:=by rw [List.size_toArray]; lia
 refine call_rev ht hz' fun tk=>Calls.spliced_nil ?_
 generalize hs2':({ s1 with heap:=s1.heap.push { cls:=.type "reversed",data:=.fields #[.ref a,rawInt ((its.toArray.size:Int) - 1)] },toks:=tk }:Shared)=s2
 have I2:Inv X pins σ H1 s2:=by rw [← hs2']; exact I1.kept fun b o e=>Heap.get?_push_of_some _ e
 have la:a<s1.heap.objs.size:=let ⟨_,ho,_⟩:=ht; Heap.lt_size ho
 have sz2:s2.heap.objs.size=s1.heap.objs.size+1:=by rw [← hs2']; exact Heap.size_push ..
 have hit:RvO s2.heap s1.heap.objs.size a ((its.toArray.size:Int) - 1):=by rw [← hs2']; exact⟨_,Heap.get?_push_size _ rfl,rfl,rfl⟩
 have ht2:IsTup s2.heap a its.toArray:=by rw [← hs2']; exact ht.push _
 have fp:FpOk X pins H1 s1.heap.objs.size:=I1.fpOk (Nat.le_refl _) (I1.hok.fresh (Nat.le_refl _))
 refine call_list_rev (I2.ok.hd hc) hit ht2 hz' (Nat.ne_of_lt la) fun h' tk' acc' c' hk hS' hacc=>?_
 have hfree:H1 s2.heap.objs.size=none:=I2.hok.fresh (Nat.le_refl _)
 have hp0:H1 s1.heap.objs.size=none:=fp.1
 have oks:ObjOk X.prog X.w (upd H1 s2.heap.objs.size (.lst ys.reverse)) h' s2.heap.objs.size (.lst ys.reverse):=by
  refine⟨by rw [List.length_reverse]; exact hz,its.reverse,c',rv.reverse,?_⟩
  rw [hS',show acc'=its.reverse.toArray from Array.toList_inj.mp (by simpa using hacc)]
 have nS:∀ b o,s2.heap.get? b=some o→b≠s2.heap.objs.size:=fun b o e=>Nat.ne_of_lt (Heap.lt_size e)
 have np:∀ b u,H1 b=some u→b≠s1.heap.objs.size:=fun b u e=>ne_of_none e hp0
 have nh:∀ b u,H1 b=some u→upd H1 s2.heap.objs.size (.lst ys.reverse) b=some u:=fun b u e=>by rw [upd_ne (ne_of_none e hfree)]; exact e
 have hok:HOk X.prog X.w (upd H1 s2.heap.objs.size (.lst ys.reverse)) h':=fun b u e=>by
  by_cases hb:b=s2.heap.objs.size
  ·subst hb
   rw [upd_same] at e
   cases e
   exact oks
  ·rw [upd_ne hb] at e
   refine (I2.hok b u e).stay (fun c v hc' q'=>hk c v ?_ q') (fun x q'=>nh _ _ q') fun c v q'=>nh _ _ q'
   rcases hc' with z | z
   ·rw [z]; exact np b u e
   ·exact np c _ z
 have I3:Inv X pins σ (upd H1 s2.heap.objs.size (.lst ys.reverse)) { s2 with heap:=h',toks:=tk' }:=by
  refine I2.step (g':=s2.gens) (d':=s2.drawn) (t':=tk') (ch:=[s1.heap.objs.size]) (fun b hb=>?_) (fun b o _ _ hb e _=>hk b o (fun z=>hb (by simp [z])) e) (fun b o _ _ hb e _=>⟨o.slots,hk b o (fun z=>hb (by simp [z])) e⟩)
   (fun b o _ e n=>by rw [upd_ne (nS b o e)]; exact n) (fun b o hb e=>⟨o,hk b o (fun z=>hb (by simp [z])) e⟩) (fun b xs e=>nh _ _ e) (fun b o u e=>nh _ _ e) (fun b ps e=>⟨#[],by rw [nh _ _ e]; simp⟩) (fun m hm=>?_) hok I2.bare
  ·have e:b=s1.heap.objs.size:=by simpa using hb
   subst e
   exact⟨fp.2.2.2.1,fp.2.1,fp.2.2.2.2.1,fp.2.2.2.2.2⟩
  ·obtain⟨o,es,ep,ho,r⟩:=hm
   exact⟨o,es,ep,hk _ o (Ne.symm fp.2.1) ho,r⟩
 exact⟨.ref s2.heap.objs.size,_,I3,rfl,q _ hfree⟩
end SwR
namespace Sw
open PySem PySem.Spec PyProof.Rows L2
def tx (l:List Nat):Str:=⟨l.toArray⟩
theorem tx_append (a b:List Nat):tx a++tx b=tx (a++b):=by
 show Str.mk (a.toArray++b.toArray)=Str.mk (a++b).toArray
 simp
theorem tx_len (a:List Nat):(tx a).length=a.length:=rfl
theorem tx_inj {a b:List Nat}:tx a=tx b↔a=b:=by
 constructor
 ·intro h
  have h1:a.toArray=b.toArray:=congrArg Str.cps h
  simpa using congrArg Array.toList h1
 ·intro h
  rw [h]
theorem tx_lp:Str.ofString "("=tx [40]:=by decide +kernel
theorem tx_rp:Str.ofString ")"=tx [41]:=by decide +kernel
theorem tx_nil:Str.ofString ""=tx []:=by decide +kernel
theorem tx_leaf:Str.ofString "()"=tx [40,41]:=by decide +kernel
theorem dec_tx (a b:List Nat):decide (V.str (tx a)=V.str (tx b))=decide (a=b):=by
 by_cases h:a=b
 ·subst h; simp
 ·rw [decide_eq_false h,decide_eq_false]
  intro e
  exact h (tx_inj.mp (V.str.inj e))
theorem strsAre_of:∀ {ss:List Str}{us:List Value},Vals (ss.map V.str) us→StrsAre us ss
 | [],us,r=>by rw [List.map_nil] at r; cases r; exact .nil
 | z::ss,us,r=>by
  rw [List.map_cons] at r
  cases r with
  | cons r1 r2 =>
   obtain⟨t,rfl⟩:=r1
   exact .cons z t (strsAre_of r2)
theorem join_tx (ls:List (List Nat)):Txt.join (tx []) (ls.map tx)=tx ls.flatten:=by
 have key:∀ (ls:List (List Nat)) (acc:List Nat),(ls.map tx).foldl (fun acc p=>acc++(tx []).cps++p.cps) acc.toArray=(acc++ls.flatten).toArray:=by
  intro ls
  induction ls with
  | nil=>intro acc; simp
  | cons l ls ih =>
   intro acc
   rw [List.map_cons,List.foldl_cons]
   have e:acc.toArray++(tx []).cps++(tx l).cps=(acc++l).toArray:=by simp [tx]
   rw [e,ih,List.flatten_cons,List.append_assoc]
 show Str.mk _=_
 cases ls with
 | nil=>rfl
 | cons l ls =>
  have:=key ls l
  show Str.mk (((l::ls).map tx).drop 1 |>.foldl (fun acc p=>acc++(tx []).cps++p.cps) (((l::ls).map tx).headD Str.empty).cps)=tx (l::ls).flatten
  rw [List.map_cons,List.drop_one,List.tail_cons,List.headD_cons,List.flatten_cons]
  exact congrArg Str.mk this
section
variable {X:Cx}
def rJoin (K:PySem.W.Frag):V→List V→Hp→VK→Prop:=fun x vs H Q=>∃ (l:Addr) (ls:List (List Nat)),x=.str (tx [])∧vs=[.ref l]∧SqL K H l (ls.map fun c=>V.str (tx c))∧ls.flatten.length≤16777216∧Q (.str (tx ls.flatten)) H
theorem sum_len:∀ ls:List (List Nat),((ls.map tx).map (·.length)).sum=ls.flatten.length
 | []=>rfl
 | l::ls=>by rw [List.map_cons,List.map_cons,List.sum_cons,sum_len ls,List.flatten_cons,List.length_append,tx_len]
theorem mt_join:MtM X "str.join" (rJoin X.K):=by
 intro pins s σ H x vs v us Q I rx rv h
 obtain⟨l,ls,rfl,rfl,hq,hz,q⟩:=h
 obtain⟨t,rfl⟩:=rx
 obtain⟨u,rfl,ru⟩:=rv.one
 cases ru
 obtain⟨its,r,pl,_⟩:=I.list hq
 have hs:StrsAre its (ls.map tx):=strsAre_of (by rw [List.map_map]; exact r)
 refine join_list (ys:=ls.map tx) pl.isList (by simpa using hs) ?_ fun t' k=>?_
 ·rw [sum_len,tx_len]
  simp only [List.length_nil,Nat.mul_zero,Nat.add_zero]
  exact hz
 ·rw [join_tx]
  exact⟨.str (tx ls.flatten),H,I.tok _,⟨_,rfl⟩,q⟩
def Its (z:Str):It:=⟨fun i _=>i<z.cps.size,fun i H v H'=>H'=H∧∃ c,z.cps[i]?=some c∧v=.str (tx [c]),fun i _=>z.cps.size≤i⟩
theorem turn_str {P:Program}{w:World}{K:PySem.W.Frag}{x:Str}{px:Pos}{ty:String} (hty:ty="str_ascii_iterator"∨ty="str_iterator") (z:Str) (t:Tok) (it:Addr) :
  Turn P w K (.Name x px) (Its z) [it] it (fun i h=>h.IsStrIter it ty z t i) where
 mem:=by simp
 obj:=fun i h st b hb=>by
  have e:b=it:=by simpa using hb
  subst e
  obtain⟨o,e,c,d⟩:=st
  exact⟨o,e,fun v z=>by rw [d] at z; cases z⟩
 keep:=fun i h h' st k=>by
  obtain⟨o,e,r⟩:=st
  exact⟨o,k it (by simp) o e,r⟩
 item:=by
  intro X hP hw hK hc i pins s σ H E I hf st hg
  subst hP hw hK
  obtain⟨f0,f1,f2,f3,f4,f5⟩:=hf it (by simp)
  have hi:z.cps[i]?=some (z.cps[i]'hg):=Array.getElem?_eq_getElem hg
  rcases hty with rfl | rfl
  ·refine wpAny_pyNext_ascii_item st hi fun h' st' sb=>?_
   exact⟨_,rfl,wpAny_pure ⟨.str (tx [z.cps[i]'hg]),H,I.turned (fun b o hb e=>(sb.2 b hb).trans e) f0 f1 f3 f4 f5,⟨_,rfl⟩,⟨rfl,_,hi,rfl⟩,st',fun b hb=>(hf b hb).1⟩⟩
  ·refine wpAny_pyNext_wide_item st hi fun h' st' sb=>?_
   exact⟨_,rfl,wpAny_pure ⟨.str (tx [z.cps[i]'hg]),H,I.turned (fun b o hb e=>(sb.2 b hb).trans e) f0 f1 f3 f4 f5,⟨_,rfl⟩,⟨rfl,_,hi,rfl⟩,st',fun b hb=>(hf b hb).1⟩⟩
 done:=by
  intro X hP hw hK hc i pins s σ H E I hf st hg
  subst hP hw hK
  obtain⟨f0,f1,f2,f3,f4,f5⟩:=hf it (by simp)
  have hi:z.cps[i]?=none:=Array.getElem?_eq_none hg
  rcases hty with rfl | rfl
  ·exact wpAny_pyNext_ascii_end (I.ok.hd hc) st hi fun h' eb=>⟨rfl,I.turned (t':=s.toks) (fun b o hb e=>eb b o hb e) f0 f1 f3 f4 f5⟩
  ·exact wpAny_pyNext_wide_end (I.ok.hd hc) st hi fun h' eb=>⟨rfl,I.turned (t':=s.toks) (fun b o hb e=>eb b o hb e) f0 f1 f3 f4 f5⟩
 self:=fun _ _ _ _ _ st h=>by
  rcases hty with rfl | rfl
  ·exact wpAny_pyIter_striter_ascii st h
  ·exact wpAny_pyIter_striter_wide st h
def iStr (tl:TE):TI:=fun σ H R=>tl σ H fun x H1=>∃ z,x=.str z∧R (Its z) H1
theorem pi_str {x:Str}{px:Pos}{l:Expr}{tl:TE} (hl:PE X l tl):PI X (.Name x px) l (iStr tl):=by
 intro pins s σ H R I h
 refine thn (hl pins s σ H _ I h) fun v s1 ⟨y,H1,I1,r1,q1⟩=>?_
 obtain⟨z,rfl,q⟩:=q1
 obtain⟨t,rfl⟩:=r1
 have fp:∀ b∈[s1.heap.objs.size],FpOk X pins H1 b:=fun b hb=>by
  have e:b=s1.heap.objs.size:=by simpa using hb
  subst e
  exact I1.fpOk (Nat.le_refl _) (I1.hok.fresh (Nat.le_refl _))
 cases ha:z.cps.all (·<128)
 ·refine wpAny_pyIter_wide ha ?_
  exact⟨s1.heap.objs.size,[s1.heap.objs.size],_,_,H1,rfl,I1.kept (t':=s1.toks) fun b o e=>Heap.get?_push_of_some _ e,turn_str (.inr rfl) z t _,⟨_,Heap.get?_push_size _ rfl,rfl,rfl⟩,fp,q⟩
 ·refine wpAny_pyIter_ascii ha ?_
  exact⟨s1.heap.objs.size,[s1.heap.objs.size],_,_,H1,rfl,I1.kept (t':=s1.toks) fun b o e=>Heap.get?_push_of_some _ e,turn_str (.inl rfl) z t _,⟨_,Heap.get?_push_size _ rfl,rfl,rfl⟩,fp,q⟩
theorem for_str {l:List Nat}{g:TG}{tb:TS}{D:Ends}{σ:Sg}{H:Hp} (Pv:Nat→Sg→Hp→Prop) (h0:Pv 0 σ H)
  (hs:∀ i c σ H,l[i]?=some c→Pv i σ H→g (.str (tx [c])) σ H fun σ2 H2=>tb { D with nx:=Pv (i+1),ct:=Pv (i+1),bk:=D.nx } σ2 H2) (hd:∀ σ H,Pv l.length σ H→D.nx σ H) :
  ∃ W:Nat→Nat→Sg→Hp→Prop,(∃ m,W 0 m σ H)∧∀ i m σ H,W i m σ H →
   ((Its (tx l)).stop i H∧D.nx σ H)∨((Its (tx l)).go i H∧∃ N:Sg→Hp→Prop,(∀ σ' H',N σ' H'→∃ m',m'<m∧W (i+1) m' σ' H')∧∀ x H',(Its (tx l)).yld i H x H'→g x σ H' fun σ2 H2=>tb { D with nx:=N,ct:=N,bk:=D.nx } σ2 H2):=by
 refine⟨fun i m σ H=>m=l.length - i∧i≤l.length∧Pv i σ H,⟨l.length,by simp,Nat.zero_le _,h0⟩,?_⟩
 rintro i m σ H ⟨rfl,hi,p⟩
 have sz:(tx l).cps.size=l.length:=by simp [tx]
 by_cases hlt:i<l.length
 ·refine .inr ⟨by show i<(tx l).cps.size; lia,Pv (i+1),fun σ' H' p'=>⟨l.length - (i+1),by lia,rfl,hlt,p'⟩,fun x H' y=>?_⟩
  obtain⟨e,c,hc,rfl⟩:=y
  subst e
  exact hs i c σ _ (by simpa [tx] using hc) p
 ·have e:i=l.length:=by lia
  subst e
  exact .inl ⟨by show (tx l).cps.size≤l.length; lia,hd σ H p⟩
theorem eq_items {pins:List (Addr×Obj)}{σ:Sg}{H:Hp}{s:Shared} (I:Inv X pins σ H s) {ts us:List T}{xs ys:List V}{its its2:List Value} (q2:TRs X.K H ts xs) (r2:TRs X.K H us ys) (rv:Vals xs its) (rv2:Vals ys its2) {n:Nat}{A:Around}
  (hd:T.deepL ts≤n+1) (hu:A.units+n<cLine):∀ j (h1:j<its.toArray.size) (h2:j<its2.toArray.size),SeqAt.EqAt A s its.toArray[j] its2.toArray[j] (eqsAt ts us j):=by
 intro j j1 j2
 have l1:=rv.length
 have l2:=rv2.length
 have j1':j<xs.length:=by rw [l1]; simpa using j1
 have j2':j<ys.length:=by rw [l2]; simpa using j2
 obtain⟨u1,hu1,ru1⟩:=rv.get (List.getElem?_eq_getElem j1')
 obtain⟨u2,hu2,ru2⟩:=rv2.get (List.getElem?_eq_getElem j2')
 obtain⟨t1,ht1,tr1⟩:=q2.get (List.getElem?_eq_getElem j1')
 obtain⟨t2,ht2',tr2⟩:=r2.get (List.getElem?_eq_getElem j2')
 have ee:eqsAt ts us j=T.beq t1 t2:=by unfold eqsAt; rw [ht1,ht2']
 have g1:its.toArray[j]=u1:=by
  have:its[j]?=some u1:=hu1
  rw [List.getElem?_eq_some_iff] at this
  obtain⟨_,e⟩:=this
  simpa using e
 have g2:its2.toArray[j]=u2:=by
  have:its2[j]?=some u2:=hu2
  rw [List.getElem?_eq_some_iff] at this
  obtain⟨_,e⟩:=this
  simpa using e
 rw [ee,g1,g2]
 obtain⟨a1,zs1,e1,_⟩:=TR_of tr1
 obtain⟨a2,zs2,e2,_⟩:=TR_of tr2
 rw [e1] at ru1 tr1
 rw [e2] at ru2 tr2
 obtain rfl:u1=Value.ref a1:=ru1
 obtain rfl:u2=Value.ref a2:=ru2
 by_cases hne:a1=a2
 ·subst hne
  have et:t1=t2:=(tr_inj I t1.parts).1 t1 t2 _ (Nat.le_refl _) tr1 tr2
  rw [et,T.beq_self]
  exact SeqAt.EqAt.same _
 ·have hd1:t1.deep≤n:=by
   have:=T.mem_deep (List.mem_of_getElem? ht1)
   lia
  exact SeqAt.EqAt.of_refs hne (rc_tree I n t1 t2 A a1 a2 hd1 tr1 tr2 hu)
def rNeTr (K:PySem.W.Frag) (n:Nat):R2:=fun x y H Q=>∃ t u,TR K H t x∧TR K H u y∧t.deep≤n∧Q (.bl (!T.beq t u)) H
theorem op_neTr {n:Nat} (hu:X.A.units+n+1<cLine):OpR X (compareOp .NotEq) (rNeTr X.K n):=by
 intro pins s σ H x y v u Q I rx ry h
 obtain⟨t,t',h1,h2,hd,q⟩:=h
 cases t with
 | node ts =>
  cases t' with
  | node us =>
   obtain⟨a,xs,rfl,q1,q2⟩:=TR_node.mp h1
   obtain⟨b,ys,rfl,r1,r2⟩:=TR_node.mp h2
   cases rx
   cases ry
   rw [T.deep_node] at hd
   obtain⟨its,rv,ht,_⟩:=I.tuple q1
   obtain⟨its2,rv2,ht2,_⟩:=I.tuple r1
   have key:=SeqAt.RcNeAt.tuples (A:=X.A) (e:=eqsAt ts us) ht ht2 (by lia) (eq_items I q2 r2 rv rv2 (n:=n) (by lia) (by rw [Around.in1_units]; lia))
   have ev:((List.range (min its.toArray.size its2.toArray.size)).all (eqsAt ts us) && its.toArray.size == its2.toArray.size)=T.beq (.node ts) (.node us):=by
    rw [List.size_toArray,List.size_toArray,← rv.length,← rv2.length,q2.length,r2.length,T.beq,← beqL_range]
   rw [ev] at key
   exact key _ _ _ _ ⟨.bl _,H,I,rfl,q⟩
end
end Sw
namespace Sw
namespace T
mutual
def wr:T→List Nat | .node ts=>40::(wrL ts++[41])
def wrL:List T→List Nat
 | []=>[]
 | t::ts=>wr t++wrL ts
end
theorem wr_node (ts:List T):wr (.node ts)=40::(wrL ts++[41]):=by rw [wr]
theorem wrL_nil:wrL []=[]:=by rw [wrL]
theorem wrL_cons (t:T) (ts:List T):wrL (t::ts)=wr t++wrL ts:=by rw [wrL]
theorem wr_kids (t:T):wr t=40::(wrL t.kids++[41]):=by cases t; rw [wr_node]; rfl
theorem wrL_append:∀ a b:List T,wrL (a++b)=wrL a++wrL b
 | [],b=>by rw [wrL_nil]; rfl
 | t::a,b=>by rw [List.cons_append,wrL_cons,wrL_cons,wrL_append a b,List.append_assoc]
mutual
theorem wr_len:∀ t:T,(wr t).length=2 * t.parts
 | .node ts=>by
  rw [wr_node,parts_node,List.length_cons,List.length_append,wrL_len ts,List.length_singleton]
  lia
theorem wrL_len:∀ ts:List T,(wrL ts).length=2 * partsL ts
 | []=>by rw [wrL_nil,partsL_nil]; rfl
 | t::ts=>by
  rw [wrL_cons,partsL_cons,List.length_append,wr_len t,wrL_len ts]
  lia
end
theorem wrL_flat (ts:List T):(ts.map wr).flatten=wrL ts:=by
 induction ts with
 | nil=>rw [wrL_nil]; rfl
 | cons t ts ih=>rw [List.map_cons,List.flatten_cons,ih,wrL_cons]
def rd1:List (List T)→Nat→Option (List (List T))
 | r::rs,c=>if c=40 then some ([]::r::rs) else if c=41 then (match rs with | r'::rs'=>some ((r'++[.node r])::rs') | []=>none) else none
 | [],_=>none
def rd:List (List T)→List Nat→Option (List (List T))
 | st,[]=>some st
 | st,c::l=>(rd1 st c).bind fun st'=>rd st' l
theorem rd_nil (st:List (List T)):rd st []=some st:=rfl
theorem rd_cons (st:List (List T)) (c:Nat) (l:List Nat):rd st (c::l)=(rd1 st c).bind fun st'=>rd st' l:=rfl
theorem rd_append:∀ (a b:List Nat) (st:List (List T)),rd st (a++b)=(rd st a).bind fun st'=>rd st' b
 | [],b,st=>rfl
 | c::a,b,st=>by
  rw [List.cons_append,rd_cons,rd_cons]
  cases rd1 st c with
  | none=>rfl
  | some st'=>exact rd_append a b st'
theorem rd1_open (r:List T) (rs:List (List T)):rd1 (r::rs) 40=some ([]::r::rs):=rfl
theorem rd1_shut (r r':List T) (rs:List (List T)):rd1 (r::r'::rs) 41=some ((r'++[.node r])::rs):=rfl
mutual
theorem rd_wr:∀ (t:T) (r:List T) (rs:List (List T)) (l:List Nat),rd (r::rs) (wr t++l)=rd ((r++[t])::rs) l
 | .node ts,r,rs,l=>by
  rw [wr_node,List.cons_append,rd_cons,rd1_open,Option.bind_some,List.append_assoc,rd_wrL ts [] (r::rs) ([41]++l),List.nil_append,List.singleton_append,rd_cons,rd1_shut,Option.bind_some]
theorem rd_wrL:∀ (ts:List T) (r:List T) (rs:List (List T)) (l:List Nat),rd (r::rs) (wrL ts++l)=rd ((r++ts)::rs) l
 | [],r,rs,l=>by rw [wrL_nil,List.nil_append,List.append_nil]
 | t::ts,r,rs,l=>by
  rw [wrL_cons,List.append_assoc,rd_wr t r rs,rd_wrL ts (r++[t]) rs l,List.append_assoc,List.singleton_append]
end
theorem rd_whole (t:T):rd [[]] (wr t)=some [[t]]:=by
 have:=rd_wr t [] [] []
 rw [List.append_nil] at this
 rw [this]
 rfl
theorem rd1_cases {st st2:List (List T)}{c:Nat} (h:rd1 st c=some st2) :
  (c=40∧∃ r rs,st=r::rs∧st2=[]::r::rs)∨(c=41∧∃ r r' rs,st=r::r'::rs∧st2=(r'++[.node r])::rs):=by
 cases st with
 | nil=>cases h
 | cons r rs =>
  unfold rd1 at h
  dsimp only at h
  by_cases h1:c=40
  ·rw [if_pos h1] at h
   exact .inl ⟨h1,r,rs,rfl,(Option.some.inj h).symm⟩
  ·rw [if_neg h1] at h
   by_cases h2:c=41
   ·rw [if_pos h2] at h
    cases rs with
    | nil=>cases h
    | cons r' rs=>exact .inr ⟨h2,r,r',rs,rfl,(Option.some.inj h).symm⟩
   ·rw [if_neg h2] at h
    cases h
def outO:Option T→List Nat
 | none=>[41]
 | some t=>wr t
def out (os:List (Option T)):List Nat:=(os.reverse.map outO).flatten
theorem out_nil:out []=[]:=rfl
theorem out_append (a b:List (Option T)):out (a++b)=out b++out a:=by
 unfold out
 rw [List.reverse_append,List.map_append,List.flatten_append]
theorem out_one (o:Option T):out [o]=outO o:=by simp [out]
theorem out_kids (ts:List T):out (ts.reverse.map some)=wrL ts:=by
 unfold out
 rw [← List.map_reverse,List.reverse_reverse,List.map_map,← wrL_flat]
 rfl
theorem outO_pos (o:Option T):1≤(outO o).length:=by
 cases o with
 | none=>exact Nat.le_refl _
 | some t =>
  show 1≤(wr t).length
  rw [wr_kids]
  simp
theorem out_len (os:List (Option T)):os.length≤(out os).length:=by
 induction os with
 | nil=>exact Nat.zero_le _
 | cons o os ih =>
  have:out (o::os)=out os++outO o:=by rw [← List.singleton_append,out_append,out_one]
  rw [this,List.length_append,List.length_cons]
  have:=outO_pos o
  lia
end T
end Sw
namespace Sw
namespace T
theorem rd1_bad {st:List (List T)}{c:Nat} (h1:c≠40) (h2:c≠41):rd1 st c=none:=by
 cases st with
 | nil=>rfl
 | cons r rs=>unfold rd1; dsimp only; rw [if_neg h1,if_neg h2]
theorem rd_back:∀ (l:List Nat) (st st':List (List T)),rd st l=some st'→((st.reverse.map fun r=>40::wrL r).flatten)++l=(st'.reverse.map fun r=>40::wrL r).flatten
 | [],st,st',h=>by rw [rd_nil] at h; rw [Option.some.inj h,List.append_nil]
 | c::l,st,st',h=>by
  rw [rd_cons] at h
  cases h1:rd1 st c with
  | none=>rw [h1] at h; cases h
  | some st2 =>
   rw [h1,Option.bind_some] at h
   have ih:=rd_back l st2 st' h
   rw [← ih]
   rcases rd1_cases h1 with⟨rfl,r,rs,rfl,rfl⟩ | ⟨rfl,r,r',rs,rfl,rfl⟩
   ·simp [wrL_nil]
   ·simp [wrL_append,wrL_cons,wrL_nil,wr_node]
theorem rd_wr_eq {l:List Nat}{t:T} (h:rd [[]] l=some [[t]]):t.wr=l:=by
 have:=rd_back l [[]] [[t]] h
 simp [wrL_nil,wrL_cons] at this
 exact this.symm
end T
end Sw
namespace Sw
open PySem PySem.Spec PyProof.Rows L2
theorem two_inv {X:Cx}{pins:List (Addr×Obj)}{σ:Sg}{H:Hp}{s:Shared}{h2:Heap}{tk:Nat}{e it:Addr}{xs:List V} (I:Inv X pins σ H s) (fe:FpOk X pins H e) (fi:FpOk X pins H it)
  (k:∀ b o,b≠e→b≠it→s.heap.get? b=some o→h2.get? b=some o) (new:ObjOk X.prog X.w (upd H s.heap.objs.size (.tup xs)) h2 s.heap.objs.size (.tup xs)) :
  Inv X pins σ (upd H s.heap.objs.size (.tup xs)) { s with heap:=h2,toks:=tk }:=by
 have hn:H s.heap.objs.size=none:=I.hok.fresh (Nat.le_refl _)
 have nt:∀ b u,H b=some u→b≠s.heap.objs.size:=fun b u q=>ne_of_none q hn
 have ne:∀ b u,H b=some u→b≠e:=fun b u q=>ne_of_none q fe.1
 have ni:∀ b u,H b=some u→b≠it:=fun b u q=>ne_of_none q fi.1
 have up:∀ b u,H b=some u→upd H s.heap.objs.size (.tup xs) b=some u:=fun b u q=>by rw [upd_ne (nt b u q)]; exact q
 refine I.step (g':=s.gens) (d':=s.drawn) (t':=tk) (ch:=[e,it]) (fun b hb=>?_) (fun b o _ _ hb q _=>k b o (fun z=>hb (by simp [z])) (fun z=>hb (by simp [z])) q)
  (fun b o _ _ hb q _=>⟨o.slots,k b o (fun z=>hb (by simp [z])) (fun z=>hb (by simp [z])) q⟩) (fun b o _ q n=>by rw [upd_ne (Nat.ne_of_lt (Heap.lt_size q))]; exact n)
  (fun b o hb q=>⟨o,k b o (fun z=>hb (by simp [z])) (fun z=>hb (by simp [z])) q⟩) (fun b ys q=>up _ _ q) (fun b o u q=>up _ _ q) (fun b ps q=>⟨#[],by rw [up _ _ q]; simp⟩) (fun m hm=>?_) (fun b u q=>?_) I.bare
 ·rcases List.mem_cons.mp hb with z | z
  ·rw [z]; exact⟨fe.2.2.2.1,fe.2.1,fe.2.2.2.2.1,fe.2.2.2.2.2⟩
  ·rw [List.mem_singleton.mp z]; exact⟨fi.2.2.2.1,fi.2.1,fi.2.2.2.2.1,fi.2.2.2.2.2⟩
 ·obtain⟨o,es,ep,ho,r⟩:=hm
  exact⟨o,es,ep,k _ o (Ne.symm fe.2.1) (Ne.symm fi.2.1) ho,r⟩
 ·by_cases hb:b=s.heap.objs.size
  ·subst hb
   rw [upd_same] at q
   cases q
   exact new
  ·rw [upd_ne hb] at q
   refine (I.hok b u q).stay (fun c v hc q'=>k c v ?_ ?_ q') (fun c q'=>up _ _ q') fun c ys q'=>up _ _ q'
   ·rcases hc with z | z
    ·rw [z]; exact ne b u q
    ·exact ne c _ z
   ·rcases hc with z | z
    ·rw [z]; exact ni b u q
    ·exact ni c _ z
theorem bt_enumerate:bootBuiltins "enumerate"=some (.type "enumerate"):=by decide +kernel
end Sw
namespace Sw
open PySem PySem.Spec PyProof.Rows L2
theorem objOk_there {P:Program}{w:World}{H:Hp}{h:Heap}{a:Addr}{o:HO} (x:ObjOk P w H h a o):∃ ob,h.get? a=some ob:=by
 cases o with
 | lst xs=>obtain⟨_,_,_,_,e⟩:=x; exact⟨_,e⟩
 | tup xs=>obtain⟨_,_,_,ob,e,_⟩:=x; exact⟨ob,e⟩
 | dK kvs=>obtain⟨_,_,_,_,ob,_,_,e,_⟩:=x; exact⟨ob,e⟩
 | dT kvs=>obtain⟨_,_,_,_,ob,_,_,e,_⟩:=x; exact⟨ob,e⟩
 | set S n=>obtain⟨ob,_,_,_,e,_⟩:=x; exact⟨ob,e⟩
 | ins C dx fs=>obtain⟨_,_,_,e,_⟩:=x; exact⟨_,e⟩
 | own y=>exact x
 | xd fs=>obtain⟨_,⟨ob,_,_,e,_⟩,_⟩:=x; exact⟨ob,e⟩
 | rng lo hi=>obtain⟨_,_,_,e⟩:=x; exact⟨_,e⟩
 | frz ob u=>exact⟨_,x.1⟩
 | tbl ps=>exact⟨_,(show h.get? a=some _ from x)⟩
 | met f y=>exact⟨_,(show h.get? a=some _ from x)⟩
 | ext φ=>exact x.2.1
structure Fly (P:Program) (w:World) (outer:List Env) (H:Hp) (s:Shared) (H':Hp) (B:Heap) (a C:Addr) (s':Shared):Prop where
 os:s'.os=s.os
 bare:AllBare s'.gens
 fl:∃ t,Heap.FlyingW B outer a (.ref C) t s'.heap
 keep:∀ b o,s.heap.get? b=some o→H b=none→b ∉ frs outer→B.get? b=some o
 slot:∀ b o,s.heap.get? b=some o→b∈frs outer→∃ sl,s'.heap.get? b=some { o with slots:=sl }
 free:∀ b o,s.heap.get? b=some o→H b=none→H' b=none
 there:∀ b o,s.heap.get? b=some o→b ∉ frs outer→∃ o',B.get? b=some o'
 tups:∀ b xs,H b=some (.tup xs)→H' b=some (.tup xs)
 frzs:∀ b o u,H b=some (.frz o u)→H' b=some (.frz o u)
 tbls:∀ b ps,H b=some (.tbl ps)→∃ more,H' b=some (.tbl (ps++more))
 hok:HOk P w H' B
 new:H' a=none
 fresh:s.heap.get? a=none
def CXE (P:Program) (w:World):CXT:=fun outer H s E e s'=>∃ (a C:Addr) (H':Hp) (B:Heap),e=.ref a∧E (.ref C) none H'∧Fly P w outer H s H' B a C s'
def ExcAt (h:Heap) (C:Addr) (bmB:List Value) (newId:String):Prop :=
 ∃ tl Nn nm qq bs hd sn sb ab cl dd k0 k1 k2 k3 k5 mN,h.get? C=some (excClassObj nm qq C Nn bs tl hd sn sb ab cl dd k0 k1 k2 k3 k5 newId)∧h.Ns Nn mN∧mN "__init__"=none∧OwnTail h bmB tl
theorem excAt_of {K:PySem.W.Frag}{h:Heap}{C:Addr}{bmB:List Value}{newId:String} (X:K.In h) (q:PySem.W.excIn K C bmB newId=true):ExcAt h C bmB newId:=by
 unfold PySem.W.excIn at q
 split at q
 ·rename_i dd cd sl ho
  split at q
  ·rename_i C2 tl k0 k1 k2 k3 nn k5 hmro hsl
   simp only [Bool.and_eq_true,beq_iff_eq,Bool.not_eq_true'] at q
   obtain⟨⟨⟨⟨⟨e1,e2⟩,e3⟩,e4⟩,e5⟩,e6⟩:=q
   subst e1 e2
   have hs2:sl=#[k0,k1,k2,k3,some (.builtin nn),k5]:=by
    cases sl
    simp only at hsl
    rw [hsl]
   subst hs2
   have ho':=X _ _ ho
   cases cd with
   | mk nm bs mro ns qn hd sn sb ab cl del =>
    dsimp only at hmro e3 e4 e5 e6
    subst hmro e3
    exact⟨tl,ns,nm,qn,bs,hd,sn,sb,ab,cl,dd,k0,k1,k2,k3,k5,_,ho',.of_isNs (PySem.W.isNs_of_in X e5),PySem.W.nsMap_none_of_in X e5 e6,PySem.W.tail_of_in X e4⟩
  ·cases q
 ·cases q
section
variable {P:Program}{w:World}{K:PySem.W.Frag}{mg:Str→Option Value}{base:Heap}{N:List Str}{qual:Str}{scope:Scope}{f:Addr}{cd:Value}{A:Around}{outer:List Env}{s₀:Shared}{H₀:Hp}{E:XK}
theorem fly_raise {pins:List (Addr×Obj)}{σ:Sg}{H:Hp}{s:Shared}{h':Heap}{e C:Addr} (I:Inv (cxOf (CXE P w) P w K mg base N qual scope f cd A outer s₀ H₀ E) pins σ H s)
  (hx:Heap.MadeExcOf s.heap h' e (.ref C) []) (hE:E (.ref C) none H):(cxOf (CXE P w) P w K mg base N qual scope f cd A outer s₀ H₀ E).xe (.ref e) { s with heap:=h' }:=by
 generalize hX:cxOf (CXE P w) P w K mg base N qual scope f cd A outer s₀ H₀ E=X at I ⊢
 have eS:X.stack=X.env::outer:=by rw [← hX]; rfl
 have eF:X.env.frame=some X.env.locals:=by rw [← hX]; rfl
 have e0:X.s₀=s₀:=by rw [← hX]; rfl
 have eH:X.H₀=H₀:=by rw [← hX]; rfl
 have eO:X.outer=outer:=by rw [← hX]; rfl
 have eX:X.ex=[]:=by rw [← hX]; rfl
 have eP:X.prog=P:=by rw [← hX]; rfl
 have eW:X.w=w:=by rw [← hX]; rfl
 have exe:X.xe=fun e s'=>wpAny (model P w) X.A (leaving X.env e) (fun _ s''=>CXE P w outer H₀ s₀ E e s'') (fun e' s''=>CXE P w outer H₀ s₀ E e' s'') s':=by rw [← hX]; rfl
 rw [exe]
 have notin:∀ b o,s₀.heap.get? b=some o→b ∉ frs outer→b ∉ frs X.stack:=fun b o e1 hb z=>by
  rcases List.mem_cons.mp (I.stkSub b z) with e2 | e2
  ·have:=Nat.lt_of_lt_of_le (Heap.lt_size (e0 ▸ e1)) I.ok.above
   rw [e2] at this
   exact absurd this (Nat.lt_irrefl _)
  ·exact hb (by rw [← eO]; exact e2)
 have nex:∀ b:Addr,b ∉ X.ex:=fun b z=>by rw [eX] at z; simp at z
 have ub:Un (frs outer) X.ex H₀ H s₀.heap s.heap:=by
  have:=I.base
  rw [e0,eH] at this
  unfold Cx.fs at this
  rw [eO] at this
  exact this
 have tf:∀ b u,H b=some u→b ∉ frs X.stack:=fun b u e1 z=>by
  rw [I.stkFree b z] at e1; cases e1
 refine wpAny_leaves_madeW (base:=PySem.W.hideAll s.heap (frs X.stack)) (L:=X.env.locals) (outer:=outer) (by rw [I.ok.frames,eS]) eF (fun b o z=>PySem.W.of_hideAll _ z) ?_ hx fun h'' t F1 _ _ F4=>?_
 ·rw [← eS]
  exact PySem.W.funFrames_hide I.stack fun ev hev a ha=>List.mem_filterMap.mpr ⟨ev,hev,ha⟩
 refine⟨e,C,H,_,rfl,hE,⟨I.os.trans (by rw [e0]),I.bare,⟨_,F1⟩,fun b o e1 n hb=>?_,fun b o e1 hb=>?_,fun b o e1 n=>ub.free b o e1 n (nex b),fun b o e1 hb=>?_,ub.tups,ub.frzs,ub.tbls,fun b u e1=>?_,?_,?_⟩⟩
 ·exact PySem.W.hideAll_get _ (ub.keep b o e1 n hb (nex b)) (notin b o e1 hb)
 ·have hb':b∈X.fs:=by unfold Cx.fs; rw [eO]; exact hb
  have n:H₀ b=none:=by rw [← eH]; exact I.ok.frf b hb'
  obtain⟨s1,q1⟩:=ub.slot b o e1 n hb (nex b)
  obtain⟨_,o2,q2,nf⟩:=I.ok.funs.mem hb'
  rw [e0,e1] at q2
  cases q2
  have q3:=hx.keeps b _ q1
  obtain⟨s2,q4⟩:=F4 b _ q3 nf
  exact⟨s2,q4⟩
 ·obtain⟨o',q1⟩:=ub.there b o e1 (nex b)
  exact⟨o',PySem.W.hideAll_get _ q1 (notin b o e1 hb)⟩
 ·have q:=I.hok b u e1
  rw [eP,eW] at q
  refine q.stay (fun c v hc q1=>PySem.W.hideAll_get _ q1 ?_) (fun _ z=>z) fun _ _ z=>z
  rcases hc with z | z
  ·rw [z]; exact tf b u e1
  ·exact tf c _ z
 ·cases e1:H e with
  | none=>rfl
  | some u =>
   obtain⟨ob,q1⟩:=objOk_there (I.hok e u e1)
   rw [hx.new] at q1; cases q1
 ·cases e1:s₀.heap.get? e with
  | none=>rfl
  | some o =>
   obtain⟨o',q1⟩:=ub.there e o e1 (nex e)
   rw [hx.new] at q1; cases q1
def tRaise (C:Addr) (E:XK):TS:=fun _ _ H=>E (.ref C) none H
theorem ps_raise {x:Str}{C:Addr}{B newId initId:String}{bmB:List Value}{np cpos pos:Pos} (FB:ExcBaseFacts B newId initId bmB) (q:PySem.W.excIn K C bmB newId=true)
  (hg:Gl (cxOf (CXE P w) P w K mg base N qual scope f cd A outer s₀ H₀ E) x) (hm:mg x=some (.ref C)) (hd:(x == ("__debug__":Str))=false:=by decide) :
  PS (cxOf (CXE P w) P w K mg base N qual scope f cd A outer s₀ H₀ E) (.Raise (some (.Call (.Name x np) [] [] cpos)) none pos) (tRaise C E):=by
 intro pins s σ H D I h
 obtain⟨tl,Nn,nm,qq,bs,hdc,sn,sb,ab,cl,dd,k0,k1,k2,k3,k5,mN,hC,hN,hni,T⟩:=excAt_of I.kIn q
 refine wpAny_Raise_call_subT (C:=C) (N:=Nn) (nm:=nm) (q:=qq) (bs:=bs) (bm:=tl) (sn:=sn) (hdct:=hdc) (sub:=sb) (col:=cl) (ab:=ab) (dd:=dd) (k5:=k5) (k3:=k3) (k2:=k2) (k1:=k1) (k0:=k0) FB (mN:=mN) (T.hasType FB.hasBase) (I.ok.hd rfl) rfl hni (ld_glob I hg hm ⟨rfl,?_⟩ hd)
 exact evalArgs_empty ⟨rfl,Nat.zero_le _,hC,hN,T,fun h' e hx=>fly_raise I hx h⟩
end
theorem okX {P:Program}{w:World}{K:PySem.W.Frag}{mg:Str→Option Value}{base:Heap}{x qual:Str}{st:Stmt}{f:Addr}{fd:FuncData}{N ps:List Str}{k:Nat}{sp:Sp} (F:Fun K x qual st f fd) (S:FnScope N ps (defScope st)) (len:∀ vs H Q E,sp vs H Q E→vs.length=ps.length)
  (hb:∀ (cdv:Value) (A:Around) (outer:List Env) (s:Shared) (H:Hp) (vs:List V) (Q:VK) (E:XK),Room k (A.deeper (envOfC qual (defScope st) s.heap.objs.size f cdv))→sp vs H Q E →
   ∃ t,PSs (cxOf (CXE P w) P w K mg base N qual (defScope st) f cdv A outer s H E) (defBody st) t∧t { nx:=fun _ H'=>Q .non H',rt:=Q } (start N vs) H):FnOk P w K mg base (CXE P w) (k+1) f fd ps sp:=by
 obtain⟨oc,od,kV,doc,pm,an,cdv,ct,osl,e,lk,hcd⟩:=F.ex
 subst e
 exact fn_of lk hcd S len fun A outer s H vs Q E hr hsp=>hb cdv A outer s H vs Q E hr hsp
theorem passE {P:Program}{w:World}{X:Cx}:Passes (CXE P w) X E0:=fun _ _ _ _ _ _ _ ⟨_,_,_,_,_,h,_⟩=>h.elim
def hX (X:Cx) (a:Addr):Cx:={ X with A:=X.A.mark (some (.ref a)),calm:=false,xe:=fun _ _=>False }
def XO (a C:Addr):HO:=.ext fun h=>∃ o vs,h.get? a=some o∧o.cls=.ref C∧o.data=.fields vs
section
variable {X:Cx}{pins:List (Addr×Obj)}{σ:Sg}{H:Hp}{s:Shared}
theorem hX_ok (ok:X.Ok) (a:Addr):(hX X a).Ok :=
 ⟨ok.mod,ok.kind,ok.glob,ok.blt,ok.above,ok.inj,ok.has,ok.cab,fun z=>absurd (show false=true from z) Bool.false_ne_true,ok.frames,ok.stk,ok.exf,ok.bs,ok.bsz,ok.noex,ok.exfs,ok.funs,ok.frf⟩
theorem inv_hx (I:Inv X pins σ H s) (a:Addr):Inv (hX X a) pins σ H s:=⟨hX_ok I.ok a,I.os,I.bare,I.base,I.loc,I.cell,I.free,I.freeC,I.pin,I.hok,I.len⟩
theorem inv_unhx {a:Addr} (ok:X.Ok) (I:Inv (hX X a) pins σ H s):Inv X pins σ H s:=⟨ok,I.os,I.bare,I.base,I.loc,I.cell,I.free,I.freeC,I.pin,I.hok,I.len⟩
theorem Fly.inv {H':Hp}{B h5:Heap}{a C:Addr}{t:Value}{s':Shared} (I:Inv X pins σ H s) (F:Fly X.prog X.w X.stack H s H' B a C s') (fl:Heap.FlyingW B X.stack a (.ref C) t h5) (sl:s'.heap.UpToSlots h5) :
  Inv X pins σ (upd H' a (XO a C)) { s' with heap:=h5 }:=by
 have st:∀ b o,B.get? b=some o→h5.get? b=some o:=fl.1
 have fr:∀ b o,s.heap.get? b=some o→b∈frs X.stack→∃ sl,h5.get? b=some { o with slots:=sl }:=fun b o e hb=>by
  obtain⟨s1,e1⟩:=F.slot b o e hb
  obtain⟨_,o2,e2,nf⟩:=I.stack.mem hb
  rw [e] at e2
  cases e2
  obtain⟨s2,e3⟩:=sl b _ e1 nf
  exact⟨s2,e3⟩
 have na:∀ b u,H' b=some u→b≠a:=fun b u e z=>by rw [z,F.new] at e; cases e
 have ns:∀ b o,s.heap.get? b=some o→b≠a:=fun b o e z=>by rw [z,F.fresh] at e; cases e
 refine I.call' (ch:=[]) F.os ⟨fun b o e n hb _=>st b o (F.keep b o e n hb),fun b o e _ hb _=>fr b o e hb,fun b o e n _=>?_,fun b o e _=>?_,fun b xs e=>?_,fun b o u e=>?_,fun b ps e=>?_⟩ (fun b u e=>?_) F.bare (fun b z=>absurd z (by simp))
 ·rw [upd_ne (ns b o e)]; exact F.free b o e n
 ·by_cases hb:b∈frs X.stack
  ·obtain⟨s2,e3⟩:=fr b o e hb
   exact⟨_,e3⟩
  ·obtain⟨o',e'⟩:=F.there b o e hb
   exact⟨o',st b o' e'⟩
 ·have:=F.tups b xs e
  rw [upd_ne (na _ _ this)]; exact this
 ·have:=F.frzs b o u e
  rw [upd_ne (na _ _ this)]; exact this
 ·obtain⟨more,this⟩:=F.tbls b ps e
  exact⟨more,by rw [upd_ne (na _ _ this)]; exact this⟩
 ·by_cases hb:b=a
  ·subst hb
   rw [upd_same] at e
   cases e
   obtain⟨oe,vs,g1,g2,g3,_⟩:=fl.first
   refine⟨⟨oe,vs,g1,g2,g3⟩,⟨oe,g1⟩,fun h1 h2 p k=>?_⟩
   obtain⟨o,vs',q1,q2⟩:=p
   exact⟨o,vs',k o q1,q2⟩
  ·rw [upd_ne hb] at e
   refine (F.hok b u e).stay (fun c v _ q=>st c v q) (fun c q=>?_) fun c xs q=>?_
   ·rw [upd_ne (na _ _ q)]; exact q
   ·rw [upd_ne (na _ _ q)]; exact q
theorem exc_match {M:Model}{A:Around}{E:Value→Shared→Prop}{e C D:Addr}{oe:Obj}{Q:Bool→Shared→Prop}{K:PySem.W.Frag} (XI:K.In s.heap) (he:s.heap.get? e=some oe) (hcls:oe.cls=.ref C)
  (h1:PySem.W.typeIn K (.ref D)=some (.type "type")) (h2:PySem.W.subIn K (.ref D) (.type "BaseException")=some true) (h3:PySem.W.subIn K (.ref C) (.ref D)=some true) (hD:∃ cd,PySem.W.clsIn K D=some cd)
  (hq:Q true s):wpAny M A (excMatches (.ref e) (.ref D)) Q E s:=by
 obtain⟨hh,g,d,t,os⟩:=s
 have L1:=PySem.W.looks_typeIn (M:=M) XI h1
 have L2:=PySem.W.looks_subIn (M:=M) XI h2
 have L3:=PySem.W.looks_subIn (M:=M) XI h3
 have f:=tc_notTuple
 obtain⟨cd,hcd⟩:=hD
 unfold PySem.W.clsIn at hcd
 split at hcd
 ·rename_i c' d' cd' sl' ho
  have hoD:=XI _ _ ho
  unfold excMatches
  repeat (first | (with_reducible refine wpAny_loadPart_at he ?_; rw [hcls]) | with_reducible refine wpAny_loadPart_at hoD ?_ | refine L1.at ?_ | refine L2.at ?_ | refine L3.at ?_ | wp_step)
  exact hq
 ·cases hcd
end
end Sw
namespace Sw
open PySem PySem.Spec PyProof.Rows L2
def cutL (l:List Nat) (lo hi:Option Int):List Nat:=(l.drop (HT.sIx l.length 0 lo)).take (HT.sIx l.length l.length hi - HT.sIx l.length 0 lo)
theorem cutL_len (l:List Nat) (lo hi:Option Int):(cutL l lo hi).length≤l.length:=by
 unfold cutL
 rw [List.length_take,List.length_drop]
 lia
theorem idx_eq (lo hi:Option Int) (n:Nat):Builtin.Str.strSliceIndices lo hi 1 n=(List.range (HT.sIx n n hi - HT.sIx n 0 lo)).map (fun k=>HT.sIx n 0 lo+k):=by
 obtain⟨e1,e2,e3⟩:=slice_bounds lo hi n
 have e:Builtin.Str.strSliceIndices lo hi 1 n=sliceRange (sliceBounds lo hi none n).1 (sliceBounds lo hi none n).2.1 1:=rfl
 rw [e,e1,e2]
 generalize HT.sIx n 0 lo=a
 generalize HT.sIx n n hi=b
 have e4:(if (a:Int)<b then ((b:Int) - a+1 - 1) / 1 else 0).toNat=b - a:=by
  split
  ·simp
  ·lia
 show List.map _ (List.range (if (a:Int)<b then ((b:Int) - a+1 - 1) / 1 else 0).toNat)=_
 rw [e4]
 refine List.map_congr_left fun k _=>?_
 lia
theorem pick_eq (l:List Nat) (lo hi:Option Int):(Builtin.Str.strSliceIndices lo hi 1 (tx l).length).filterMap ((tx l).cps[·]?)=cutL l lo hi:=by
 have hl:(tx l).length=l.length:=tx_len l
 rw [hl,idx_eq]
 unfold cutL
 have h2:=HT.sIx_le l.length l.length (Nat.le_refl _) hi
 generalize HT.sIx l.length 0 lo=a
 generalize HT.sIx l.length l.length hi=b at h2
 have key:∀ n,a+n≤l.length∨n=0→((List.range n).map fun k=>a+k).filterMap ((tx l).cps[·]?)=(l.drop a).take n:=by
  intro n
  induction n with
  | zero=>intro _; simp
  | succ n ih =>
   intro h
   have h':a+n<l.length:=by lia
   rw [List.range_succ,List.map_append,List.filterMap_append,ih (by lia),List.take_add_one,List.getElem?_drop]
   congr 1
   simp [tx,h']
 exact key (b - a) (by lia)
theorem get_strSlice {prog:Program}{w:World}{A:Around}{E:Value→Shared→Prop}{s:Shared}{l:List Nat}{t:Tok}{sl:Addr}{vl vu:Value}{lo hi:Option Int}{Q:Value→Shared→Prop}
  (hs:s.heap.IsSliceOf sl vl vu .none) (pl:IsPart vl lo) (pu:IsPart vu hi) (hz:l.length≤sizeLine) (h:∀ t' k,Q (.str (tx (cutL l lo hi)) t') { s with toks:=k }):wpAny (model prog w) A (getItem (.str (tx l) t) (.ref sl)) Q E s:=by
 have hT:=typeIs_str s (tx l) t
 obtain⟨pl',el,fl⟩:∃ p:Option (Int×Tok),partValue p=vl∧p.map (·.1)=lo:=by
  cases pl with
  | none=>exact⟨none,rfl,rfl⟩
  | int i t=>exact⟨some (i,t),rfl,rfl⟩
 obtain⟨pu',eu,fu⟩:∃ p:Option (Int×Tok),partValue p=vu∧p.map (·.1)=hi:=by
  cases pu with
  | none=>exact⟨none,rfl,rfl⟩
  | int i t=>exact⟨some (i,t),rfl,rfl⟩
 have hs':s.heap.IsSlice sl pl' pu' none:=by
  obtain⟨o,h1,h2,h3⟩:=hs
  exact⟨o,h1,h2,by rw [el,eu]; exact h3⟩
 have ep:slicePicked (tx l) pl' pu' none=Builtin.Str.strSliceIndices lo hi 1 (tx l).length:=by
  unfold slicePicked
  rw [fl,fu]
  rfl
 have m:=meets_str_getitem_slice (tx l) t sl pl' pu' none rfl
 unfold getItem
 try with_reducible refine wpAny_holding ?_
 first | refine wpAny_bind (wpAny_pure ?_) | skip
 refine wpAny_bind (wpAny_callSpecial?_slot (name:=Str.ofString "__getitem__") hT PyProof.Rows.slot_str_getitem ?_)
 refine call_meets PyProof.Rows.slot_str_getitem hT PyProof.Rows.entry_str_getitem (PyProof.Rows.args_str_getitem _ _) m ⟨hs',?_⟩
 unfold sliceMade
 rw [ep]
 split
 ·rename_i hc
  have hlen:(Builtin.Str.strSliceIndices lo hi 1 (tx l).length).length=l.length:=by
   simp at hc
   rw [hc]
   exact tx_len l
  have ecut:cutL l lo hi=l:=by
   have h2:=HT.sIx_le l.length l.length (Nat.le_refl _) hi
   rw [tx_len,idx_eq,List.length_map,List.length_range] at hlen
   unfold cutL
   by_cases h0:l.length=0
   ·have:l=[]:=List.length_eq_zero_iff.mp h0
    subst this
    simp
   ·have e0:HT.sIx l.length 0 lo=0:=by lia
    rw [e0,List.drop_zero,List.take_of_length_le (by lia)]
  have:=h t s.toks
  rw [ecut] at this
  exact wpAny_pure this
 ·rw [pick_eq]
  refine⟨?_,?_⟩
  ·show (tx (cutL l lo hi)).length≤sizeLine
   rw [tx_len]
   exact Nat.le_trans (cutL_len l lo hi) hz
  ·exact wpAny_pure (h _ _)
def rSlS:V→Option Int→Option Int→Hp→VK→Prop:=fun x lo hi H Q=>∃ l,x=.str (tx l)∧l.length≤sizeLine∧Q (.str (tx (cutL l lo hi))) H
theorem sl_str {X:Cx}:SlR X rSlS:=by
 intro pins s σ H x v vl vu lo hi sl Q I rx hs pl pu h
 obtain⟨l,rfl,hz,q⟩:=h
 obtain⟨t,rfl⟩:=rx
 exact⟨"str",_,PyProof.Rows.slot_str_getitem.lookup,typeIs_str _ _ _,get_strSlice hs pl pu hz fun t' k=>⟨.str _,H,I.tok _,⟨_,rfl⟩,q⟩⟩
end Sw
namespace Sw
open PySem PySem.Spec PyProof.Rows L2
section
variable {K:PySem.W.Frag}{C a:Addr}{prog:Program}{w:World}{A:Around}
end
end Sw
namespace Sw
open PySem PySem.Spec PyProof.Rows L2
structure QE (X:Cx) (e:Expr) (t:TE):Prop where
 run:PE X e t
structure QT (X:Cx) (e:Expr) (t:TT):Prop where
 run:PT X e t
structure QW (X:Cx) (e:Expr) (t:TT):Prop where
 run:PW X e t
structure QA (X:Cx) (es:List Expr) (t:TA):Prop where
 run:PA X es t
structure QS (X:Cx) (st:Stmt) (t:TS):Prop where
 run:PS X st t
structure QSs (X:Cx) (st:List Stmt) (t:TS):Prop where
 run:PSs X st t
structure QI (X:Cx) (tg iter:Expr) (wi:TI):Prop where
 run:PI X tg iter wi
structure QG (X:Cx) (tg:Expr) (t:TG):Prop where
 run:PG X tg t
structure QGs (X:Cx) (ts:List Expr) (t:TGs):Prop where
 run:PGs X ts t
structure QO (X:Cx) (o:Option Expr) (t:TO):Prop where
 run:PO X o t
theorem QW.pt {X:Cx}{e:Expr}{t:TT} (h:QW X e t):QT X e t:=⟨h.run.pt⟩
theorem qv {X:Cx} (i:Nat) {x:Str}{pos:Pos} (hN:X.N[i]?=some x:=by rfl) (hv:Vis X.env.scope x:=by first | exact Or.inl rfl | exact Or.inr (Or.inl rfl) | exact Or.inr (Or.inr rfl)) (hd:(x == ("__debug__":Str))=false:=by decide) (hcd:(x == ("__classdict__":Str))=false:=by decide):QE X (.Name x pos) (tVar i):=⟨L2.pv (i:=i) (hN:=hN) (hv:=hv) (hd:=hd) (hcd:=hcd)⟩
theorem qe_int {X:Cx}{i j pos}:QE X (.Constant (.int i) j pos) (tC (.int i)):=⟨L2.pe_int⟩
theorem qe_bl {X:Cx}{b j pos}:QE X (.Constant (.bool b) j pos) (tC (.bl b)):=⟨L2.pe_bl⟩
theorem qe_non {X:Cx}{j pos}:QE X (.Constant .none j pos) (tC .non):=⟨L2.pe_non⟩
theorem qe_str {X:Cx}{x j pos}:QE X (.Constant (.str x) j pos) (tC (.str x)):=⟨L2.pe_str⟩
theorem qe_bltn {X:Cx}{x:Str}{v:V}{u:Value}{pos:Pos} (hg:Gl X x) (hm:X.mg x=none) (hv:bootBuiltins x=some u) (r:RelV v u) (hn:x≠"__name__":=by decide) (hd:(x == ("__debug__":Str))=false:=by decide):QE X (.Name x pos) (tC v):=⟨L2.pe_bltn (hg:=hg) (hm:=hm) (hv:=hv) (r:=r) (hn:=hn) (hd:=hd)⟩
theorem qe_glob {X:Cx}{x:Str}{v:V}{u:Value}{pos:Pos} (hg:Gl X x) (hm:X.mg x=some u) (r:RelV v u) (hd:(x == ("__debug__":Str))=false:=by decide):QE X (.Name x pos) (tC v):=⟨L2.pe_glob (hg:=hg) (hm:=hm) (r:=r) (hd:=hd)⟩
theorem qe_op {X:Cx}{a b:Expr}{ta tb:TE}{pos:Pos}{op:Operator}{r:R2} (ho:OpR X (binaryOp op) r) (ha:QE X a ta) (hb:QE X b tb):QE X (.BinOp a op b pos) (tOp r ta tb):=⟨L2.pe_op (ho:=ho) (ha:=ha.run) (hb:=hb.run)⟩
theorem qe_un {X:Cx}{a:Expr}{ta:TE}{pos:Pos}{op:UnaryOp}{r:V→Hp→VK→Prop} (ho:UnR X (unaryOp op) r) (ha:QE X a ta):QE X (.UnaryOp op a pos) (tUn r ta):=⟨L2.pe_un (ho:=ho) (ha:=ha.run)⟩
theorem qe_cmpR {X:Cx}{a b:Expr}{ta tb:TE}{pos:Pos}{op:CmpOp}{r:R2} (ho:OpR X (compareOp op) r) (ha:QE X a ta) (hb:QE X b tb) (hm:behindInMarks op b=false):QE X (.Compare a [op] [b] pos) (tOp r ta tb):=⟨L2.pe_cmpR (ho:=ho) (ha:=ha.run) (hb:=hb.run) (hm:=hm)⟩
theorem qe_and {X:Cx}{a b:Expr}{ta tb:TE}{pos:Pos}{rest:List Expr} (ha:QE X a ta) (hb:QE X (.BoolOp .And (b::rest) pos) tb):QE X (.BoolOp .And (a::b::rest) pos) (tAndV ta tb):=⟨L2.pe_and (ha:=ha.run) (hb:=hb.run)⟩
theorem qe_or {X:Cx}{a b:Expr}{ta tb:TE}{pos:Pos}{rest:List Expr} (ha:QE X a ta) (hb:QE X (.BoolOp .Or (b::rest) pos) tb):QE X (.BoolOp .Or (a::b::rest) pos) (tOrV ta tb):=⟨L2.pe_or (ha:=ha.run) (hb:=hb.run)⟩
theorem qe_one {X:Cx}{a:Expr}{pos:Pos}{op}{t:TE} (h:QE X a t):QE X (.BoolOp op [a] pos) t:=⟨L2.pe_one (h:=h.run)⟩
theorem qe_lst {X:Cx}{es:List Expr}{t:TA}{pos:Pos} (h:QA X es t):QE X (.List es pos) (tLst t):=⟨L2.pe_lst (h:=h.run)⟩
theorem qe_tup {X:Cx}{es:List Expr}{t:TA}{pos:Pos}{x1} (h:QA X es t):QE X (.Tuple es x1 pos) (tTup t):=⟨L2.pe_tup (h:=h.run)⟩
theorem qe_ifExp {X:Cx}{a b:Expr}{ta tb:TE}{pos:Pos}{tA:TT}{c:Expr} (hc:QT X c tA) (ha:QE X a ta) (hb:QE X b tb):QE X (.IfExp c a b pos) (tIf tA ta tb):=⟨L2.pe_ifExp (hc:=hc.run) (ha:=ha.run) (hb:=hb.run)⟩
theorem qe_slice {X:Cx}{e:Expr}{te:TE}{lo hi:Option Expr}{tl th:TO}{pos p2:Pos}{r:V→Option Int→Option Int→Hp→VK→Prop} (hr:SlR X r) (he:QE X e te) (hl:QO X lo tl) (hu:QO X hi th):QE X (.Subscript e (.Slice lo hi none p2) pos) (tSl r te tl th):=⟨L2.pe_slice (hr:=hr) (he:=he.run) (hl:=hl.run) (hu:=hu.run)⟩
theorem qe_ix {X:Cx}{a b:Expr}{ta tb:TE}{pos:Pos}{r:R2} (hr:IxR X r) (ha:QE X a ta) (hb:QE X b tb) (hs:PlainIx b):QE X (.Subscript a b pos) (tOp r ta tb):=⟨L2.pe_ix (hr:=hr) (ha:=ha.run) (hb:=hb.run) (hs:=hs)⟩
theorem qe_lc {X:Cx}{scope:Scope}{cl:List (Str×Addr)}{x:Str}{fr:List Str}{js:List Nat}{elt iter:Expr}{px pos:Pos}{wi:TI}{te:TE} (hc:X.calm=true) (L:LcOk X scope x fr js cl) (hi:QI X (.Name x px) iter wi) (he:∀ C s H fp pins,QE (blk X scope cl C (x::fr) s H fp pins) elt te) (hs:∀ v,foldedSetIterable iter X.env v=pure v:=by intro _; rfl):QE X (.ListComp elt [⟨.Name x px,iter,[],0⟩] scope pos) (tLC wi js te):=⟨Sw.pe_lc (hc:=hc) (L:=L) (hi:=hi.run) (he:=fun C s H fp pins=>(he C s H fp pins).run) (hs:=hs)⟩
theorem qe_call {X:Cx}{CX:CXT}{k:Nat}{f:Addr}{fd:FuncData}{ps:List Str}{sp:Sp}{dvs:List V}{ds:List Value}{E:XK}{x:Str}{p pos:Pos}{e:Expr}{es:List Expr}{t:TA} (F:FnOk X.prog X.w X.K X.mg X.base CX k f fd ps sp) (hr:Room k X.A) (hg:Gl X x) (hm:X.mg x=some (.ref f)) (hk:PySem.W.keepIn X.K (.ref f)=true) (hb:Binds X.K fd ps ds) (hd:Vals dvs ds) (hx:Passes CX X E) (ha:QA X (e::es) t) (hdb:(x == ("__debug__":Str))=false:=by decide) (he:starEach (e::es) X.env=(false,eval e X.env)::starEach es X.env:=by rfl) (hpl:(backTo pos (starEach es X.env)).any (·.1)=false:=by rfl):QE X (.Call (.Name x p) (e::es) [] pos) (tCall sp dvs E t):=⟨L2.pe_call (F:=F) (hr:=hr) (hg:=hg) (hm:=hm) (hk:=hk) (hb:=hb) (hd:=hd) (hx:=hx) (ha:=ha.run) (hdb:=hdb) (he:=he) (hpl:=hpl)⟩
theorem qe_callTy {X:Cx}{x:Str}{p pos:Pos}{e:Expr}{es:List Expr}{t:TA}{T:String}{r:List V→Hp→VK→Prop} (hc:CallR X (.type T) r) (hg:Gl X x) (hm:X.mg x=none) (hv:bootBuiltins x=some (.type T)) (ha:QA X (e::es) t) (hn:x≠"__name__":=by decide) (hdb:(x == ("__debug__":Str))=false:=by decide) (he:starEach (e::es) X.env=(false,eval e X.env)::starEach es X.env:=by rfl) (hpl:(backTo pos (starEach es X.env)).any (·.1)=false:=by rfl):QE X (.Call (.Name x p) (e::es) [] pos) (tCB r t):=⟨L2.pe_callTy (hc:=hc) (hg:=hg) (hm:=hm) (hv:=hv) (ha:=ha.run) (hn:=hn) (hdb:=hdb) (he:=he) (hpl:=hpl)⟩
theorem qe_callB {X:Cx}{x:Str}{p pos:Pos}{e:Expr}{es:List Expr}{t:TA}{id:String}{r:List V→Hp→VK→Prop} (hc:CallR X (.builtin id) r) (hg:Gl X x) (hm:X.mg x=none) (hv:bootBuiltins x=some (.builtin id)) (ha:QA X (e::es) t) (hn:x≠"__name__":=by decide) (hdb:(x == ("__debug__":Str))=false:=by decide) (he:starEach (e::es) X.env=(false,eval e X.env)::starEach es X.env:=by rfl) (hpl:(backTo pos (starEach es X.env)).any (·.1)=false:=by rfl):QE X (.Call (.Name x p) (e::es) [] pos) (tCB r t):=⟨L2.pe_callB (hc:=hc) (hg:=hg) (hm:=hm) (hv:=hv) (ha:=ha.run) (hn:=hn) (hdb:=hdb) (he:=he) (hpl:=hpl)⟩
theorem qe_bm {X:Cx}{o e:Expr}{es:List Expr}{to:TE}{t:TA}{name:Str}{apos cpos:Pos}{T id:String}{r:V→List V→Hp→VK→Prop} (pa:PlainAttrs T) (slot:Slot T name id) (hty:typeOf (.builtin id)=pure (.type "method_descriptor")) (hm:MtR X id r) (ho:QE X o to) (ha:QA X (e::es) t) (hbase:attributeBase o name X.env (eval o X.env)=eval o X.env:=by rfl) (hfew:((backTo cpos (starEach (e::es) X.env)).all (fun x=>!x.1) && (backToKw cpos (keywordEach [] X.env)).all (fun x=>x.1.isSome)
   && decide ((e::es).length+([]:List Keyword).length+(if ([]:List Keyword).isEmpty then 0 else 1)<30))=true:=by rfl) (hline:(apos.endLine == cpos.line)=true:=by rfl) (hs:starEach (e::es) X.env=(false,eval e X.env)::starEach es X.env:=by rfl) (hplain:(backTo cpos (starEach es X.env)).any (·.1)=false:=by rfl):QE X (.Call (.Attribute o name apos) (e::es) [] cpos) (tBM X.K T r to t):=⟨L2.pe_bm (pa:=pa) (slot:=slot) (hty:=hty) (hm:=hm) (ho:=ho.run) (ha:=ha.run) (hbase:=hbase) (hfew:=hfew) (hline:=hline) (hs:=hs) (hplain:=hplain)⟩
theorem qe_bm0 {X:Cx}{o:Expr}{to:TE}{name:Str}{apos cpos:Pos}{T id:String}{r:V→List V→Hp→VK→Prop} (pa:PlainAttrs T) (slot:Slot T name id) (hty:typeOf (.builtin id)=pure (.type "method_descriptor")) (hm:MtR X id r) (ho:QE X o to) (hbase:attributeBase o name X.env (eval o X.env)=eval o X.env:=by rfl) (hline:(apos.endLine == cpos.line)=true:=by rfl):QE X (.Call (.Attribute o name apos) [] [] cpos) (tBM0 X.K T r to):=⟨L2.pe_bm0 (pa:=pa) (slot:=slot) (hty:=hty) (hm:=hm) (ho:=ho.run) (hbase:=hbase) (hline:=hline)⟩
theorem qe_listRev {X:Cx}{e:Expr}{te:TE}{p1 p2 pos pos2:Pos} (hgl:Gl X "list") (hgr:Gl X "reversed") (ml:X.mg "list"=none) (mr:X.mg "reversed"=none) (hc:X.calm=true) (he:QE X e te) (hs1:starEach [.Call (.Name "reversed" p2) [e] [] pos2] X.env=[(false,eval (.Call (.Name "reversed" p2) [e] [] pos2) X.env)]:=by rfl) (hs2:starEach [e] X.env=[(false,eval e X.env)]:=by rfl):QE X (.Call (.Name "list" p1) [.Call (.Name "reversed" p2) [e] [] pos2] [] pos) (SwR.tLR X.K te):=⟨SwR.pe_listRev (hgl:=hgl) (hgr:=hgr) (ml:=ml) (mr:=mr) (hc:=hc) (he:=he.run) (hs1:=hs1) (hs2:=hs2)⟩
theorem qt_val {X:Cx}{e:Expr}{t:TE} (h:QE X e t) (he:∀ whole,isTrue e X.env whole=(do let v ← whole; standAt e.pos; holding [v] (truthy v)):=by intro _; rfl):QT X e (tB t):=⟨L2.pt_val (h:=h.run) (he:=he)⟩
theorem qt_truth {X:Cx}{a:Expr}{ta:TE} (ha:QE X a ta) (he:∀ whole,isTrue a X.env whole=(do let v ← whole; standAt a.pos; holding [v] (truthy v))):QT X a (fun σ H Q=>ta σ H fun x H'=>∃ k,TruV X.K x H' k∧Q k H'):=⟨L2.pt_truth (ha:=ha.run) (he:=he)⟩
theorem qt_cmpR {X:Cx}{a b:Expr}{ta tb:TE}{pos:Pos}{op:CmpOp}{r:R2} (ho:OpR X (compareOp op) r) (ha:QE X a ta) (hb:QE X b tb) (hm:behindInMarks op b=false):QT X (.Compare a [op] [b] pos) (tTest (tOp r ta tb)):=⟨L2.pt_cmpR (ho:=ho) (ha:=ha.run) (hb:=hb.run) (hm:=hm)⟩
theorem qt_not {X:Cx}{a:Expr}{pos:Pos}{tA:TT} (ha:QT X a tA):QT X (.UnaryOp .Not a pos) (tNot tA):=⟨L2.pt_not (ha:=ha.run)⟩
theorem qw_and {X:Cx}{a b:Expr}{pos:Pos}{tA tB':TT}{rest:List Expr} (ha:QT X a tA) (hb:QW X (.BoolOp .And (b::rest) pos) tB'):QW X (.BoolOp .And (a::b::rest) pos) (tAnd tA tB'):=⟨L2.pw_and (ha:=ha.run) (hb:=hb.run)⟩
theorem qw_and1 {X:Cx}{a:Expr}{pos:Pos}{tA:TT} (ha:QT X a tA):QW X (.BoolOp .And [a] pos) tA:=⟨L2.pw_and1 (ha:=ha.run)⟩
theorem qw_or {X:Cx}{a b:Expr}{pos:Pos}{tA tB':TT}{rest:List Expr} (ha:QT X a tA) (hb:QW X (.BoolOp .Or (b::rest) pos) tB'):QW X (.BoolOp .Or (a::b::rest) pos) (tOr tA tB'):=⟨L2.pw_or (ha:=ha.run) (hb:=hb.run)⟩
theorem qw_or1 {X:Cx}{a:Expr}{pos:Pos}{tA:TT} (ha:QT X a tA):QW X (.BoolOp .Or [a] pos) tA:=⟨L2.pw_or1 (ha:=ha.run)⟩
theorem qa_nil {X:Cx}:QA X [] tNil:=⟨L2.pa_nil⟩
theorem qa_cons {X:Cx}{e:Expr}{es:List Expr}{te:TE}{t:TA} (ha:QE X e te) (hr:QA X es t) (hs:starEach (e::es) X.env=(false,eval e X.env)::starEach es X.env:=by rfl):QA X (e::es) (tCons te t):=⟨L2.pa_cons (ha:=ha.run) (hr:=hr.run) (hs:=hs)⟩
theorem qs_ret {X:Cx}{e:Expr}{te:TE}{pos:Pos} (he:QE X e te):QS X (.Return (some e) pos) (tRet te):=⟨L2.ps_ret (he:=he.run)⟩
theorem qs_set {X:Cx}{pos:Pos}{i:Nat}{x:Str}{e:Expr}{te:TE}{pos':Pos} (hN:X.N.Nodup) (hi:X.N[i]?=some x) (hx:Loc X.env.scope x) (he:QE X e te) (hs:swapsWith e (some (.Name x pos')) pos.line X.env=pure false:=by rfl) (hf:X.fn x=true∨X.env.scope.names.lookup x=some .local:=by first | exact .inl rfl | exact .inr rfl | assumption):QS X (.Assign [.Name x pos'] e pos) (tAsg te (gName i)):=⟨L2.ps_set (hN:=hN) (hi:=hi) (hx:=hx) (he:=he.run) (hs:=hs) (hf:=hf)⟩
theorem qs_if {X:Cx}{t u:TS}{pos:Pos}{c:Expr}{a b:List Stmt}{tc:TT} (hc:QT X c tc) (ha:QSs X a t) (hb:QSs X b u):QS X (.If c a b pos) (tIfS tc t u):=⟨L2.ps_if (hc:=hc.run) (ha:=ha.run) (hb:=hb.run)⟩
theorem qs_while {X:Cx}{pos:Pos}{c:Expr}{body:List Stmt}{tc:TT}{tb:TS} (hp:PassesOwn (model X.prog X.w) X.A X.env X.xe) (hc:QT X c tc) (hb:QSs X body tb):QS X (.While c body [] pos) (tWhile tc tb):=⟨L2.ps_while (hp:=hp) (hc:=hc.run) (hb:=hb.run)⟩
theorem qs_for {X:Cx}{tg:Expr}{iter:Expr}{body:List Stmt}{wi:TI}{g:TG}{tb:TS}{pos:Pos} (hp:PassesOwn (model X.prog X.w) X.A X.env X.xe) (hc:X.calm=true) (hi:QI X tg iter wi) (hg:QG X tg g) (hb:QSs X body tb) (hs:∀ x,foldedSetIterable iter X.env x=pure x:=by intro _; rfl):QS X (.For tg iter body [] pos) (tFor wi g tb):=⟨L2.ps_for (hp:=hp) (hc:=hc) (hi:=hi.run) (hg:=hg.run) (hb:=hb.run) (hs:=hs)⟩
theorem qs_expr {X:Cx}{e:Expr}{te:TE}{pos:Pos} (he:QE X e te) (hs:swapsWith e none pos.line X.env=pure false:=by rfl):QS X (.Expr e pos) (tDrop te):=⟨L2.ps_expr (he:=he.run) (hs:=hs)⟩
theorem qs_raise {P:Program}{w:World}{K:PySem.W.Frag}{mg:Str→Option Value}{base:Heap}{N:List Str}{qual:Str}{scope:Scope}{f:Addr}{cd:Value}{A:Around}{outer:List Env}{s₀:Shared}{H₀:Hp}{E:XK}{x:Str}{C:Addr}{B newId initId:String}{bmB:List Value}{np cpos pos:Pos} (FB:ExcBaseFacts B newId initId bmB) (q:PySem.W.excIn K C bmB newId=true) (hg:Gl (cxOf (CXE P w) P w K mg base N qual scope f cd A outer s₀ H₀ E) x) (hm:mg x=some (.ref C)) (hd:(x == ("__debug__":Str))=false:=by decide):QS (cxOf (CXE P w) P w K mg base N qual scope f cd A outer s₀ H₀ E) (.Raise (some (.Call (.Name x np) [] [] cpos)) none pos) (tRaise C E):=⟨Sw.ps_raise (FB:=FB) (q:=q) (hg:=hg) (hm:=hm) (hd:=hd)⟩
theorem qs_asg {X:Cx}{pos:Pos}{tg e:Expr}{te:TE}{g:TG} (he:QE X e te) (hg:QG X tg g) (hs:swapsWithSole [tg] e pos.line X.env=pure false:=by rfl) (hw:swappedStores [tg] e X.env=pure none:=by rfl) (h1:(assignEach [tg] X.env).map (·.2)=[assign tg X.env]:=by rfl):QS X (.Assign [tg] e pos) (tAsg te g):=⟨L2.ps_asg (he:=he.run) (hg:=hg.run) (hs:=hs) (hw:=hw) (h1:=h1)⟩
theorem qss_nil {X:Cx}:QSs X [] tNext:=⟨L2.pss_nil⟩
theorem qss_cons {X:Cx}{st:Stmt}{rest:List Stmt}{t u:TS} (h1:QS X st t) (h2:QSs X rest u):QSs X (st::rest) (tSeq t u):=⟨L2.pss_cons (h1:=h1.run) (h2:=h2.run)⟩
theorem qss_one {X:Cx}{st:Stmt}{t:TS} (h1:QS X st t):QSs X [st] t:=⟨L2.pss_one (h1:=h1.run)⟩
theorem qi_range1 {X:Cx}{tg:Expr}{a:Expr}{ta:TA}{p pos:Pos} (hg:Gl X "range") (hm:X.mg "range"=none) (ha:QA X [a] ta) (hs:starEach [a] X.env=[(false,eval a X.env)]:=by rfl):QI X tg (.Call (.Name "range" p) [a] [] pos) (iRng1 ta):=⟨L2.pi_range1 (hg:=hg) (hm:=hm) (ha:=ha.run) (hs:=hs)⟩
theorem qi_list {X:Cx}{tg:Expr}{l:Expr}{tl:TE} (hl:QE X l tl):QI X tg l (iList X.K tl):=⟨L2.pi_list (hl:=hl.run)⟩
theorem qi_tup {X:Cx}{tg:Expr}{l:Expr}{tl:TE} (hl:QE X l tl):QI X tg l (iTup X.K tl):=⟨L2.pi_tup (hl:=hl.run)⟩
theorem qg_name {X:Cx}{pos:Pos}{i:Nat}{x:Str} (hN:X.N.Nodup) (hi:X.N[i]?=some x) (hx:Loc X.env.scope x) (hf:X.fn x=true∨X.env.scope.names.lookup x=some .local:=by first | exact .inl rfl | exact .inr rfl | assumption):QG X (.Name x pos) (gName i):=⟨L2.pg_name (hN:=hN) (hi:=hi) (hx:=hx) (hf:=hf)⟩
theorem qg_tup {X:Cx}{pos:Pos}{es:List Expr}{k:Nat}{t:TGs}{n:Nat} (hc:X.calm=true) (h:QGs X es t) (hn:(assignEach es X.env).length=n:=by rfl) (hst:(assignEach es X.env).findIdx? (·.1)=none:=by rfl):QG X (.Tuple es k pos) (gTup X.K n t):=⟨L2.pg_tup (hc:=hc) (h:=h.run) (hn:=hn) (hst:=hst)⟩
theorem qgs_nil {X:Cx}:QGs X [] gNil:=⟨L2.pgs_nil⟩
theorem qgs_cons {X:Cx}{e:Expr}{es:List Expr}{t:TG}{u:TGs} (h1:QG X e t) (h2:QGs X es u) (hs:(assignEach (e::es) X.env).map (·.2)=assign e X.env::(assignEach es X.env).map (·.2):=by rfl):QGs X (e::es) (gCons t u):=⟨L2.pgs_cons (h1:=h1.run) (h2:=h2.run) (hs:=hs)⟩
theorem qo_none {X:Cx}:QO X none tNoPart:=⟨L2.po_none⟩
theorem qo_some {X:Cx}{e:Expr}{te:TE} (h:QE X e te):QO X (some e) (tPart te):=⟨L2.po_some (h:=h.run)⟩
theorem okQ {P:Program}{w:World}{K:PySem.W.Frag}{mg:Str→Option Value}{base:Heap}{x qual:Str}{st:Stmt}{f:Addr}{fd:FuncData}{N ps:List Str}{k:Nat}{sp:Sp} (F:Fun K x qual st f fd) (S:FnScope N ps (defScope st)) (len:∀ vs H Q E,sp vs H Q E→vs.length=ps.length)
  (hb:∀ (cdv:Value) (A:Around) (outer:List Env) (s:Shared) (H:Hp) (vs:List V) (Q:VK) (E:XK),Room k (A.deeper (envOfC qual (defScope st) s.heap.objs.size f cdv))→sp vs H Q E →
   ∃ t,QSs (cxOf CX0 P w K mg base N qual (defScope st) f cdv A outer s H E).nox (defBody st) t∧t { nx:=fun _ H'=>Q .non H',rt:=Q } (start N vs) H):FnOk P w K mg base CX0 (k+1) f fd ps sp :=
 F.ok S len fun cdv A outer s H vs Q E hr h=>let ⟨t,q,r⟩:=hb cdv A outer s H vs Q E hr h; ⟨t,q.run,r⟩
theorem okXQ {P:Program}{w:World}{K:PySem.W.Frag}{mg:Str→Option Value}{base:Heap}{x qual:Str}{st:Stmt}{f:Addr}{fd:FuncData}{N ps:List Str}{k:Nat}{sp:Sp} (F:Fun K x qual st f fd) (S:FnScope N ps (defScope st)) (len:∀ vs H Q E,sp vs H Q E→vs.length=ps.length)
  (hb:∀ (cdv:Value) (A:Around) (outer:List Env) (s:Shared) (H:Hp) (vs:List V) (Q:VK) (E:XK),Room k (A.deeper (envOfC qual (defScope st) s.heap.objs.size f cdv))→sp vs H Q E →
   ∃ t,QSs (cxOf (CXE P w) P w K mg base N qual (defScope st) f cdv A outer s H E) (defBody st) t∧t { nx:=fun _ H'=>Q .non H',rt:=Q } (start N vs) H):FnOk P w K mg base (CXE P w) (k+1) f fd ps sp :=
 okX F S len fun cdv A outer s H vs Q E hr h=>let ⟨t,q,r⟩:=hb cdv A outer s H vs Q E hr h; ⟨t,q.run,r⟩
end Sw
namespace Sw
open PySem PySem.Spec PyProof.Rows L2
theorem bt_len:bootBuiltins "len"=some (.builtin "len"):=by decide +kernel
theorem bt_sum:bootBuiltins "sum"=some (.builtin "sum"):=by decide +kernel
theorem bt_min:bootBuiltins "min"=some (.builtin "min"):=by decide +kernel
theorem bt_isinstance:bootBuiltins "isinstance"=some (.builtin "isinstance"):=by decide +kernel
theorem bt_str:bootBuiltins "str"=some (.type "str"):=by decide +kernel
theorem bt_tuple:bootBuiltins "tuple"=some (.type "tuple"):=by decide +kernel
theorem small {n:Nat} (h:n≤1000000):n≤sizeLine:=Nat.le_trans h (by decide)
theorem smallL {n:Nat} (h:n≤1000000):n<sizeLine:=Nat.lt_of_le_of_lt h (by decide)
theorem last_of {α:Type}{ys:List α} (h:ys≠[]):∃ y,ys[ys.length - 1]?=some y:=by
 have:ys.length - 1<ys.length:=by
  have:=List.length_pos_iff.mpr h
  lia
 exact⟨ys[ys.length - 1],List.getElem?_eq_getElem this⟩
theorem single_flat {α:Type}:∀ l:List α,(l.map fun c=>[c]).flatten=l
 | []=>rfl
 | c::l=>by rw [List.map_cons,List.flatten_cons,single_flat l]; rfl
theorem All2.dropLast {α β:Type}{R:α→β→Prop}{as:List α}{bs:List β} (h:All2 R as bs):All2 R as.dropLast bs.dropLast:=by
 rw [List.dropLast_eq_take,List.dropLast_eq_take,h.length]
 exact h.take _
theorem drop_last {α:Type}{ys:List α}{y:α} (h:ys[ys.length - 1]?=some y):ys=ys.dropLast++[y]:=by
 have hne:ys≠[]:=by rintro rfl; simp at h
 have h2:=List.dropLast_concat_getLast hne
 have h3:ys.getLast hne=y:=by
  rw [← List.getLast?_eq_getElem?,List.getLast?_eq_some_getLast hne] at h
  exact Option.some.inj h
 rw [h3] at h2
 exact h2.symm
theorem cut_from (xs:List V) (k:Nat):cutV xs (some (k:Int)) none=xs.drop k:=by
 unfold cutV
 rw [HT.sIx_nat,HT.sIx_none]
 by_cases h:k≤xs.length
 ·rw [Nat.min_eq_left h,List.take_of_length_le (by rw [List.length_drop]; lia)]
 ·rw [Nat.min_eq_right (by lia),List.drop_eq_nil_of_le (by lia),List.drop_eq_nil_of_le (by lia),List.take_nil]
theorem cut_to (xs:List V) (k:Nat):cutV xs none (some (k:Int))=xs.take k:=by
 unfold cutV
 rw [HT.sIx_nat,HT.sIx_none,List.drop_zero,Nat.sub_zero]
 by_cases h:k≤xs.length
 ·rw [Nat.min_eq_left h]
 ·rw [Nat.min_eq_right (by lia),List.take_of_length_le (Nat.le_refl _),List.take_of_length_le (by lia)]
section
variable {K:PySem.W.Frag}
theorem All2.rev {α β:Type}{R:α→β→Prop}{as:List α}{bs:List β} (h:All2 R as bs):All2 R as.reverse bs.reverse:=by
 induction h with
 | nil=>exact .nil
 | cons r _ ih=>rw [List.reverse_cons,List.reverse_cons]; exact ih.append (All2.one r)
def RowAt (K:PySem.W.Frag) (H₀ H:Hp) (ts:List T) (x:V):Prop:=∃ a xs,x=.ref a∧H₀ a=none∧H a=some (.lst xs)∧TRs K H ts xs
structure RowsR (K:PySem.W.Frag) (H₀ H:Hp) (p:Addr) (st:List (List T)) (ys:List V):Prop where
 new:H₀ p=none
 same:Same H₀ H
 at_:H p=some (.lst ys)
 rows:All2 (RowAt K H₀ H) st.reverse ys
 nd:((.ref p:V)::ys).Nodup
theorem RowAt.upd {H₀ H:Hp}{p:Addr}{o:HO}{ts:List T}{x:V} (h:RowAt K H₀ H ts x) (hne:x≠.ref p) (k:Kt H (upd H p o)):RowAt K H₀ (upd H p o) ts x:=by
 obtain⟨a,xs,rfl,h1,h2,h3⟩:=h
 exact⟨a,xs,rfl,h1,by rw [upd_ne (fun z=>hne (by rw [z]))]; exact h2,h3.mono k⟩
theorem rows_upd {H₀ H:Hp}{p:Addr}{o:HO} (k:Kt H (upd H p o)):∀ {ss:List (List T)}{ys:List V},All2 (RowAt K H₀ H) ss ys→(.ref p:V) ∉ ys→All2 (RowAt K H₀ (upd H p o)) ss ys:=by
 intro ss ys h
 induction h with
 | nil=>intro _; exact .nil
 | cons r _ ih=>intro hn; exact .cons (r.upd (fun z=>hn (by rw [z]; exact List.mem_cons_self)) k) (ih fun z=>hn (List.mem_cons_of_mem _ z))
theorem rows_open {H₀ H:Hp}{p q:Addr}{st:List (List T)}{ys:List V} (R:RowsR K H₀ H p st ys) (hq:H q=none):RowsR K H₀ (upd (upd H q (.lst [])) p (.lst (ys++[.ref q]))) p ([]::st) (ys++[.ref q]):=by
 have npq:p≠q:=ne_of_none R.at_ hq
 have hq0:H₀ q=none:=R.same.free hq
 have nin:(.ref q:V) ∉ ys:=fun hm=>by
  obtain⟨i,hi⟩:=List.mem_iff_getElem?.mp hm
  obtain⟨ts,_,a,xs,e,_,h2,_⟩:=R.rows.get hi
  cases e
  rw [hq] at h2
  cases h2
 have nd:=List.nodup_cons.mp R.nd
 have k1:Kt H (upd H q (.lst [])):=Kt.new hq
 have h1:upd H q (.lst []) p=some (.lst ys):=by rw [upd_ne npq]; exact R.at_
 have k2:Kt (upd H q (.lst [])) (upd (upd H q (.lst [])) p (.lst (ys++[.ref q]))):=Kt.lst h1
 refine⟨R.new,same_upd (same_upd R.same hq0) R.new,upd_same,?_,?_⟩
 ·rw [List.reverse_cons]
  refine All2.append (rows_upd k2 (rows_upd k1 R.rows nin) nd.1) (All2.one ⟨q,[],rfl,hq0,?_,TRs_nil.mpr rfl⟩)
  rw [upd_ne (Ne.symm npq)]
  exact upd_same
 ·rw [← List.cons_append]
  refine List.nodup_append.mpr ⟨R.nd,by simp,fun x hx y hy e=>?_⟩
  have ey:y=.ref q:=by simpa using hy
  rw [ey] at e
  subst e
  rcases List.mem_cons.mp hx with z | z
  ·exact npq (V.ref.inj z).symm
  ·exact nin z
theorem All2.snoc {α β:Type}{R:α→β→Prop}{as:List α}{a:α}{bs:List β} (h:All2 R (as++[a]) bs):∃ bs' b,bs=bs'++[b]∧All2 R as bs'∧R a b:=by
 induction as generalizing bs with
 | nil =>
  cases h with
  | cons r h=>cases h; exact⟨[],_,rfl,.nil,r⟩
 | cons c as ih =>
  cases h with
  | cons r h =>
   obtain⟨bs',b,rfl,h1,h2⟩:=ih h
   exact⟨_::bs',b,rfl,.cons r h1,h2⟩
theorem rows_shut {H₀ H:Hp}{p:Addr}{r r':List T}{rs:List (List T)}{ys:List V} (R:RowsR K H₀ H p (r::r'::rs) ys) :
  ∃ (ys0:List V) (a' a:Addr) (xs' xs:List V),ys=ys0++[.ref a']++[.ref a]∧H a=some (.lst xs)∧H a'=some (.lst xs')∧p≠a∧p≠a'∧xs.length=r.length∧xs'.length=r'.length ∧
   ∀ b,upd H p (.lst (ys0++[.ref a'])) b=none→RowsR K H₀ (upd (upd (upd H p (.lst (ys0++[.ref a']))) b (.tup xs)) a' (.lst (xs'++[.ref b]))) p ((r'++[.node r])::rs) (ys0++[.ref a']):=by
 have hr:=R.rows
 rw [List.reverse_cons,List.reverse_cons] at hr
 obtain⟨ys1,y,rfl,h1,a,xs,rfl,ha0,ha,hta⟩:=All2.snoc hr
 obtain⟨ys0,y',rfl,h2,a',xs',rfl,ha0',ha',hta'⟩:=All2.snoc h1
 have nd:=R.nd
 have ndp:(.ref p:V) ∉ ys0++[.ref a']++[.ref a]:=(List.nodup_cons.mp nd).1
 have ndy:=(List.nodup_cons.mp nd).2
 have npa:p≠a:=fun z=>ndp (by rw [z]; simp)
 have npa':p≠a':=fun z=>ndp (by rw [z]; simp)
 have nd1:(ys0++[V.ref a']).Nodup:=(List.nodup_append.mp ndy).1
 have na':(.ref a':V) ∉ ys0:=fun z=>(List.nodup_append.mp nd1).2.2 _ z _ (by simp) rfl
 refine⟨ys0,a',a,xs',xs,rfl,ha,ha',npa,npa',hta.length,hta'.length,fun b hb=>?_⟩
 have k1:Kt H (upd H p (.lst (ys0++[.ref a']))):=Kt.lst R.at_
 have k2:Kt (upd H p (.lst (ys0++[.ref a']))) (upd (upd H p (.lst (ys0++[.ref a']))) b (.tup xs)):=Kt.new hb
 have npb:p≠b:=fun z=>by rw [← z,upd_same] at hb; cases hb
 have nab:a'≠b:=fun z=>by
  rw [← z,upd_ne (Ne.symm npa'),ha'] at hb
  cases hb
 have hbH:H b=none:=by rw [upd_ne (Ne.symm npb)] at hb; exact hb
 have hb0:H₀ b=none:=R.same.free hbH
 have h3:upd (upd H p (.lst (ys0++[.ref a']))) b (.tup xs) a'=some (.lst xs'):=by rw [upd_ne nab,upd_ne (Ne.symm npa')]; exact ha'
 have k3:Kt (upd (upd H p (.lst (ys0++[.ref a']))) b (.tup xs)) (upd (upd (upd H p (.lst (ys0++[.ref a']))) b (.tup xs)) a' (.lst (xs'++[.ref b]))):=Kt.lst h3
 have nb0:(.ref b:V) ∉ ys0:=fun hm=>by
  obtain⟨i,hi⟩:=List.mem_iff_getElem?.mp hm
  obtain⟨ts,_,c,zs,e,_,g2,_⟩:=h2.get hi
  cases e
  rw [hbH] at g2
  cases g2
 have np0:(.ref p:V) ∉ ys0:=fun z=>ndp (by simp [z])
 refine⟨R.new,same_upd (same_upd (same_upd R.same R.new) hb0) ha0',?_,?_,?_⟩
 ·rw [upd_ne npa',upd_ne npb]
  exact upd_same
 ·rw [List.reverse_cons]
  refine All2.append (rows_upd k3 (rows_upd k2 (rows_upd k1 h2 np0) nb0) na') (All2.one ⟨a',xs'++[.ref b],rfl,ha0',upd_same,?_⟩)
  have kk:=k1.trans (k2.trans k3)
  refine TRs.append (hta'.mono kk) (TRs_cons.mpr ⟨_,[],rfl,TR_mk (xs:=xs) (SqT.of ?_) (hta.mono kk),TRs_nil.mpr rfl⟩)
  rw [upd_ne (Ne.symm nab)]
  exact upd_same
 ·exact List.nodup_cons.mpr ⟨fun z=>ndp (by rcases List.mem_append.mp z with z | z <;> simp [z] <;> simp_all),nd1⟩
theorem at_last {ys:List V}{v:V}:atI (ys++[v]) (-1)=some v:=by
 unfold atI ixN
 have hl:(ys++[v]).length=ys.length+1:=by simp
 rw [if_neg (by decide),if_pos (by rw [hl]; lia),hl,show ((-1:Int)+((ys.length+1:Nat):Int)).toNat=ys.length by lia,Option.bind_some]
 simp
theorem lc_own {X:Cx}{scope:Scope}{x:Str} (hk:scope.kind=.function) (hn:scope.names=[(Str.ofString ".0",NameKind.local),(x,NameKind.local)]) (hx:(x == (".0":Str))=false):LcOk X scope x [] [] [] where
 kind:=hk
 clos:=closureFor_none fun y hy z=>by
  rw [hn] at hy
  rcases List.mem_cons.mp hy with e | e
  ·rw [e] at z; cases z
  ·rw [List.mem_singleton.mp e] at z; cases z
 cell:=fun y hy z=>by
  rw [hn] at hy
  rcases List.mem_cons.mp hy with e | e
  ·rw [e] at z; cases z
  ·rw [List.mem_singleton.mp e] at z; cases z
 loc:=fun y hy _=>by
  rw [hn] at hy ⊢
  rcases List.mem_cons.mp hy with e | e
  ·rw [e]; rfl
  ·rw [List.mem_singleton.mp e]
   simp [List.lookup_cons,hx]
 var:=by rw [hn]; simp [List.lookup_cons,hx]
 sub:=fun y c e=>by simp at e
 has:=fun y hy=>by
  exfalso
  have key:∀ k,(relabel scope X.env).names.lookup y=some k→k=.local:=fun k e=>by
   have hr:(relabel scope X.env).names=[(Str.ofString ".0",NameKind.local),(x,NameKind.local)]:=by
    unfold relabel
    simp only [hn,List.map_cons,List.map_nil]
    rfl
   rw [hr] at e
   have:=PySem.mem_of_lookup e
   rcases List.mem_cons.mp this with e | e
   ·cases e; rfl
   ·have:=List.mem_singleton.mp e
    cases this; rfl
  rcases hy with h | h
  ·exact absurd (key _ h) (by decide)
  ·exact absurd (key _ h) (by decide)
 frk:=trivial
 nd:=by simp
theorem trs_of {K:PySem.W.Frag}{H:Hp}{ts:List T}{ys:List V} (h:All2 (fun t y=>TR K H t y) ts ys):TRs K H ts ys:=by
 induction h with
 | nil=>exact TRs_nil.mpr rfl
 | cons r _ ih=>exact TRs_cons.mpr ⟨_,_,rfl,r,ih⟩
end
end Sw
namespace Sw
open PySem PySem.Spec PyProof.Rows L2
section
variable {X:Cx}
def rCatTA (K:PySem.W.Frag):R2:=fun x y H Q=>∃ a b xs ys,x=.ref a∧y=.ref b∧SqT K H a xs∧SqT K H b ys∧xs.length+ys.length≤sizeLine∧∀ p H',Same H H'→SqT K H' p (xs++ys)→Q (.ref p) H'
theorem op_catTA:OpR X (binaryOp .Add) (rCatTA X.K):=by
 intro pins s σ H x y v u Q I rx ry h
 obtain⟨a,b,xs,ys,rfl,rfl,ha,hb,hz,q⟩:=h
 by_cases hx:xs=[]
 ·subst hx
  cases rx
  cases ry
  obtain⟨its,r1,p1,_⟩:=I.tuple ha
  obtain⟨its2,r2,p2,_⟩:=I.tuple hb
  have e1:its=[]:=r1.nil_iff.mpr rfl
  subst e1
  obtain⟨⟨cls,dd,data,sl⟩,ho,hc,n,hd⟩:=id p1
  obtain⟨⟨cls2,dd2,data2,sl2⟩,ho2,hc2,n2,hd2⟩:=id p2
  simp only at hc hd hc2 hd2
  subst hc hd hc2 hd2
  exact concat_meets ⟨_,ho,rfl⟩ ⟨_,ho2,rfl⟩ noFill_tuple_add seq_tuple_add PySem.F.slot_tuple_add PySem.F.entry_tuple_add (PySem.F.args_tuple_add_2 _ _)
   (tuple_addW0 a b ([]:List Value).toArray its2.toArray n n2 dd dd2 sl sl2 rfl) ⟨ho,ho2,⟨.ref b,H,I,rfl,q b H (Same.refl H) hb⟩⟩
 ·refine op_catT pins s σ H _ _ v u Q I rx ry ⟨a,b,xs,ys,rfl,rfl,ha,hb,hx,hz,fun e=>?_,fun _ p hp=>q p _ (same_new hp _) (SqT.of upd_same)⟩
  subst e
  exact q a H (Same.refl H) (by rw [List.append_nil]; exact ha)
theorem noFill_tuple_mul:fillsNumberSlot (.type "tuple") "mul"=pure false:=by
 first | kernel_rfl | (unfold fillsNumberSlot; kernel_rfl)
theorem repeat_tuple:seqRepeat? (.type "tuple")=pure (some (.builtin "tuple.__mul__")):=by
 unfold seqRepeat?
 first | kernel_rfl | (simp only [typeLookup_type,builtinLookup_eq_fast]; kernel_rfl) | rfl
theorem rmul_tuple (a:Int) (t:Tok) (l:Addr) (items:Array Value) (n:Nat) (dd:Option Addr) (sl:Array (Option Value)) :
  Meets (Builtin.«int.__rmul__» ⟨[.int a t,.ref l],[]⟩) (fun _ R s=>s.heap.get? l=some { cls:=.type "tuple",dict:=dd,data:=.seq items n,slots:=sl }∧R (.ok (.ret Value.notImplemented)) s) :=
 .of_wp fun prog w A R s h=>by
  obtain⟨hp,g,d,tk,os⟩:=s
  obtain⟨hl,h⟩:=h
  wp_walk
  exact⟨_,rfl,h⟩
theorem tmul_same (l:Addr) (items:Array Value) (n:Nat) (dd:Option Addr) (sl:Array (Option Value)) (k:Int) (t:Tok) (h0:(items.isEmpty || k == 1)=true) (h1:¬ (decide (k < -(2 ^ 63)) || decide (k ≥ 2 ^ 63))=true) :
  Meets (Builtin.«tuple.__mul__» ⟨[.ref l,.int k t],[]⟩) (fun _ R s=>s.heap.get? l=some { cls:=.type "tuple",dict:=dd,data:=.seq items n,slots:=sl }∧R (.ok (.ret (.ref l))) s) :=
 .of_wp fun prog w A R s h=>by
  obtain⟨hp,g,d,tk,os⟩:=s
  obtain⟨hl,h⟩:=h
  have f1:=AutoSeq1.idx_int
  have f2:=AutoSeq1.sub_tuple_tuple
  wp_walk using AutoSeq1.wpAny_loadPart' hl
  rw [if_neg h1]
  wp_walk using AutoSeq1.wpAny_loadPart' hl
  exact⟨_,rfl,h⟩
theorem tmul_zero (l:Addr) (items:Array Value) (n:Nat) (dd:Option Addr) (sl:Array (Option Value)) (k:Int) (t:Tok) (h0:¬ (items.isEmpty || k == 1)=true) (h1:¬ (decide (k < -(2 ^ 63)) || decide (k ≥ 2 ^ 63))=true) (h2:(decide (k≤0) || items.isEmpty)=true) :
  Meets (Builtin.«tuple.__mul__» ⟨[.ref l,.int k t],[]⟩) (fun _ R s=>s.heap.get? l=some { cls:=.type "tuple",dict:=dd,data:=.seq items n,slots:=sl }∧R (.ok (.ret (.ref s.heap.objs.size))) { s with heap:=s.heap.push { cls:=.type "tuple",data:=.seq #[] } }) :=
 .of_wp fun prog w A R s h=>by
  obtain⟨hp,g,d,tk,os⟩:=s
  obtain⟨hl,h⟩:=h
  have f1:=AutoSeq1.idx_int
  have f2:=AutoSeq1.sub_tuple_tuple
  wp_walk using AutoSeq1.wpAny_loadPart' hl
  rw [if_neg h1]
  wp_walk using AutoSeq1.wpAny_loadPart' hl
  exact⟨_,rfl,h⟩
theorem tmul_more (l:Addr) (items:Array Value) (n:Nat) (dd:Option Addr) (sl:Array (Option Value)) (k:Int) (t:Tok) (h0:¬ (items.isEmpty || k == 1)=true) (h1:¬ (decide (k < -(2 ^ 63)) || decide (k ≥ 2 ^ 63))=true) (h2:¬ (decide (k≤0) || items.isEmpty)=true)
  (h3:¬ (items.size:Int) * k > (2 ^ 63 - 1) / 8) (h4:¬ Builtin.Tuple.tupleTooMany ((items.size:Int) * k)=true) (h5:((List.replicate k.toNat items).foldl (·++·) #[]).size≤sizeLine) :
  Meets (Builtin.«tuple.__mul__» ⟨[.ref l,.int k t],[]⟩) (fun _ R s=>s.heap.get? l=some { cls:=.type "tuple",dict:=dd,data:=.seq items n,slots:=sl }∧R (.ok (.ret (.ref s.heap.objs.size))) { s with heap:=s.heap.push { cls:=.type "tuple",data:=.seq ((List.replicate k.toNat items).foldl (·++·) #[]) } }) :=
 .of_wp fun prog w A R s h=>by
  obtain⟨hp,g,d,tk,os⟩:=s
  obtain⟨hl,h⟩:=h
  have f1:=AutoSeq1.idx_int
  have f2:=AutoSeq1.sub_tuple_tuple
  wp_walk using AutoSeq1.wpAny_loadPart' hl
  rw [if_neg h1]
  wp_walk using AutoSeq1.wpAny_loadPart' hl
  rw [if_neg h3]
  wp_walk using AutoSeq1.wpAny_loadPart' hl
  exact⟨_,rfl,h⟩
def repV (xs:List V) (k:Int):List V:=(List.replicate k.toNat xs).flatten
def rRepTA (K:PySem.W.Frag):R2:=fun x y H Q=>∃ a k xs,x=.ref a∧y=.int k∧SqT K H a xs∧-(2 ^ 62)≤k∧k<2 ^ 62∧xs.length * k.toNat≤sizeLine∧∀ p H',Same H H'→SqT K H' p (repV xs k)→Q (.ref p) H'
theorem op_repTA:OpR X (binaryOp .Mult) (rRepTA X.K):=by
 intro pins s σ H x y v u Q I rx ry h
 obtain⟨a,k,xs,rfl,rfl,ha,h1,h2,hz,q⟩:=h
 cases rx
 obtain⟨t,rfl⟩:=ry
 obtain⟨its,r,p1,hzx⟩:=I.tuple ha
 have hlen:=r.length
 obtain⟨⟨cls,dd,data,sl⟩,ho,hc,n,hd⟩:=id p1
 simp only at hc hd
 subst hc hd
 have b1:¬ (decide (k < -(2 ^ 63)) || decide (k ≥ 2 ^ 63))=true:=by
  rw [decide_eq_false (by lia),decide_eq_false (by lia)]
  decide
 refine wpAny_binaryOp_repeat_ref (T:="tuple") (U:="int") (by decide) ⟨_,ho,rfl⟩ (fun s'=>typeIs_int s' k t) noFill_tuple_mul F.fills_int_mul F.slot_int_rmul repeat_tuple F.slot_int_index.lookup
  (call_meets F.slot_int_rmul (typeIs_int s k t) F.entry_int_rmul (F.args_int_rmul_2 _ _) (rmul_tuple k t a its.toArray n dd sl) ⟨ho,rfl,⟨_,ho,rfl⟩,?_⟩)
 by_cases c0:(its.toArray.isEmpty || k == 1)=true
 ·refine call_meets F.slot_tuple_mul ⟨_,ho,rfl⟩ F.entry_tuple_mul (F.args_tuple_mul_2 _ _) (tmul_same a its.toArray n dd sl k t c0 b1) ⟨ho,⟨.ref a,H,I,rfl,q a H (Same.refl H) ?_⟩⟩
  rcases Bool.or_eq_true_iff.mp c0 with z | z
  ·have:its=[]:=by simpa using z
   have hx:xs=[]:=r.nil_iff.mp this
   subst hx
   have:repV ([]:List V) k=[]:=by unfold repV; simp
   rw [this]
   exact ha
  ·have:k=1:=by simpa using z
   subst this
   have:repV xs 1=xs:=by unfold repV; simp
   rw [this]
   exact ha
 ·by_cases c2:(decide (k≤0) || its.toArray.isEmpty)=true
  ·refine call_meets F.slot_tuple_mul ⟨_,ho,rfl⟩ F.entry_tuple_mul (F.args_tuple_mul_2 _ _) (tmul_zero a its.toArray n dd sl k t c0 b1 c2) ⟨ho,?_⟩
   have hk:k≤0:=by
    rcases Bool.or_eq_true_iff.mp c2 with z | z
    ·exact of_decide_eq_true z
    ·rw [z] at c0
     exact absurd rfl c0
   have e0:repV xs k=[]:=by
    unfold repV
    rw [show k.toNat=0 by lia]
    rfl
   refine⟨.ref s.heap.objs.size,_,I.laid (t':=s.toks) (o:=.tup []) (fun b ob z=>Heap.get?_push_of_some _ z) (Nat.le_refl _) ?_,rfl,q _ _ (same_new (I.hok.fresh (Nat.le_refl _)) _) (by rw [e0]; exact SqT.of upd_same)⟩
   exact⟨Nat.zero_le _,[],.nil,IsTup.new _ _⟩
  ·have hk:0<k:=by
    by_cases hk:k≤0
    ·rw [decide_eq_true hk] at c2
     exact absurd rfl c2
    ·lia
   have hsz:its.toArray.size * k.toNat≤sizeLine:=by rw [List.size_toArray,← hlen]; exact hz
   have hsl:(sizeLine:Nat)=16777216:=sizeLine_eq
   have hpr:(its.toArray.size:Int) * k=((its.toArray.size * k.toNat:Nat):Int):=by
    rw [Int.natCast_mul,show ((k.toNat:Nat):Int)=k by lia]
   have hnew:(List.replicate k.toNat its.toArray).foldl (·++·) #[]=(List.replicate k.toNat its).flatten.toArray:=by
    have:=foldl_rep its k.toNat []
    rw [List.nil_append] at this
    exact this
   have hrl:(List.replicate k.toNat its).flatten.length≤sizeLine:=by
    rw [len_rep,Nat.mul_comm]
    simpa using hsz
   refine call_meets F.slot_tuple_mul ⟨_,ho,rfl⟩ F.entry_tuple_mul (F.args_tuple_mul_2 _ _) (tmul_more a its.toArray n dd sl k t c0 b1 c2 ?_ ?_ ?_) ⟨ho,?_⟩
   ·rw [hpr]
    have:((2:Int) ^ 63 - 1) / 8=1152921504606846975:=by decide
    rw [this]
    lia
   ·unfold Builtin.Tuple.tupleTooMany
    rw [hpr,decide_eq_false (by lia)]
    decide
   ·rw [hnew,List.size_toArray]
    exact hrl
   ·rw [hnew]
    have rr:=r.rep k.toNat
    refine⟨.ref s.heap.objs.size,_,I.laid (t':=s.toks) (o:=.tup (repV xs k)) (fun b ob z=>Heap.get?_push_of_some _ z) (Nat.le_refl _) ?_,rfl,q _ _ (same_new (I.hok.fresh (Nat.le_refl _)) _) (SqT.of upd_same)⟩
    exact⟨by unfold repV; rw [rr.length]; exact hrl,_,rr,IsTup.new _ _⟩
end
theorem lc_rangeI {H:Hp}{lo:Int}{n:Nat}{σ:Sg}{js:List Nat}{te:TE}{Q:VK} (J:Addr→Nat→List V→Hp→Prop) (hz:n≤sizeLine) (h0:∀ D,H D=none→J D 0 [] (upd H D (.lst [])))
  (hD:∀ D i ys H',J D i ys H'→H' D=some (.lst ys)∧ys.length=i)
  (hte:∀ D i ys H' (R:VK),i<n→J D i ys H'→(∀ y H3,H3 D=some (.lst ys)→J D (i+1) (ys++[y]) (upd H3 D (.lst (ys++[y])))→R y H3)→te (some (.int (lo+i))::frv σ js) H' R)
  (q:∀ D ys H',J D n ys H'→Q (.ref D) H'):LcRun (Itr lo n) js te σ Q H:=by
 intro D hDn
 refine⟨fun i m ys H'=>m=n - i∧i≤n∧J D i ys H',⟨n,by lia,Nat.zero_le _,h0 D hDn⟩,?_⟩
 rintro i m ys H' ⟨rfl,hi,hj⟩
 obtain⟨h1,h2⟩:=hD D i ys H' hj
 refine⟨h1,?_⟩
 by_cases hlt:i<n
 ·refine .inr ⟨hlt,fun x H2 y=>?_⟩
  obtain⟨e,y⟩:=y
  subst e
  subst y
  exact hte D i ys _ _ hlt hj fun y H3 g1 g2=>⟨g1,by lia,n - (i+1),by lia,rfl,hlt,g2⟩
 ·have e:i=n:=by lia
  subst e
  exact .inl ⟨Nat.le_refl _,q D ys H' hj⟩
theorem lc_tupI {K:PySem.W.Frag}{H:Hp}{a:Addr}{xs:List V}{σ:Sg}{js:List Nat}{te:TE}{Q:VK} (J:Addr→Nat→List V→Hp→Prop) (hz:xs.length≤sizeLine) (h0:∀ D,H D=none→J D 0 [] (upd H D (.lst [])))
  (hD:∀ D i ys H',J D i ys H'→H' D=some (.lst ys)∧ys.length=i∧SqT K H' a xs)
  (hte:∀ D i x ys H' (R:VK),xs[i]?=some x→J D i ys H'→(∀ y H3,H3 D=some (.lst ys)→J D (i+1) (ys++[y]) (upd H3 D (.lst (ys++[y])))→R y H3)→te (some x::frv σ js) H' R)
  (q:∀ D ys H',J D xs.length ys H'→Q (.ref D) H'):LcRun (Itt K a) js te σ Q H:=by
 intro D hDn
 refine⟨fun i m ys H'=>m=xs.length - i∧i≤xs.length∧J D i ys H',⟨xs.length,by lia,Nat.zero_le _,h0 D hDn⟩,?_⟩
 rintro i m ys H' ⟨rfl,hi,hj⟩
 obtain⟨h1,h2,h3⟩:=hD D i ys H' hj
 refine⟨h1,?_⟩
 by_cases hlt:i<xs.length
 ·refine .inr ⟨⟨xs,xs[i],h3,List.getElem?_eq_getElem hlt⟩,fun x H2 y=>?_⟩
  obtain⟨e,y⟩:=y
  subst e
  exact hte D i x ys _ _ (y xs h3) hj fun y H3 g1 g2=>⟨g1,by lia,xs.length - (i+1),by lia,rfl,hlt,g2⟩
 ·have e:i=xs.length:=by lia
  subst e
  exact .inl ⟨⟨xs,h3,Nat.le_refl _⟩,q D ys H' hj⟩
theorem lc_listI {K:PySem.W.Frag}{H:Hp}{a:Addr}{xs:List V}{σ:Sg}{js:List Nat}{te:TE}{Q:VK} (J:Addr→Nat→List V→Hp→Prop) (hz:xs.length≤sizeLine) (h0:∀ D,H D=none→J D 0 [] (upd H D (.lst [])))
  (hD:∀ D i ys H',J D i ys H'→H' D=some (.lst ys)∧ys.length=i∧SqL K H' a xs)
  (hte:∀ D i x ys H' (R:VK),xs[i]?=some x→J D i ys H'→(∀ y H3,H3 D=some (.lst ys)→J D (i+1) (ys++[y]) (upd H3 D (.lst (ys++[y])))→R y H3)→te (some x::frv σ js) H' R)
  (q:∀ D ys H',J D xs.length ys H'→Q (.ref D) H'):LcRun (Itl K a) js te σ Q H:=by
 intro D hDn
 refine⟨fun i m ys H'=>m=xs.length - i∧i≤xs.length∧J D i ys H',⟨xs.length,by lia,Nat.zero_le _,h0 D hDn⟩,?_⟩
 rintro i m ys H' ⟨rfl,hi,hj⟩
 obtain⟨h1,h2,h3⟩:=hD D i ys H' hj
 refine⟨h1,?_⟩
 by_cases hlt:i<xs.length
 ·refine .inr ⟨⟨xs,xs[i],h3,List.getElem?_eq_getElem hlt⟩,fun x H2 y=>?_⟩
  obtain⟨e,y⟩:=y
  subst e
  exact hte D i x ys _ _ (y xs h3) hj fun y H3 g1 g2=>⟨g1,by lia,xs.length - (i+1),by lia,rfl,hlt,g2⟩
 ·have e:i=xs.length:=by lia
  subst e
  exact .inl ⟨⟨xs,h3,Nat.le_refl _⟩,q D ys H' hj⟩
end Sw
namespace Sw
open PySem PySem.Spec PyProof.Rows L2
section
variable {X:Cx}{scope:Scope}{cl:List (Str×Addr)}{x:Str}{fr:List Str}{js:List Nat}{elt iter:Expr}{px pos:Pos}{wi:TI}{te:TE}{pins:List (Addr×Obj)}{s:Shared}{σ:Sg}{H:Hp}
theorem lc_core {Q:VK} (use:Option (Value→Sem Unit)) (QQ:Value→Shared→Prop) (hc:X.calm=true) (L:LcOk X scope x fr js cl) (hi:PI X (.Name x px) iter wi)
  (he:∀ C s H fp pins,PE (blk X scope cl C (x::fr) s H fp pins) elt te)
  (hs:∀ v,foldedSetIterable iter X.env v=pure v) (I:Inv X pins σ H s) (h:tLC wi js te σ H Q)
  (fin:∀ (D C:Addr) (s6:Shared) (H5:Hp) (m6:Str→Option Value),s6.heap.Ns C m6→H5 C=none→(∀ h',Heap.SameBut C s6.heap h'→Inv X pins σ H5 { s6 with heap:=h' })→X.env.locals≠C→X.s₀.heap.objs.size≤C →
   (∀ y c,X.env.cells.lookup y=some c→c≠C)→(∀ p∈X.pn++pins,p.1≠C)→Q (.ref D) H5→compPost (model X.prog X.w) X.A X.xe use QQ (.ref D) C (.ok .next) s6) :
  wpAny (model X.prog X.w) X.A (comprehension (.ListComp elt [⟨.Name x px,iter,[],0⟩] scope pos) scope X.env (firstIterPos [⟨.Name x px,iter,[],0⟩] pos) (newList []) false (eval iter X.env) use) QQ X.xe s:=by
 refine wpAny_comprehension_free rfl hs L.clos L.kind L.loc (thn (hi pins s σ H _ I h) fun v s1 h1=>thn h1 fun itv s2 h2=>?_)
 obtain⟨it,fp,tn,J,H2,e,I2,T,st2,f2,rd⟩:=h2
 subst e
 obtain⟨W,⟨m0,w0⟩,turn⟩:=rd _ I2.fresh
 have I3:=I2.lnew (ys:=[]) (its:=[]) (t':=s2.toks) .nil (Nat.zero_le _)
 refine wpAny_newObj_type ?_
 have fsz2:∀ b∈fp,b<s2.heap.objs.size:=fun b hb=>by
  obtain⟨o,ho,_⟩:=T.obj 0 _ st2 b hb
  exact Heap.lt_size ho
 generalize hs3:({ s2 with heap:=s2.heap.push { cls:=.type "list",dict:=none,data:=.seq ([]:List Value).toArray } }:Shared)=s3
 have I3':Inv X pins σ (upd H2 s2.heap.objs.size (.lst [])) s3:=by rw [← hs3]; exact I3
 have sz3:s3.heap.objs.size=s2.heap.objs.size+1:=by rw [← hs3]; exact Heap.size_push ..
 have k23:∀ b o,s2.heap.get? b=some o→s3.heap.get? b=some o:=fun b o e=>by rw [← hs3]; exact Heap.get?_push_of_some _ e
 have fsz:∀ b∈fp,b<s3.heap.objs.size:=fun b hb=>by rw [sz3]; exact Nat.lt_succ_of_lt (fsz2 b hb)
 have f3:∀ b∈fp,FpOk X pins (upd H2 s2.heap.objs.size (.lst [])) b:=fun b hb=>⟨by rw [upd_ne (Nat.ne_of_lt (fsz2 b hb))]; exact (f2 b hb).1,(f2 b hb).2⟩
 refine wpAny_newFunctionEnv L.cell (by intro y hy; simp at hy) (fun h4 hn4 hsb4=>?_) L.kind
 have k34:∀ b o,s3.heap.get? b=some o→h4.get? b=some o:=fun b o e=>(hsb4.2 b (Nat.ne_of_lt (Heap.lt_size e))).trans (Heap.get?_push_of_some _ e)
 generalize hX':blk X scope cl s3.heap.objs.size (x::fr) s3 (upd H2 s2.heap.objs.size (.lst [])) fp pins=X'
 have I4:Inv X' [] (none::frv σ js) (upd H2 s2.heap.objs.size (.lst [])) { s3 with heap:=h4,toks:=s3.toks+([]:List (Str×Value)).length }:=by
  rw [← hX']; exact blk_inv I3' L hc f3 fsz hn4 k34
 have st4:tn 0 h4:=T.keep _ _ _ st2 fun b _ o e=>k34 b o (k23 b o e)
 have he':PE X' elt te:=by rw [← hX']; exact he _ _ _ _ _
 have xp:X'.prog=X.prog:=by rw [← hX']; rfl
 have xw:X'.w=X.w:=by rw [← hX']; rfl
 have xK:X'.K=X.K:=by rw [← hX']; rfl
 have xA:X'.A=X.A:=by rw [← hX']; rfl
 have xc:X'.calm=true:=by rw [← hX']; rfl
 have xe:X'.xe=fun _ _=>False:=by rw [← hX']; rfl
 have xn:X'.N=x::fr:=by rw [← hX']; rfl
 have xv:X'.env=compEnvC scope cl s3.heap.objs.size X.env:=by rw [← hX']; rfl
 have xpn:X'.pn=X.pn++pins:=by rw [← hX']; rfl
 have xex:X'.ex=fp:=by rw [← hX']; rfl
 have xfs:X'.fs=frs X.stack:=by rw [← hX']; rfl
 have back:∀ {H':Hp}{s':Shared}{h':Heap}{σ':Sg},Inv X' [] σ' H' s'→Heap.SameBut s3.heap.objs.size s'.heap h'→Inv X pins σ H' { s' with heap:=h' }:=fun {H' s' h' σ'} J' hsb=>by
  rw [← hX'] at J'; exact blk_back I3' J' f3 hsb
 have frame:∀ b∈fp,b ∉ frs X.stack:=fun b hb z=>by
  rcases List.mem_cons.mp (I3'.stkSub b z) with e | e
  ·exact (f3 b hb).2.1 e
  ·exact (f3 b hb).2.2.1 e
 have stat:∀ {H':Hp},(∀ b∈fp,H' b=none)→∀ b∈fp,FpOk X' [] H' b:=fun {H'} hn b hb=>by
  refine⟨hn b hb,?_,?_,.inl (by rw [xex]; exact hb),?_,?_⟩
  ·rw [xv]; exact Nat.ne_of_lt (fsz b hb)
  ·rw [xfs]; exact frame b hb
  ·rw [xv]; exact fun y c e=>(f3 b hb).2.2.2.2.1 y c (L.sub y c e)
  ·rw [xpn,List.append_nil]; exact (f3 b hb).2.2.2.2.2
 have loop:codeAny (model X.prog X.w) X.A (.compLoop (.ListComp elt [⟨.Name x px,iter,[],0⟩] scope pos) 0 (.ref it) (.ref s2.heap.objs.size) (compEnvC scope cl s3.heap.objs.size X.env))
   (compPost (model X.prog X.w) X.A X.xe use QQ (.ref s2.heap.objs.size) s3.heap.objs.size) { s3 with heap:=h4,toks:=s3.toks+([]:List (Str×Value)).length }:=by
  refine lc_loop (fun n s'=>∃ i ys o H',Inv X' [] (o::frv σ js) H' s'∧tn i s'.heap∧(∀ b∈fp,H' b=none)∧W i n ys H') ?_ m0 ⟨0,[],none,_,I4,st4,fun b hb=>(f3 b hb).1,w0⟩
  rintro n s5 ⟨i,ys,o,H5,I5,st5,fr5,w5⟩
  obtain⟨hD,hstep⟩:=turn i n ys H5 w5
  rcases hstep with⟨stop,qn⟩ | ⟨go,step⟩
  ·have q:=T.done X' xp xw xK xc i [] s5 _ H5 (fun _ _=>False) I5 (stat fr5) st5 stop
   rw [xA] at q
   refine thn q fun r s6 ⟨hr,I6⟩=>?_
   subst hr
   obtain⟨m6,hn6,_⟩:=I6.loc
   rw [xv] at hn6
   have nC:H5 s3.heap.objs.size=none:=by
    have q:=I6.free
    rw [xv] at q
    exact q
   exact fin s2.heap.objs.size s3.heap.objs.size s6 H5 m6 hn6 nC (fun h' hsb=>back I6 hsb) (Nat.ne_of_lt I3'.lt) I3'.sz (fun y c e=>Nat.ne_of_lt (by
    obtain⟨v,hv⟩:=I3'.cell y c e
    obtain⟨o,ho,_⟩:=hv
    exact Heap.lt_size ho)) (fun p hp=>Nat.ne_of_lt (Heap.lt_size (I3'.pin p hp).1)) qn
  ·have q:=T.item X' xp xw xK xc i [] s5 _ H5 (fun _ _=>False) I5 (stat fr5) st5 go
   rw [xA] at q
   refine thn q fun r s6 ⟨u,hr,h6⟩=>?_
   subst hr
   refine thn h6 fun _ s7 ⟨xx,H7,I7,r7,y7,st7,fr7⟩=>?_
   have I7':=I7.pinned (stat fr7) (T.obj _ _ st7)
   have hg:PG X' (.Name x px) (gName 0):=by
    refine pg_name (i:=0) (x:=x) (by rw [xn]; exact L.nd) (by rw [xn]; rfl) ?_ ?_
    ·rw [xv]; exact .inl (lookup_relabel_local L.var)
    ·rw [xv]; exact .inr (lookup_relabel_local L.var)
   have q7:=hg _ s7 _ H7 xx u (fun σ8 H8=>σ8=some xx::frv σ js∧H8=H7) I7' r7 ⟨rfl,rfl⟩
   rw [xp,xw,xA,xe,xv] at q7
   refine thn q7 fun _ s8 ⟨σ8,H8,I8,e8,e8'⟩=>?_
   subst e8 e8'
   have q8:=he' _ s8 _ _ _ I8 (step xx _ y7)
   rw [xp,xw,xA,xe,xv] at q8
   refine thn q8 fun yv s9 ⟨y,H9,I9,r9,d9,z9,m9,hm9,w9⟩=>?_
   have q9:=mt_append (X:=X') _ s9 _ H9 (.ref s2.heap.objs.size) [y] (.ref s2.heap.objs.size) [yv] (fun z H'=>H'=upd H9 s2.heap.objs.size (.lst (ys++[y]))) I9 rfl (.cons r9 .nil) ⟨_,ys,y,rfl,rfl,d9,z9,rfl⟩
   rw [xp,xw,xA,xe] at q9
   refine thn q9 fun _ s10 ⟨_,H10,I10,_,e10⟩=>?_
   subst e10
   refine⟨m9,hm9,i+1,ys++[y],some xx,_,I10.unpinned,T.keep _ _ _ st7 fun b hb ob e=>(I10.pin (b,ob) (List.mem_append_right _ (List.mem_append_right _ (mem_pinsAt hb e)))).1,fun b hb=>?_,w9⟩
   obtain⟨ob,e,_⟩:=T.obj _ _ st7 b hb
   exact (I10.pin (b,ob) (List.mem_append_right _ (List.mem_append_right _ (mem_pinsAt hb e)))).2.1
 exact codeAny_compStart_list loop (T.self _ 0 _ _ _ st4 loop)
theorem ps_setLC {i:Nat}{y:Str}{py spos:Pos} (hN:X.N.Nodup) (hy:X.N[i]?=some y) (hx:Loc X.env.scope y) (hc:X.calm=true) (L:LcOk X scope x fr js cl) (hi:PI X (.Name x px) iter wi)
  (he:∀ C s H fp pins,PE (blk X scope cl C (x::fr) s H fp pins) elt te)
  (hs:∀ v,foldedSetIterable iter X.env v=pure v:=by intro _; rfl)
  (hsw:swapsWith (.ListComp elt [⟨.Name x px,iter,[],0⟩] scope pos) (some (.Name y py)) spos.line X.env=pure true:=by rfl)
  (hf:X.fn y=true∨X.env.scope.names.lookup y=some .local:=by first | exact .inl rfl | exact .inr rfl | assumption) :
  PS X (.Assign [.Name y py] (.ListComp elt [⟨.Name x px,iter,[],0⟩] scope pos) spos) (tAsg (tLC wi js te) (gName i)):=by
 intro pins s σ H D I h
 rw [exec_Assign_Name_used _ _ _ _ hsw]
 refine wpAny_bind (wpAny_standAt (wpAny_bind ?_))
 show wpAny _ X.A (do let _ ← comprehension (.ListComp elt [⟨.Name x px,iter,[],0⟩] scope pos) scope X.env (firstIterPos [⟨.Name x px,iter,[],0⟩] pos) (newList []) false (eval iter X.env) (some (assign (.Name y py) X.env))) _ _ s
 refine wpAny_bind (wpAny_mono (lc_core (some (assign (.Name y py) X.env)) (fun _ s'=>SP X pins D .next s') hc L hi he hs I h ?_) (fun _ s' hq=>wpAny_pure (wpAny_pure hq)) fun _ _ e=>e)
 intro Dd C s6 H5 m6 hn nC back hLC hsz hcell hpin q
 have J:Inv X pins σ H5 s6:=back s6.heap (Heap.SameBut.refl _ _)
 show wpAny _ X.A (assign (.Name y py) X.env (.ref Dd)) _ _ _
 refine wpAny_assign_Name (store_ok2 (v:=.ref Dd) J hN hy hx rfl (fun s7 I7 hsb=>?_) hf)
 obtain⟨a,hsb,ha⟩:=hsb
 have haC:C≠a:=by
  rcases ha with e | e
  ·rw [e]; exact Ne.symm hLC
  ·exact Ne.symm (hcell _ _ e)
 refine⟨m6,hn.sameBut hsb haC,fun h' hs'=>?_⟩
 have k:∀ b o,b≠C→s7.heap.get? b=some o→h'.get? b=some o:=fun b o n e=>hs'.extBut b o n e
 have J':=I7.turned (t':=s7.toks) k nC (Ne.symm hLC) (.inr hsz) hcell hpin
 exact⟨_,_,J',q⟩
end
theorem qs_setLC {X:Cx}{scope:Scope}{cl:List (Str×Addr)}{x:Str}{fr:List Str}{js:List Nat}{elt iter:Expr}{px pos:Pos}{wi:TI}{te:TE}{i:Nat}{y:Str}{py spos:Pos} (hN:X.N.Nodup) (hy:X.N[i]?=some y) (hx:Loc X.env.scope y) (hc:X.calm=true) (L:LcOk X scope x fr js cl) (hi:QI X (.Name x px) iter wi)
  (he:∀ C s H fp pins,QE (blk X scope cl C (x::fr) s H fp pins) elt te)
  (hs:∀ v,foldedSetIterable iter X.env v=pure v:=by intro _; rfl)
  (hsw:swapsWith (.ListComp elt [⟨.Name x px,iter,[],0⟩] scope pos) (some (.Name y py)) spos.line X.env=pure true:=by rfl)
  (hf:X.fn y=true∨X.env.scope.names.lookup y=some .local:=by first | exact .inl rfl | exact .inr rfl | assumption) :
  QS X (.Assign [.Name y py] (.ListComp elt [⟨.Name x px,iter,[],0⟩] scope pos) spos) (tAsg (tLC wi js te) (gName i)) :=
 ⟨ps_setLC hN hy hx hc L hi.run (fun C s H fp pins=>(he C s H fp pins).run) hs hsw hf⟩
end Sw
namespace Sw
open PySem PySem.Spec PyProof.Rows L2
section
variable {K:PySem.W.Frag}{H:Hp}{Q:VK}
theorem nCat {ts us:List T}{x y:V} (hx:TR K H (.node ts) x) (hy:TR K H (.node us) y) (hz:ts.length+us.length≤sizeLine) (q:∀ z H',Same H H'→TR K H' (.node (ts++us)) z→Q z H'):rCatTA K x y H Q:=by
 obtain⟨a,xs,rfl,ha,ra⟩:=TR_node.mp hx
 obtain⟨b,ys,rfl,hb,rb⟩:=TR_node.mp hy
 refine⟨a,b,xs,ys,rfl,rfl,ha,hb,by rw [ra.length,rb.length]; exact hz,fun p H' S h=>q _ _ S (TR_mk h ((ra.append rb).mono (.of S)))⟩
theorem TRs.at {ts:List T}{xs:List V} (h:TRs K H ts xs) {i:Nat}{t:T} (e:ts[i]?=some t):∃ x,xs[i]?=some x∧TR K H t x:=by
 have hl:=h.length
 have hi:i<ts.length:=(List.getElem?_eq_some_iff.mp e).1
 have e2:xs[i]?=some (xs[i]'(by lia)):=List.getElem?_eq_getElem _
 obtain⟨t',e3,h3⟩:=h.get e2
 rw [e] at e3
 cases e3
 exact⟨_,e2,h3⟩
theorem nIx {ts:List T}{x y:V}{t:T} (hx:TR K H (.node ts) x) (i:Nat) (e:ts[i]?=some t) (q:∀ z,TR K H t z→Q z H) (hy:y=.int ((i:Nat):Int):=by rfl):rIxT K x y H Q:=by
 obtain⟨a,xs,rfl,ha,ra⟩:=TR_node.mp hx
 obtain⟨v,e2,h2⟩:=ra.at e
 exact⟨a,xs,_,v,rfl,hy,ha,atI_nat e2,q v h2⟩
theorem nFrom {ts:List T}{x:V} (hx:TR K H (.node ts) x) (k:Nat) {j:Option Int} (q:∀ z H',Same H H'→TR K H' (.node (ts.drop k)) z→Q z H') (hj:j=some ((k:Nat):Int):=by rfl):rSlTA K x j none H Q:=by
 obtain⟨a,xs,rfl,ha,ra⟩:=TR_node.mp hx
 subst hj
 refine⟨a,xs,rfl,ha,fun p H' S h=>q _ _ S (TR_mk h ?_)⟩
 rw [cut_from]
 exact (ra.drop k).mono (.of S)
theorem trs1 {t:T}{x:V} (h:TR K H t x):TRs K H [t] [x]:=TRs_cons.mpr ⟨x,[],rfl,h,TRs_nil.mpr rfl⟩
theorem trs2 {t u:T}{x y:V} (h:TR K H t x) (g:TR K H u y):TRs K H [t,u] [x,y]:=TRs_cons.mpr ⟨x,[y],rfl,h,trs1 g⟩
end
section
variable {X:Cx}{K:PySem.W.Frag}
end
theorem bt_all:bootBuiltins "all"=some (.builtin "all"):=by decide +kernel
section
variable {X:Cx}
theorem bools_at:∀ {bs:List Bool}{its:List Value},Vals (bs.map V.bl) its→its=bs.map Value.bool
 | [],_,h=>by cases h; rfl
 | b::bs,_,h=>by
  cases h with
  | cons r q =>
   rw [bools_at q]
   exact congrArg (·::_) r
theorem range_all (bs:List Bool):(List.range bs.length).all (fun i=>bs.getD i true)=bs.all id:=by
 rw [Bool.eq_iff_iff,List.all_eq_true,List.all_eq_true]
 refine⟨fun h b hb=>?_,fun h i hi=>?_⟩
 ·obtain⟨i,hi,e⟩:=List.getElem_of_mem hb
  have:=h i (List.mem_range.mpr hi)
  rw [List.getD_eq_getElem?_getD,List.getElem?_eq_getElem hi,Option.getD_some,e] at this
  exact this
 ·have hi':=List.mem_range.mp hi
  rw [List.getD_eq_getElem?_getD,List.getElem?_eq_getElem hi',Option.getD_some]
  exact h _ (List.getElem_mem hi')
theorem call_all (hc:X.calm=true):CallR X (.builtin "all") (fun xs H Q=>∃ (p:Addr) (bs:List Bool),xs=[.ref p]∧SqL X.K H p (bs.map V.bl)∧Q (.bl (bs.all id)) H):=by
 intro pins s σ H xs us Q I r h
 obtain⟨p,bs,rfl,hq,q⟩:=h
 obtain⟨u,rfl,rx⟩:=vals1 r
 cases rx
 obtain⟨its,r',pl,hz⟩:=I.list hq
 have hit:=bools_at r'
 subst hit
 have hl:=pl.isList
 have hlt:p<s.heap.objs.size:=by obtain⟨_,e,_⟩:=hl; exact Heap.lt_size e
 refine call_all_walk (wpAny_pyIter_list hl ?_)
 refine⟨_,_,_,_,_,_,fun i=>bs.getD i true,rfl,Walks.list (A:=X.A.in1) (I.ok.hd hc) _ p (Nat.ne_of_lt hlt) (bs.map Value.bool).toArray,⟨⟨_,Heap.get?_push_size _ rfl,rfl,rfl⟩,hl.push _⟩,?_,fun h' tk hk=>?_⟩
 ·intro i v s Q E hv hQ
  rw [List.getElem?_toArray,List.getElem?_map] at hv
  cases hh:bs[i]? with
  | none=>rw [hh] at hv; cases hv
  | some b =>
   rw [hh] at hv
   cases hv
   have hQ':Q (bs.getD i true) s:=hQ
   rw [List.getD_eq_getElem?_getD,hh] at hQ'
   exact wpAny_truthy_bool hQ'
 ·have es:(List.range (bs.map Value.bool).toArray.size).all (fun i=>bs.getD i true)=bs.all id:=by
   rw [List.size_toArray,List.length_map]
   exact range_all bs
  rw [es]
  exact⟨.bl (bs.all id),H,I.kept (old_kept hk),rfl,q⟩
end
def B (a b:Nat) (t:T):Prop:=t.deep≤a∧t.parts≤b
theorem B.le {a b a' b':Nat}{t:T} (h:B a b t) (h1:a≤a') (h2:b≤b'):B a' b' t:=⟨Nat.le_trans h.1 h1,Nat.le_trans h.2 h2⟩
theorem B_nil:B 0 1 (.node []):=⟨by rw [T.deep_node,T.deepL_nil]; lia,by rw [T.parts_node,T.partsL_nil]; lia⟩
theorem B_cons {a b a' b':Nat}{t:T}{ts:List T} (h:B a b t) (g:B a' b' (.node ts)):B (max (a+1) a') (b+b') (.node (t::ts)):=by
 obtain⟨h1,h2⟩:=h
 obtain⟨g1,g2⟩:=g
 rw [T.deep_node] at g1
 rw [T.parts_node] at g2
 refine⟨?_,?_⟩
 ·rw [T.deep_node,T.deepL_cons]; lia
 ·rw [T.parts_node,T.partsL_cons]; lia
theorem B_cat {a b a' b':Nat}{us:List T} (g:B a' b' (.node us)):∀ {ts:List T},B a b (.node ts)→B (max a a') (b+b') (.node (ts++us))
 | [],_=>g.le (by lia) (by lia)
 | t::ts,h=>by
  obtain⟨h1,h2⟩:=h
  rw [T.deep_node,T.deepL_cons] at h1
  rw [T.parts_node,T.partsL_cons] at h2
  have q:=B_cat g (ts:=ts) (a:=a) (b:=b - t.parts) ⟨by rw [T.deep_node]; lia,by rw [T.parts_node]; lia⟩
  have q1:=q.1
  have q2:=q.2
  rw [T.deep_node] at q1
  rw [T.parts_node] at q2
  refine⟨?_,?_⟩
  ·rw [List.cons_append,T.deep_node,T.deepL_cons]; lia
  ·rw [List.cons_append,T.parts_node,T.partsL_cons]; lia
theorem B_tup1 {a b:Nat}{t:T} (h:B a b t):B (a+1) (b+1) (.node [t]):=(B_cons h B_nil).le (by lia) (by lia)
theorem B_row {a b n:Nat}:∀ {ts:List T},(∀ t∈ts,B a b t)→ts.length≤n→B (a+1) (1+n * b) (.node ts)
 | [],_,_=>B_nil.le (by lia) (by lia)
 | t::ts,h,hl=>by
  rw [List.length_cons] at hl
  obtain⟨m,rfl⟩:∃ m,n=m+1:=⟨n - 1,by lia⟩
  refine (B_cons (h t List.mem_cons_self) (B_row (n:=m) (fun u hu=>h u (List.mem_cons_of_mem _ hu)) (by lia))).le (by lia) ?_
  rw [Nat.succ_mul]; lia
theorem B.len {a b:Nat}{ts:List T} (h:B a b (.node ts)):ts.length<b:=by
 have h2:=h.2
 rw [T.parts_node] at h2
 have:∀ us:List T,us.length≤T.partsL us:=fun us=>by
  induction us with
  | nil=>exact Nat.zero_le _
  | cons u us ih =>
   rw [List.length_cons,T.partsL_cons]
   have:1≤u.parts:=by cases u; rw [T.parts_node]; lia
   lia
 have:=this ts
 lia
theorem tupN {K:PySem.W.Frag}{H:Hp}{p:Addr}{xs:List V}{ts:List T} (hp:H p=none) (h:TRs K H ts xs):Same H (upd H p (.tup xs))∧TR K (upd H p (.tup xs)) (.node ts) (.ref p) :=
 ⟨same_new hp _,TR_mk (SqT.of upd_same) (h.mono (.new hp))⟩
theorem leaf_tr {K:PySem.W.Frag}{H:Hp}{p:Addr} (h:H p=some (.tup [])):TR K H (.node []) (.ref p):=TR_mk (xs:=[]) (SqT.of h) (TRs_nil.mpr rfl)
theorem trs_rep {K:PySem.W.Frag}{H:Hp}{t:T}{x:V} (h:TR K H t x):∀ n:Nat,TRs K H (List.replicate n t) (List.replicate n x)
 | 0=>TRs_nil.mpr rfl
 | n+1=>by
  rw [List.replicate_succ,List.replicate_succ]
  exact TRs_cons.mpr ⟨x,_,rfl,h,trs_rep h n⟩
def leavesT (n:Nat):T:=.node (List.replicate n (.node []))
theorem B_leaves (n:Nat):B 1 (1+n) (leavesT n):=(B_row (n:=n) (fun t ht=>by rw [List.eq_of_mem_replicate ht]; exact B_nil) (by rw [List.length_replicate]; exact Nat.le_refl _)).le (by lia) (by lia)
theorem lc_grow {K:PySem.W.Frag}{H1:Hp}{n:Nat}{lo:Int}{σ:Sg}{js:List Nat}{te:TE}{Q:VK} (Sh:T→Prop) (hn:n≤sizeLine)
  (hte:∀ (i:Nat) H' (R:VK),i<n→Same H1 H'→(∀ y t H3,Same H' H3→TR K H3 t y→Sh t→R y H3)→te (some (.int (lo+i))::frv σ js) H' R)
  (q:∀ D ys ts H',Same H1 H'→H' D=some (.lst ys)→ts.length=n→TRs K H' ts ys→(∀ t∈ts,Sh t)→Q (.ref D) H'):LcRun (Itr lo n) js te σ Q H1:=by
 refine lc_rangeI (fun D i ys H'=>H1 D=none∧Same H1 H'∧H' D=some (.lst ys)∧ys.length=i∧∃ ts,TRs K H' ts ys∧∀ t∈ts,Sh t) hn (fun D hD=>?_) (fun D i ys H' j=>⟨j.2.2.1,j.2.2.2.1⟩) (fun D i ys H' R hi j hR=>?_) (fun D ys H' j=>?_)
 ·exact⟨hD,same_new hD _,upd_same,rfl,[],TRs_nil.mpr rfl,fun _ h=>by simp at h⟩
 ·obtain⟨hD,S,h1,hl,ts,htr,hsh⟩:=j
  refine hte i H' R hi S fun y t H3 S3 ht hs=>?_
  have h3:=S3 _ _ h1
  refine hR y H3 h3 ⟨hD,same_upd (S.trans S3) hD,upd_same,by rw [List.length_append,hl]; rfl,ts++[t],?_,fun u hu=>?_⟩
  ·exact TRs.append ((htr.mono (.of S3)).mono (Kt.lst h3)) (trs1 (ht.mono (Kt.lst h3)))
  ·rcases List.mem_append.mp hu with z | z
   ·exact hsh u z
   ·rw [List.mem_singleton.mp z]; exact hs
 ·obtain⟨hD,S,h1,hl,ts,htr,hsh⟩:=j
  exact q D ys ts H' S h1 (by rw [← htr.length]; exact hl) htr hsh
def spLaw (K:PySem.W.Frag):Sp:=fun vs H Q _=>∃ (a:Addr) (ns:List Int),vs=[.ref a]∧SqL K H a (ns.map V.int)∧ns.length≤63∧∀ H',Q (.bl true) H'
def sortT (t:T):Nat:=match t.kids with
 | []=>0
 | f::_=>min 9 f.kids.length
def loadT (t:T):T:=.node (t.kids.drop 1)
theorem flat_rep {α:Type} (x:α) (n:Nat):(List.replicate n [x]).flatten=List.replicate n x:=by
 induction n with
 | zero=>rfl
 | succ n ih=>rw [List.replicate_succ,List.flatten_cons,ih,List.replicate_succ]; rfl
def spIsTree (K:PySem.W.Frag):Sp:=fun vs H Q _=>∃ x t,vs=[x]∧TR K H t x∧t.parts≤1000000∧∀ H',Same H H'→Q (.bl true) H'
def WIsTree (K:PySem.W.Frag) (H:Hp) (x:V) (n:Nat) (p:Addr):Nat→Sg→Hp→Prop:=fun m σ H'=>∃ (ys:List V) (ts:List T) (o:Option V),
 σ=[some x,some (.ref p),o]∧Same H H'∧H' p=some (.lst ys)∧TRs K H' ts ys∧T.partsL ts≤n∧m=T.partsL ts
def wordT (n:Nat) (us:List T):T:=.node (leavesT n::us)
def spLay (K:PySem.W.Frag):Sp:=fun vs H Q _=>∃ x t,vs=[x]∧TR K H t x∧t.deep≤400∧t.parts≤1000000∧∀ y H',Same H H'→TR K H' (wordT 0 t.kids) y→Q y H'
def spLoop (K:PySem.W.Frag):Sp:=fun vs H Q _=>∃ x t,vs=[x]∧TR K H t x∧t.deep≤400∧t.parts≤1000000∧∀ y H',Same H H'→TR K H' (wordT 8 t.kids) y→Q y H'
def spPlain (K:PySem.W.Frag):Sp:=fun vs H Q _=>∃ n:Nat,vs=[.int (n:Int)]∧1≤n∧n≤6∧∀ y H',Same H H'→TR K H' (wordT n []) y→Q y H'
def spFork (K:PySem.W.Frag):Sp:=fun vs H Q _=>∃ x t y u,vs=[x,y]∧TR K H t x∧TR K H u y∧(t.deep≤400∧t.parts≤1000000)∧(u.deep≤400∧u.parts≤1000000)∧∀ z H',Same H H'→TR K H' (wordT 7 (t::u.kids)) z→Q z H'
end Sw
namespace Sw
open PySem PySem.Spec PyProof.Rows L2
theorem nFromP {K:PySem.W.Frag}{H:Hp}{Q:VK}{σ:L2.St}{ts:List T}{x:V} (hx:TR K H (.node ts) x) (k:Nat) {j:Option Int} (q:∀ z H',Same H H'→TR K H' (.node (ts.drop k)) z→Q z H') (hj:j=some ((k:Nat):Int):=by rfl):tNoPart σ H (fun u H3=>rSlTA K x j u H3 Q):=nFrom hx k q hj
theorem nIxP {K:PySem.W.Frag}{H:Hp}{Q:VK}{σ:L2.St}{ts:List T}{x y:V}{t:T} (hx:TR K H (.node ts) x) (i:Nat) (e:ts[i]?=some t) (q:∀ z,TR K H t z→Q z H) (hy:y=.int ((i:Nat):Int):=by rfl):tC y σ H (fun y H2=>rIxT K x y H2 Q):=nIx hx i e q hy
theorem B_loadT {a b:Nat}{t:T} (h:B a b t):B a b (loadT t):=by
 cases t with
 | node ts =>
  cases ts with
  | nil=>exact h
  | cons u us =>
   obtain⟨h1,h2⟩:=h
   rw [T.deep_node,T.deepL_cons] at h1
   rw [T.parts_node,T.partsL_cons] at h2
   exact⟨by show (T.node us).deep≤a; rw [T.deep_node]; lia,by show (T.node us).parts≤b; rw [T.parts_node]; lia⟩
def leaf:T:=.node []
def ats (s:List T) (k:Nat):T:=(s[k]?).getD leaf
def spSortL (K:PySem.W.Frag):Sp:=fun vs H Q _=>∃ x t,vs=[x]∧TR K H t x∧t.deep≤400∧∀ H',Same H H'→Q (.int (sortT t:Nat)) H'
theorem ats_mem {s:List T}{k:Nat} (h:k<s.length):s[k]?=some (ats s k):=by
 unfold ats
 rw [List.getElem?_eq_getElem h]
 rfl
theorem kids_node (t:T):T.node t.kids=t:=by cases t; rfl
section
variable {w:T}{s:List T}
end
theorem ats_in {s:List T}{k:Nat} (h:k<s.length):ats s k∈s:=List.mem_of_getElem? (ats_mem h)
section
variable {X:Cx}
end
theorem ifSet {tc:TT}{te:TE}{i:Nat}{u:TS}{D:Ends}{σ:L2.St}{H:Hp} (P:V→Hp→Prop) (v0:V) (hv0:σ.set i (some v0)=σ) (k:∀ v H',P v H'→u D (σ.set i (some v)) H')
  (h:∀ A B:Hp→Prop,(∀ H1,(∀ R:VK,(∀ v H',P v H'→R v H')→te σ H1 R)→A H1)→(∀ H1,P v0 H1→B H1)→tc σ H (fun b H1=>if b=true then A H1 else B H1)) :
  tSeq (tIfS tc (tAsg te (gName i)) tNext) u D σ H:=by
 refine h (fun H1=>tAsg te (gName i) { D with nx:=u D } σ H1) (fun H1=>tNext { D with nx:=u D } σ H1) (fun H1 r=>r _ fun v H' p=>k v H' p) (fun H1 p=>?_)
 have q:=k v0 H1 p
 rw [hv0] at q
 exact q
theorem B.pos {a b:Nat}{t:T} (h:B a b t):1≤b:=Nat.le_trans (T.parts_pos t) h.2
theorem B_mem {a b:Nat}{ts:List T}{t:T} (h:B a b (.node ts)) (ht:t∈ts):B a b t:=by
 have h1:=h.1
 have h2:=h.2
 rw [T.deep_node] at h1
 rw [T.parts_node] at h2
 have:=T.mem_deep ht
 have:=T.mem_parts ht
 exact⟨by lia,by lia⟩
theorem B_ats {a b:Nat}{ts:List T} (h:B a b (.node ts)) (k:Nat):B a b (ats ts k):=by
 by_cases hk:k<ts.length
 ·exact B_mem h (ats_in hk)
 ·unfold ats
  rw [List.getElem?_eq_none (by lia)]
  exact B_nil.le (by lia) h.pos
theorem B_kids {a b:Nat}{t:T} (h:B a b t):B a b (.node t.kids):=by rw [kids_node]; exact h
theorem setP {te:TE}{i:Nat}{u:TS}{D:Ends}{σ:L2.St}{H:Hp} (P:V→Hp→Prop) (h:∀ R:VK,(∀ v H',P v H'→R v H')→te σ H R) (k:∀ v H',P v H'→u D (σ.set i (some v)) H'):tSeq (tAsg te (gName i)) u D σ H:=h _ k
theorem setQ {te:TE}{i:Nat}{u:TS}{D:Ends}{σ:L2.St}{H:Hp} (σ':V→L2.St) (hσ:∀ v,σ.set i (some v)=σ' v) (P:V→Hp→Prop) (h:∀ R:VK,(∀ v H',P v H'→R v H')→te σ H R) (k:∀ v H',P v H'→u D (σ' v) H'):tSeq (tAsg te (gName i)) u D σ H :=
 setP P h fun v H' p=>by rw [hσ]; exact k v H' p
theorem ifSetQ {tc:TT}{te:TE}{i:Nat}{u:TS}{D:Ends}{σ:L2.St}{H:Hp} (σ':V→L2.St) (hσ:∀ v,σ.set i (some v)=σ' v) (P:V→Hp→Prop) (v0:V) (hv0:σ.set i (some v0)=σ) (k:∀ v H',P v H'→u D (σ' v) H')
  (h:∀ A B:Hp→Prop,(∀ H1,(∀ R:VK,(∀ v H',P v H'→R v H')→te σ H1 R)→A H1)→(∀ H1,P v0 H1→B H1)→tc σ H (fun b H1=>if b=true then A H1 else B H1)) :
  tSeq (tIfS tc (tAsg te (gName i)) tNext) u D σ H:=ifSet P v0 hv0 (fun v H' p=>by rw [hσ]; exact k v H' p) h
end Sw
namespace Sw
open PySem PySem.Spec PyProof.Rows L2
def TupO (o:Obj) (xs:List V):Prop:=∃ (its:Array Value) (n:Nat),o.cls=.type "tuple"∧o.data=.seq its n∧its.size≤sizeLine∧Vals xs its.toList
theorem TupO.sq {K:PySem.W.Frag}{o:Obj}{xs:List V}{a:Addr}{H:Hp} (h:TupO o xs) (l:K.lookup a=some o):SqT K H a xs:=by
 obtain⟨its,n,h1,h2,h3,h4⟩:=h
 exact .inr ⟨o,its,n,l,h1,h2,h3,h4⟩
def spFirst (K:PySem.W.Frag):Sp:=fun vs H Q _=>∃ x t,vs=[x]∧TR K H t x∧t.deep≤400∧∀ y H',Same H H'→TR K H' (ats t.kids 0) y→Q y H'
def spRest (K:PySem.W.Frag):Sp:=fun vs H Q _=>∃ x t,vs=[x]∧TR K H t x∧∀ y H',Same H H'→TR K H' (loadT t) y→Q y H'
theorem sort_ats (t:T):sortT t=min 9 (ats t.kids 0).kids.length:=by
 cases t with
 | node ts=>cases ts <;> rfl
theorem TR_kids {K:PySem.W.Frag}{H:Hp}{t:T}{x:V} (h:TR K H t x):TR K H (.node t.kids) x:=by rw [kids_node]; exact h
theorem smallM {n:Nat} (h:n≤16000000):n≤sizeLine:=Nat.le_trans h (by decide)
theorem two62:(2:Int) ^ 62=4611686018427387904:=by decide
theorem nRep {K:PySem.W.Frag}{H:Hp}{Q:VK}{x y:V}{k:Int} (n:Nat) (hx:TR K H (.node [.node []]) x) (hy:y=.int k) (hk:k.toNat=n) (h0:-16000000≤k) (hn:n≤16000000) (q:∀ z H',Same H H'→TR K H' (leavesT n) z→Q z H'):rRepTA K x y H Q:=by
 obtain⟨a,xs,rfl,ha,ra⟩:=TR_node.mp hx
 obtain⟨v,r,rfl,hv,hr⟩:=TRs_cons.mp ra
 rw [TRs_nil] at hr
 subst hr
 subst hk
 have h2:=two62
 refine⟨a,k,[v],rfl,hy,ha,by lia,by lia,by show 1 * k.toNat≤sizeLine; exact smallM (by lia),fun p H' S h=>q _ _ S ?_⟩
 have e:repV [v] k=List.replicate k.toNat v:=by
  unfold repV
  exact flat_rep v _
 rw [e] at h
 exact TR_mk h (trs_rep (hv.mono (.of S)) _)
theorem nRepP {K:PySem.W.Frag}{H:Hp}{Q:VK}{σ:L2.St}{x y:V}{k:Int} (n:Nat) (hx:TR K H (.node [.node []]) x) (hy:y=.int k) (hk:k.toNat=n) (h0:-16000000≤k) (hn:n≤16000000) (q:∀ z H',Same H H'→TR K H' (leavesT n) z→Q z H'):tC y σ H (fun y H2=>rRepTA K x y H2 Q):=nRep n hx hy hk h0 hn q
section
variable {tx s:List T}{w:T}{ws:List T}
end
section
variable {tx s:List T}
variable {w:T}{ws:List T}
end
end Sw
namespace Sw
open PySem PySem.Spec PyProof.Rows L2
section
variable {X:Cx}
end
end Sw
namespace Sw
open PySem PySem.Spec PyProof.Rows L2
end Sw
namespace PySem
section
variable {prog:Program}{w:World}{A:Around}{E:Value→Shared→Prop}{s:Shared}
end
end PySem
namespace Sw
open PySem PySem.Spec PyProof.Rows L2
section
variable {X:Cx}{pins:List (Addr×Obj)}{σ:Sg}{H:Hp}{s:Shared}{scope:Scope}{cl:List (Str×Addr)}{x y:Str}{fr:List Str}{js:List Nat}{fp:List Addr}
end
section
variable {X:Cx}{scope:Scope}{cl:List (Str×Addr)}{x y:Str}{fr:List Str}{js:List Nat}{elt iter:Expr}{px py pt pos:Pos}{kt:Nat}{wi:TI}{te:TE}
end
end Sw
namespace Sw
open PySem PySem.Spec PyProof.Rows L2
theorem CallR.or {X:Cx}{f:Value}{r1 r2:List V→Hp→VK→Prop} (h1:CallR X f r1) (h2:CallR X f r2):CallR X f (fun xs H Q=>r1 xs H Q∨r2 xs H Q):=by
 intro pins s σ H xs us Q I r h
 rcases h with h | h
 ·exact h1 pins s σ H xs us Q I r h
 ·exact h2 pins s σ H xs us Q I r h
section
variable {X:Cx}{pins:List (Addr×Obj)}{σ:Sg}{H:Hp}{s:Shared}
end
section
variable {X:Cx}
theorem call_isinstA:CallR X (.builtin "isinstance") (fun xs H Q=>(∃ x T t b,xs=[x,.ty T]∧TyOf X.K H x t∧PySem.W.kitOne X.K t (.type T)=some b∧Q (.bl b) H)∨(∃ a ys T b,xs=[.ref a,.ty T]∧SqT X.K H a ys∧PySem.W.kitOne X.K (.type "tuple") (.type T)=some b∧Q (.bl b) H)):=CallR.or call_isinst call_isinstT
end
end Sw
namespace Sw
open PySem PySem.Spec PyProof.Rows L2
namespace Dt
end Dt
section
variable {K:PySem.W.Frag}{H H':Hp}
end
section
variable {X:Cx}{pins:List (Addr×Obj)}{σ:Sg}{H:Hp}{s:Shared}
end
section
variable {X:Cx}{pins:List (Addr×Obj)}{σ:Sg}{H:Hp}{s:Shared}
end
section
variable {X:Cx}
end
end Sw
namespace Sw
open PySem PySem.Spec PyProof.Rows L2
section
variable {b:Nat}{tx s:List T}
end
theorem drop_deep (s:List T) (k:Nat):T.deepL (s.drop k)≤T.deepL s:=by
 have e:=congrArg T.deepL (List.take_append_drop k s)
 rw [T.deepL_append] at e
 lia
theorem deep_eq (t:T):t.deep=T.deepL t.kids:=by cases t; rw [T.deep_node]; rfl
theorem load_deep (t:T):(loadT t).deep≤t.deep:=by
 unfold loadT
 rw [T.deep_node,deep_eq t]
 exact drop_deep _ _
theorem first_deep (t:T):(ats t.kids 0).deep≤t.deep:=by
 rw [deep_eq t]
 cases t.kids with
 | nil=>show T.deep (.node [])≤_; rw [T.deep_node,T.deepL_nil]; lia
 | cons u us=>show u.deep≤_; rw [T.deepL_cons]; lia
end Sw
namespace Sw
open PySem PySem.Spec PyProof.Rows L2
section
variable (p:List T) (d x:T) (Y:List T)
end
end Sw
namespace PySem
open Builtin Builtin.Str
section
variable {prog:Program}{w:World}{A:Around}{E:Value→Shared→Prop}{s:Shared}{x:Str}{t:Tok}{Q:Value→Shared→Prop}
theorem split_laid {y:Str}{u:Tok} (hy:(y.length == 0)=false)
  (q:∀ (l:List (Str×Tok)) (k:Nat),l.map (·.1)=Txt.split x y→Q (.ref s.heap.objs.size) { s with toks:=k,heap:=s.heap.push { cls:=.type "list",data:=.seq (strValues l).toArray } })
  (z1:x.length≤sizeLine) (z2:(partsBetween x (occurrences x y 0 x.length (x.length+1)) y.length).length≤sizeLine):wpAny (model prog w) A (call (.builtin "str.split") [.str x t,.str y u]) Q E s:=by
 cases c1:(decide (x.length<y.length) || decide (Builtin.Str.strKind x<Builtin.Str.strKind y))
 ·cases c2:(occurrences x y 0 x.length (x.length+1)).isEmpty
  ·refine call_meets F.slot_str_split (typeIs_str _ _ _) F.entry_str_split (F.args_str_split_2 _ _) (meets_str_split_sep x y t u c1 hy c2 z1 z2) ?_
   show wants Q E _ { s with toks:=_,heap:=s.heap.push { cls:=.type "list",data:=.seq (strsFrom s.toks (partsBetween x (occurrences x y 0 x.length (x.length+1)) y.length)).toArray } }; rw [strsFrom_eq]
   exact q (numbered s.toks _) _ ((numbered_texts _ _).trans ((if_neg (ne_true_of_eq_false c1)).trans (if_neg (ne_true_of_eq_false c2))).symm)
  ·exact call_meets F.slot_str_split (typeIs_str _ _ _) F.entry_str_split (F.args_str_split_2 _ _) (meets_str_split_not_found x y t u c1 hy c2) (q [(x,t)] s.toks ((if_neg (ne_true_of_eq_false c1)).trans (if_pos c2)).symm)
 ·exact call_meets F.slot_str_split (typeIs_str _ _ _) F.entry_str_split (F.args_str_split_2 _ _) (meets_str_split_cannot_occur x y t u c1) (q [(x,t)] s.toks (if_pos c1).symm)
end
end PySem
namespace Sw
open PySem PySem.Spec PyProof.Rows L2
def joinL (sep:List Nat):List (List Nat)→List Nat
 | []=>[]
 | [l]=>l
 | l::r=>l++sep++joinL sep r
theorem joinL_cons (sep l:List Nat) {r:List (List Nat)} (h:r≠[]):joinL sep (l::r)=l++sep++joinL sep r:=by
 cases r with
 | nil=>exact absurd rfl h
 | cons _ _=>rfl
theorem sjoin_tx (sep:List Nat):∀ ls:List (List Nat),PySem.Str.join (tx sep) (ls.map tx)=tx (joinL sep ls)
 | []=>rfl
 | [l]=>rfl
 | l::m::r=>by
  have ih:=sjoin_tx sep (m::r)
  show tx l++tx sep++PySem.Str.join (tx sep) ((m::r).map tx)=_
  rw [ih,tx_append,tx_append]
  rfl
theorem tjoin_tx (sep:List Nat) (ls:List (List Nat)):Txt.join (tx sep) (ls.map tx)=tx (joinL sep ls):=by
 have key:∀ (ls:List (List Nat)) (acc:List Nat),(ls.map tx).foldl (fun acc p=>acc++(tx sep).cps++p.cps) acc.toArray=(joinL sep (acc::ls)).toArray:=by
  intro ls
  induction ls with
  | nil=>intro acc; rfl
  | cons l ls ih =>
   intro acc
   rw [List.map_cons,List.foldl_cons]
   have e:acc.toArray++(tx sep).cps++(tx l).cps=(acc++sep++l).toArray:=by simp [tx]
   rw [e,ih]
   cases ls with
   | nil=>rfl
   | cons m r =>
    show (acc++sep++l++sep++joinL sep (m::r)).toArray=(acc++sep++(l++sep++joinL sep (m::r))).toArray
    simp only [List.append_assoc]
 show Str.mk _=_
 cases ls with
 | nil=>rfl
 | cons l ls =>
  have:=key ls l
  show Str.mk (((l::ls).map tx).drop 1 |>.foldl (fun acc p=>acc++(tx sep).cps++p.cps) (((l::ls).map tx).headD Str.empty).cps)=tx (joinL sep (l::ls))
  rw [List.map_cons,List.drop_one,List.tail_cons,List.headD_cons]
  exact congrArg Str.mk this
theorem joinL_len (sep:List Nat):∀ ls:List (List Nat),(joinL sep ls).length≤ls.flatten.length+ls.length * sep.length
 | []=>by simp [joinL]
 | [l]=>by simp [joinL]
 | l::m::r=>by
  have ih:=joinL_len sep (m::r)
  show (l++sep++joinL sep (m::r)).length≤_
  rw [List.length_append,List.length_append,List.flatten_cons,List.length_append,List.length_cons (a:=l),Nat.add_mul]
  lia
section
variable {X:Cx}
theorem call_any (hc:X.calm=true):CallR X (.builtin "any") (fun xs H Q=>∃ (p:Addr) (bs:List Bool),xs=[.ref p]∧SqL X.K H p (bs.map V.bl)∧Q (.bl (bs.any id)) H):=by
 intro pins s σ H xs us Q I r h
 obtain⟨p,bs,rfl,hq,q⟩:=h
 obtain⟨u,rfl,rx⟩:=vals1 r
 cases rx
 obtain⟨its,r',pl,hz⟩:=I.list hq
 have hit:=bools_at r'
 subst hit
 have hl:=pl.isList
 have hlt:p<s.heap.objs.size:=by obtain⟨_,e,_⟩:=hl; exact Heap.lt_size e
 refine call_any_walk (wpAny_pyIter_list hl ?_)
 refine⟨_,_,_,_,_,_,fun i=>bs.getD i false,rfl,Walks.list (A:=X.A.in1) (I.ok.hd hc) _ p (Nat.ne_of_lt hlt) (bs.map Value.bool).toArray,⟨⟨_,Heap.get?_push_size _ rfl,rfl,rfl⟩,hl.push _⟩,?_,fun h' tk hk=>?_⟩
 ·intro i v s Q E hv hQ
  rw [List.getElem?_toArray,List.getElem?_map] at hv
  cases hh:bs[i]? with
  | none=>rw [hh] at hv; cases hv
  | some b =>
   rw [hh] at hv
   cases hv
   have hQ':Q (bs.getD i false) s:=hQ
   rw [List.getD_eq_getElem?_getD,hh] at hQ'
   exact wpAny_truthy_bool hQ'
 ·have es:(List.range (bs.map Value.bool).toArray.size).any (fun i=>bs.getD i false)=bs.any id:=by
   rw [List.size_toArray,List.length_map,Bool.eq_iff_iff,List.any_eq_true,List.any_eq_true]
   refine⟨fun ⟨i,hi,e⟩=>?_,fun ⟨b,hb,e⟩=>?_⟩
   ·have hi':=List.mem_range.mp hi
    rw [List.getD_eq_getElem?_getD,List.getElem?_eq_getElem hi',Option.getD_some] at e
    exact⟨_,List.getElem_mem hi',e⟩
   ·obtain⟨i,hi,e'⟩:=List.getElem_of_mem hb
    refine⟨i,List.mem_range.mpr hi,?_⟩
    rw [List.getD_eq_getElem?_getD,List.getElem?_eq_getElem hi,Option.getD_some,e']
    exact e
  rw [es]
  exact⟨.bl (bs.any id),H,I.kept (old_kept hk),rfl,q⟩
def rJoinS (K:PySem.W.Frag):V→List V→Hp→VK→Prop:=fun x vs H Q=>∃ (l:Addr) (sep:List Nat) (ls:List (List Nat)),x=.str (tx sep)∧vs=[.ref l]∧SqL K H l (ls.map fun c=>V.str (tx c))∧ls.flatten.length+ls.length * sep.length≤16777216∧Q (.str (tx (joinL sep ls))) H
theorem mt_joinS:MtM X "str.join" (rJoinS X.K):=by
 intro pins s σ H x vs v us Q I rx rv h
 obtain⟨l,sep,ls,rfl,rfl,hq,hz,q⟩:=h
 obtain⟨t,rfl⟩:=rx
 obtain⟨u,rfl,ru⟩:=rv.one
 cases ru
 obtain⟨its,r,pl,_⟩:=I.list hq
 have hs:StrsAre its (ls.map tx):=strsAre_of (by rw [List.map_map]; exact r)
 refine join_list (ys:=ls.map tx) pl.isList (by simpa using hs) ?_ fun t' k=>?_
 ·rw [sum_len,tx_len,List.length_map]
  exact hz
 ·rw [show Txt.join (tx sep) (ls.map tx)=tx (joinL sep ls) from tjoin_tx sep ls]
  exact⟨.str (tx (joinL sep ls)),H,I.tok _,⟨_,rfl⟩,q⟩
def rSplit:V→List V→Hp→VK→Prop:=fun x vs H Q=>∃ (l:List Nat) (c:Nat),x=.str (tx l)∧vs=[.str (tx [c])]∧l.length≤8000000 ∧
 ∀ D ls,H D=none→joinL [c] ls=l→ls≠[]→(∀ p∈ls,c ∉ p)→Q (.ref D) (upd H D (.lst (ls.map fun p=>V.str (tx p))))
theorem tx_of (z:Str):z=tx z.cps.toList:=rfl
theorem strs_tx:∀ ss:List Str,∃ ls:List (List Nat),ss=ls.map tx
 | []=>⟨[],rfl⟩
 | z::ss=>by
  obtain⟨ls,e⟩:=strs_tx ss
  exact⟨z.cps.toList::ls,by rw [List.map_cons,← e,← tx_of]⟩
theorem vals_strs:∀ {l:List (Str×Tok)}{ls:List (List Nat)},l.map (·.1)=ls.map tx→Vals (ls.map fun p=>V.str (tx p)) (strValues l)
 | [],ls,h=>by
  cases ls with
  | nil=>exact .nil
  | cons _ _=>cases h
 | (z,t)::l,ls,h=>by
  cases ls with
  | nil=>cases h
  | cons p ls =>
   have h':=List.cons.inj h
   have e:z=tx p:=h'.1
   subst e
   exact .cons ⟨t,rfl⟩ (vals_strs h'.2)
theorem mt_split:MtM X "str.split" rSplit:=by
 intro pins s σ H x vs v us Q I rx rv h
 obtain⟨l,c,rfl,rfl,hl,q⟩:=h
 obtain⟨t,rfl⟩:=rx
 obtain⟨u,rfl,ru⟩:=rv.one
 obtain⟨t',rfl⟩:=ru
 have z2:(Builtin.Str.partsBetween (tx l) (Builtin.Str.occurrences (tx l) (tx [c]) 0 (tx l).length ((tx l).length+1)) (tx [c]).length).length≤sizeLine:=by
  rw [PyProof.Rows.len_partsBetween]
  have:=StrLaws.occ_length_le (tx l) (tx [c]) 0 (tx l).length ((tx l).length+1)
  rw [tx_len] at this ⊢
  exact Nat.le_trans (Nat.succ_le_succ this) (Nat.le_trans (Nat.add_le_add_right hl 2) (by decide))
 refine split_laid rfl (fun ll k e=>?_) (by rw [tx_len]; exact Nat.le_trans hl (by decide)) z2
 obtain⟨ls,els⟩:=strs_tx (ll.map (·.1))
 have e2:Txt.split (tx l) (tx [c])=ls.map tx:=by rw [← e,els]
 have hj:joinL [c] ls=l:=by
  have:=StrLaws.join_split (tx l) (tx [c])
  rw [e2,sjoin_tx] at this
  exact tx_inj.mp this
 have hf:∀ p∈ls,c ∉ p:=fun p hp=>by
  have:=StrLaws.split_free (tx l) c (tx p) (by
   show tx p∈Txt.split (tx l) (tx [c])
   rw [e2]
   exact List.mem_map.mpr ⟨p,hp,rfl⟩)
  simpa [tx] using this
 have hne:ls≠[]:=fun z=>by
  have:=PyProof.Rows.split_pos (tx l) (tx [c])
  rw [e2,z] at this
  simp at this
 have hln:ls.length≤sizeLine:=by
  have:=PyProof.Rows.split_le (tx l) (tx [c])
  rw [e2,List.length_map,tx_len] at this
  exact Nat.le_trans this (Nat.le_trans (Nat.add_le_add_right hl 2) (by decide))
 have hn:H s.heap.objs.size=none:=I.hok.fresh (Nat.le_refl _)
 have I2:=I.lnew (ys:=ls.map fun p=>V.str (tx p)) (its:=strValues ll) (t':=k) (vals_strs els) (by rw [List.length_map]; exact hln)
 exact⟨.ref s.heap.objs.size,_,I2,rfl,q _ ls hn hj hne hf⟩
def rStarts:V→List V→Hp→VK→Prop:=fun x vs H Q=>∃ (l:List Nat) (c:Nat),x=.str (tx l)∧vs=[.str (tx [c])]∧Q (.bl (l.head? == some c)) H
theorem starts_tx (l:List Nat) (c:Nat):Txt.startswith (tx l) (tx [c])=(l.head? == some c):=by
 unfold Txt.startswith Builtin.Str.subAt
 cases l with
 | nil=>rfl
 | cons a r =>
  show (decide (0+1≤(a::r).length) && ((a::r).toArray.extract 0 (0+1) == #[c]))=(some a == some c)
  have e:(a::r).toArray.extract 0 (0+1)=#[a]:=by simp
  rw [e,decide_eq_true (by simp),Bool.true_and]
  simp
theorem mt_starts:MtM X "str.startswith" rStarts:=by
 intro pins s σ H x vs v us Q I rx rv h
 obtain⟨l,c,rfl,rfl,q⟩:=h
 obtain⟨t,rfl⟩:=rx
 obtain⟨u,rfl,ru⟩:=rv.one
 obtain⟨t',rfl⟩:=ru
 refine SC.startswith ?_
 rw [starts_tx]
 exact⟨.bl _,H,I,rfl,q⟩
theorem mul_txs (m:List Nat) (n:Nat):Txt.mul (tx m) (n:Int)=tx (List.replicate n m).flatten:=by
 unfold Txt.mul
 by_cases h1:(n:Int)<1
 ·have:n=0:=by lia
  subst this
  rw [if_pos (by decide)]
  rfl
 ·rw [if_neg h1]
  by_cases h2:(((n:Int) == 1) || (tx m).length == 0)=true
  ·rw [if_pos h2]
   rw [Bool.or_eq_true] at h2
   rcases h2 with h2 | h2
   ·have:n=1:=by have:=eq_of_beq h2; lia
    subst this
    simp [List.replicate]
   ·have:m=[]:=List.length_eq_zero_iff.mp (by rw [tx_len] at h2; exact eq_of_beq h2)
    subst this
    simp
  ·rw [if_neg h2]
   show Str.mk _=Str.mk _
   rw [Int.toNat_natCast]
   have key:∀ (k:Nat) (acc:List Nat),(List.replicate k (tx m).cps).foldl (·++·) acc.toArray=(acc++(List.replicate k m).flatten).toArray:=by
    intro k
    induction k with
    | zero=>intro acc; simp
    | succ k ih =>
     intro acc
     rw [List.replicate_succ,List.foldl_cons]
     have e:acc.toArray++(tx m).cps=(acc++m).toArray:=by simp [tx]
     rw [e,ih,List.append_assoc,List.replicate_succ,List.flatten_cons]
   have:=key n []
   exact congrArg Str.mk (by simpa using this)
def rRepSS:R2:=fun x y H Q=>∃ (m:List Nat) (n:Nat),x=.str (tx m)∧y=.int (n:Int)∧m.length≤8∧n≤100000∧Q (.str (tx (List.replicate n m).flatten)) H
theorem op_repSS:OpR X (binaryOp .Mult) rRepSS:=by
 intro pins s σ H x y v u Q I rx ry h
 obtain⟨m,n,rfl,rfl,hm,hn,q⟩:=h
 obtain⟨t,rfl⟩:=rx
 obtain⟨t',rfl⟩:=ry
 refine SB.mul (mulOk_of 8 100000 (by rw [tx_len]; exact hm) (by lia) (by lia) (by decide) (by decide)) fun t'' k=>?_
 rw [mul_txs]
 exact⟨.str _,H,I.tok _,⟨_,rfl⟩,q⟩
end
open SeqAt in
theorem tup_indexAt (l:Addr) (items:Array Value) (n:Nat) (dd:Option Addr) (sl:Array (Option Value)) (x:Value) (e:Value→Bool) (j:Nat) (hj:j<items.size) (hit:e items[j]=true) (hno:∀ m (hm:m<items.size),m<j→e items[m]=false) :
  Meets (Builtin.«tuple.index» ⟨[.ref l,x],[]⟩) (fun A R u=>u.heap.get? l=some { cls:=.type "tuple",dict:=dd,data:=.seq items n,slots:=sl }∧(∀ y,y∈items→EqAt A.in1 u y x (e y))∧R (.ok (.ret (.int j u.toks))) { u with toks:=u.toks+1 }) :=
 .of_wp fun prog w A R u h=>by
  obtain⟨hp,g,d,tk,os⟩:=u; obtain⟨hl,he,h⟩:=h
  unfold Builtin.«tuple.index»
  simp only [Std.Legacy.Range.forIn_eq_forIn_range']
  wp_walk using wpAny_loadPart' hl,wpAny_forIn_list _ (fun rest b s'=>b.1=none∧s'=⟨hp,g,d,tk,os⟩∧∃ i,i≤j∧rest=(List.range' 0 items.size).drop i) _
  case turn =>
   rintro i rest b s' ⟨hb,rfl,m,hm,hr⟩
   have hlt:m<items.size:=by
    have:=congrArg List.length hr
    simp at this
    lia
   have hr2:(List.range' 0 items.size).drop m=m::(List.range' 0 items.size).drop (m+1):=by
    rw [List.drop_eq_getElem_cons (by simpa using hlt)]
    simp
   rw [hr2] at hr
   obtain⟨rfl,rfl⟩:=List.cons.inj hr
   have e1:items[i]?=some items[i]:=Array.getElem?_eq_getElem hlt
   rw [e1]
   refine wpAny_bind (he _ (Array.getElem_mem hlt) prog w _ _ ?_)
   by_cases hmj:i=j
   ·subst hmj
    rw [hit]
    wp_walk
    exact⟨_,rfl,h⟩
   ·rw [hno i hlt (by lia)]
    wp_walk
    exact⟨rfl,rfl,i+1,by lia,rfl⟩
  case fin =>
   rintro ⟨b1,b2⟩ s' ⟨hb,rfl,m,hm,hr⟩
   have:=congrArg List.length hr
   simp at this
   lia
  case h =>
   refine⟨rfl,rfl,0,Nat.zero_le _,?_⟩
   simp
end Sw
namespace Sw
open PySem PySem.Spec PyProof.Rows L2
def nmC (k:Nat):List Nat:=([[108,97,121],[100,114,111,112],[116,119,105,110],[115,119,97,112],[102,114,111,110,116],[112,97,114,116],[116,117,114,110],[102,111,114,107],[119,104,105,108,101]]:List (List Nat)).getD k []
def namesV:List V:=(List.range 9).map fun k=>V.str (tx (nmC k))
theorem names_tx:[V.str (Str.ofString "lay"),.str (Str.ofString "drop"),.str (Str.ofString "twin"),.str (Str.ofString "swap"),.str (Str.ofString "front"),.str (Str.ofString "part"),.str (Str.ofString "turn"),.str (Str.ofString "fork"),.str (Str.ofString "while")]=namesV:=by
 rw [show Str.ofString "lay"=tx [108,97,121] by decide +kernel,show Str.ofString "drop"=tx [100,114,111,112] by decide +kernel,show Str.ofString "twin"=tx [116,119,105,110] by decide +kernel,
  show Str.ofString "swap"=tx [115,119,97,112] by decide +kernel,show Str.ofString "front"=tx [102,114,111,110,116] by decide +kernel,show Str.ofString "part"=tx [112,97,114,116] by decide +kernel,
  show Str.ofString "turn"=tx [116,117,114,110] by decide +kernel,show Str.ofString "fork"=tx [102,111,114,107] by decide +kernel,show Str.ofString "while"=tx [119,104,105,108,101] by decide +kernel]
 rfl
theorem name_at {k:Nat} (h:k<9):atI namesV (k:Int)=some (.str (tx (nmC k))):=atI_nat (by unfold namesV; rw [List.getElem?_map,List.getElem?_range h]; rfl)
theorem tx_lb:Str.ofString "["=tx [91]:=by decide +kernel
theorem tx_rb:Str.ofString "]"=tx [93]:=by decide +kernel
theorem tx_bar:Str.ofString "|"=tx [124]:=by decide +kernel
theorem tx_bang:Str.ofString "!"=tx [33]:=by decide +kernel
theorem tx_tick:Str.ofString "'"=tx [39]:=by decide +kernel
theorem tx_blank:Str.ofString " "=tx [32]:=by decide +kernel
def headOdd (w:T):Bool:=T.beq w leaf || (ats w.kids 0).kids.any fun t=>!T.beq t leaf
def oddT (w:T):Bool:=if headOdd w=true then true else if sortT w=0∨sortT w=8 then false else if sortT w=7 then T.beq (loadT w) leaf else (decide (sortT w=9) || !T.beq (loadT w) leaf)
theorem odd_sort {w:T} (h:oddT w=false):sortT w≤8:=by
 have h9:sortT w≤9:=by unfold sortT; split <;> lia
 rcases Nat.lt_or_ge (sortT w) 9 with z | z
 ·lia
 ·have e:sortT w=9:=by lia
  unfold oddT at h
  rw [e] at h
  split at h
  ·cases h
  ·rw [if_neg (by lia),if_neg (by lia)] at h
   simp at h
mutual
inductive Wr:T→List (List Nat)→Prop
 | odd {w:T} (h:oddT w=true):Wr w [33::w.wr]
 | lay {w:T} (h:oddT w=false) (hs:sortT w=0):Wr w [39::(loadT w).wr]
 | plain {w:T} (h:oddT w=false) (h1:1≤sortT w) (h6:sortT w≤6):Wr w [nmC (sortT w)]
 | fork {w:T}{ps qs:List (List Nat)} (h:oddT w=false) (hs:sortT w=7) (hy:Ts (ats (loadT w).kids 0).kids ps) (hn:Ts (loadT (loadT w)).kids qs):Wr w ([nmC 7,[91]]++ps++[[124]]++qs++[[93]])
 | loop {w:T}{ps:List (List Nat)} (h:oddT w=false) (hs:sortT w=8) (hb:Ts (loadT w).kids ps):Wr w ([nmC 8,[91]]++ps++[[93]])
inductive Ts:List T→List (List Nat)→Prop
 | nil:Ts [] []
 | cons {w:T}{ws:List T}{ps qs:List (List Nat)} (h:Wr w ps) (g:Ts ws qs):Ts (w::ws) (ps++qs)
end
abbrev Itm:=T ⊕ List Nat
inductive Outs:List Itm→List (List Nat)→Prop
 | nil:Outs [] []
 | txt {l:List Nat}{r:List Itm}{ps:List (List Nat)} (h:Outs r ps):Outs (.inr l::r) (l::ps)
 | word {w:T}{r:List Itm}{ps qs:List (List Nat)} (h:Wr w ps) (g:Outs r qs):Outs (.inl w::r) (ps++qs)
theorem Outs.append {a b:List Itm}{ps qs:List (List Nat)} (h:Outs a ps) (g:Outs b qs):Outs (a++b) (ps++qs):=by
 induction h with
 | nil=>exact g
 | txt _ ih=>exact .txt ih
 | word h _ ih=>rw [List.append_assoc]; exact .word h ih
theorem outs_ts:∀ {ws:List T}{ps:List (List Nat)},Ts ws ps→Outs (ws.map .inl) ps
 | [],_,h=>by cases h; exact .nil
 | w::ws,_,h=>by cases h with | cons h g=>exact .word h (outs_ts g)
theorem outs_one (l:List Nat):Outs [.inr l] [l]:=.txt .nil
def spelledT (w:T):List Itm :=
 if oddT w=true then [.inr (33::w.wr)] else if sortT w=0 then [.inr (39::(loadT w).wr)]
 else if sortT w=7 then [.inr (nmC 7),.inr [91]]++(ats (loadT w).kids 0).kids.map .inl++[.inr [124]]++(loadT (loadT w)).kids.map .inl++[.inr [93]]
 else if sortT w=8 then [.inr (nmC 8),.inr [91]]++(loadT w).kids.map .inl++[.inr [93]] else [.inr (nmC (sortT w))]
theorem outs_spell {w:T}{ps:List (List Nat)} (h:Wr w ps):Outs (spelledT w) ps:=by
 cases h with
 | odd h=>unfold spelledT; rw [if_pos h]; exact outs_one _
 | lay h hs=>unfold spelledT; rw [if_neg (by rw [h]; decide),if_pos hs]; exact outs_one _
 | plain h h1 h6=>unfold spelledT; rw [if_neg (by rw [h]; decide),if_neg (by lia),if_neg (by lia),if_neg (by lia)]; exact outs_one _
 | fork h hs hy hn =>
  unfold spelledT
  rw [if_neg (by rw [h]; decide),if_neg (by lia),if_pos hs]
  exact ((((Outs.txt (outs_one _)).append (outs_ts hy)).append (outs_one _)).append (outs_ts hn)).append (outs_one _)
 | loop h hs hb =>
  unfold spelledT
  rw [if_neg (by rw [h]; decide),if_neg (by lia),if_neg (by lia),if_pos hs]
  exact ((Outs.txt (outs_one _)).append (outs_ts hb)).append (outs_one _)
def wtI:Itm→Nat
 | .inl t=>5 * t.parts
 | .inr _=>1
def wtL (l:List Itm):Nat:=(l.map wtI).sum
theorem wtL_cons (a:Itm) (l:List Itm):wtL (a::l)=wtI a+wtL l:=rfl
theorem wtL_append (a b:List Itm):wtL (a++b)=wtL a+wtL b:=by unfold wtL; rw [List.map_append,List.sum_append]
theorem wtL_words:∀ ws:List T,wtL (ws.map .inl)=5 * T.partsL ws
 | []=>rfl
 | w::ws=>by rw [List.map_cons,wtL_cons,wtL_words ws,T.partsL_cons]; show 5 * _+_=_; lia
theorem wtL_len:∀ l:List Itm,l.length≤wtL l
 | []=>Nat.le_refl _
 | a::l=>by
  rw [wtL_cons,List.length_cons]
  have:=wtL_len l
  have h1:1≤wtI a:=by
   cases a with
   | inl t=>show 1≤5 * t.parts; have:=T.parts_pos t; lia
   | inr _=>exact Nat.le_refl _
  lia
theorem load_lt (w:T):T.partsL (loadT w).kids+1≤w.parts:=by
 cases w with
 | node ts =>
  cases ts with
  | nil=>rw [T.parts_node]; show T.partsL []+1≤_; rw [T.partsL_nil]; lia
  | cons f r=>rw [T.parts_node,T.partsL_cons]; show T.partsL r+1≤_; lia
theorem two_lt (l:T):T.partsL (ats l.kids 0).kids+T.partsL (loadT l).kids≤T.partsL l.kids:=by
 cases l with
 | node ts =>
  cases ts with
  | nil=>show T.partsL []+T.partsL []≤T.partsL []; rw [T.partsL_nil]; lia
  | cons f r =>
   show T.partsL f.kids+T.partsL r≤T.partsL (f::r)
   rw [T.partsL_cons]
   have:=T.parts_kids f
   lia
theorem spell_wt (w:T):wtL (spelledT w)<5 * w.parts:=by
 have h0:=T.parts_pos w
 have h1:=load_lt w
 have h2:=two_lt (loadT w)
 have one:∀ l:List Nat,wtL [.inr l]=1:=fun _=>rfl
 unfold spelledT
 split
 ·rw [one]; lia
 split
 ·rw [one]; lia
 split
 ·rw [wtL_append,wtL_append,wtL_append,wtL_append,wtL_words,wtL_words,one,one]
  have:wtL [(.inr (nmC 7):Itm),.inr [91]]=2:=rfl
  lia
 split
 ·rw [wtL_append,wtL_append,wtL_words,one]
  have:wtL [(.inr (nmC 8):Itm),.inr [91]]=2:=rfl
  lia
 ·rw [one]; lia
def szP (ps:List (List Nat)):Nat:=ps.flatten.length+ps.length
theorem szP_append (a b:List (List Nat)):szP (a++b)=szP a+szP b:=by unfold szP; rw [List.flatten_append,List.length_append,List.length_append]; lia
theorem szP_one (l:List Nat):szP [l]=l.length+1:=by unfold szP; simp
theorem nm_len (k:Nat):(nmC k).length≤5:=by
 rcases Nat.lt_or_ge k 9 with h | h
 ·have:∀ k,k<9→(nmC k).length≤5:=by decide
  exact this k h
 ·unfold nmC
  rw [List.getD_eq_getElem?_getD,List.getElem?_eq_none (by show 9≤k; exact h)]
  exact Nat.zero_le _
mutual
theorem wr_sz:∀ {w:T}{ps:List (List Nat)},Wr w ps→szP ps≤12 * w.parts
 | w,_,.odd h=>by rw [szP_one,List.length_cons,T.wr_len]; have:=T.parts_pos w; lia
 | w,_,.lay h hs=>by rw [szP_one,List.length_cons,T.wr_len]; have:=load_lt w; have:=T.parts_kids (loadT w); lia
 | w,_,.plain h h1 h6=>by rw [szP_one]; have:=nm_len (sortT w); have:=T.parts_pos w; lia
 | w,_,.fork (ps:=ps) (qs:=qs) h hs hy hn=>by
  have a1:=ts_sz hy
  have a2:=ts_sz hn
  have h1:=load_lt w
  have h2:=two_lt (loadT w)
  rw [szP_append,szP_append,szP_append,szP_append,szP_one,szP_one]
  have:szP [nmC 7,[91]]=7:=rfl
  simp only [List.length_singleton]
  lia
 | w,_,.loop (ps:=ps) h hs hb=>by
  have a1:=ts_sz hb
  have h1:=load_lt w
  rw [szP_append,szP_append,szP_one]
  have:szP [nmC 8,[91]]=8:=rfl
  simp only [List.length_singleton]
  lia
theorem ts_sz:∀ {ws:List T}{ps:List (List Nat)},Ts ws ps→szP ps≤12 * T.partsL ws
 | _,_,.nil=>Nat.zero_le _
 | _,_,.cons h g=>by
  have a1:=wr_sz h
  have a2:=ts_sz g
  rw [szP_append,T.partsL_cons]
  lia
end
def IR (K:PySem.W.Frag) (H:Hp):Itm→V→Prop
 | .inl t,x=>TR K H t x
 | .inr l,x=>x=.str (tx l)
theorem IR.mono {K:PySem.W.Frag}{H H':Hp} (S:Kt H H'):∀ {o:Itm}{x:V},IR K H o x→IR K H' o x
 | .inl _,_,h=>TR.mono S h
 | .inr _,_,h=>h
theorem ir_words {K:PySem.W.Frag}{H:Hp}:∀ {ts:List T}{xs:List V},TRs K H ts xs→All2 (IR K H) (ts.map .inl) xs
 | [],xs,h=>by rw [TRs_nil] at h; rw [h]; exact .nil
 | t::ts,xs,h=>by
  obtain⟨x,r,rfl,h1,h2⟩:=TRs_cons.mp h
  exact .cons h1 (ir_words h2)
def IT (K:PySem.W.Frag) (H:Hp) (its:List Itm) (v:V):Prop:=∃ a xs,v=.ref a∧SqT K H a xs∧All2 (IR K H) its xs
theorem IT.mono {K:PySem.W.Frag}{H H':Hp}{its:List Itm}{v:V} (S:Kt H H') (h:IT K H its v):IT K H' its v:=by
 obtain⟨a,xs,rfl,h1,h2⟩:=h
 exact⟨a,xs,rfl,sqT_mono S h1,h2.imp fun _ _=>IR.mono S⟩
theorem TR.it {K:PySem.W.Frag}{H:Hp}{ts:List T}{x:V} (h:TR K H (.node ts) x):IT K H (ts.map .inl) x:=by
 obtain⟨a,xs,rfl,ha,ra⟩:=TR_node.mp h
 exact⟨a,xs,rfl,ha,ir_words ra⟩
theorem itN {K:PySem.W.Frag}{H:Hp}{p:Addr}{xs:List V}{its:List Itm} (hp:H p=none) (h:All2 (IR K H) its xs):Same H (upd H p (.tup xs))∧IT K (upd H p (.tup xs)) its (.ref p) :=
 ⟨same_new hp _,_,_,rfl,SqT.of upd_same,h.imp fun _ _=>IR.mono (.new hp)⟩
theorem nCatI {K:PySem.W.Frag}{H:Hp}{Q:VK}{is js:List Itm}{x y:V} (hx:IT K H is x) (hy:IT K H js y) (hz:is.length+js.length≤sizeLine) (q:∀ z H',Same H H'→IT K H' (is++js) z→Q z H'):rCatTA K x y H Q:=by
 obtain⟨a,xs,rfl,ha,ra⟩:=hx
 obtain⟨b,ys,rfl,hb,rb⟩:=hy
 exact⟨a,b,xs,ys,rfl,rfl,ha,hb,by rw [ra.length,rb.length]; exact hz,fun p H' S h=>q _ _ S ⟨p,_,rfl,h,(ra.append rb).imp fun _ _=>IR.mono (.of S)⟩⟩
theorem lc_mapT {K:PySem.W.Frag}{H:Hp}{a:Addr}{ts:List T}{xs:List V}{σ:Sg}{js:List Nat}{te:TE}{Q:VK} (f:T→V) (ha:SqT K H a xs) (hts:TRs K H ts xs) (hz:xs.length≤sizeLine)
  (hte:∀ t x H' (R:VK),t∈ts→Same H H'→TR K H' t x→(∀ H3,Same H' H3→R (f t) H3)→te (some x::frv σ js) H' R)
  (q:∀ D H',Same H H'→H' D=some (.lst (ts.map f))→Q (.ref D) H'):LcRun (Itt K a) js te σ Q H:=by
 refine lc_tupI (K:=K) (a:=a) (xs:=xs) (fun D i ys H'=>H D=none∧Same H H'∧H' D=some (.lst ys)∧ys.length=i∧ys=(ts.take i).map f) hz (fun D hD=>?_) (fun D i ys H' j=>⟨j.2.2.1,j.2.2.2.1,sqT_mono (.of j.2.1) ha⟩) (fun D i x ys H' R hx j hR=>?_) (fun D ys H' j=>?_)
 ·exact⟨hD,same_new hD _,upd_same,rfl,rfl⟩
 ·obtain⟨hD,S,h1,hl,e⟩:=j
  obtain⟨t,et,ht⟩:=hts.get hx
  refine hte t x H' R (List.mem_of_getElem? et) S (ht.mono (.of S)) fun H3 S3=>?_
  refine hR _ H3 (S3 _ _ h1) ⟨hD,same_upd (S.trans S3) hD,upd_same,by rw [List.length_append,hl]; rfl,?_⟩
  rw [List.take_add_one,et,List.map_append,e]
  rfl
 ·obtain⟨hD,S,h1,hl,e⟩:=j
  refine q D H' S ?_
  rw [h1,e,List.take_of_length_le (by rw [hts.length]; exact Nat.le_refl _)]
def spShowT (K:PySem.W.Frag):Sp:=fun vs H Q _=>∃ x t,vs=[x]∧TR K H t x∧t.parts≤100000∧∀ H',Same H H'→Q (.str (tx t.wr)) H'
def spOdd (K:PySem.W.Frag):Sp:=fun vs H Q _=>∃ x w,vs=[x]∧TR K H w x∧B 400 100000 w∧∀ H',Same H H'→Q (.bl (oddT w)) H'
def spSpelled (K:PySem.W.Frag):Sp:=fun vs H Q _=>∃ x w,vs=[x]∧TR K H w x∧B 400 100000 w∧∀ y H',Same H H'→IT K H' (spelledT w) y→Q y H'
def spShowX (K:PySem.W.Frag):Sp:=fun vs H Q _=>∃ x ts ps,vs=[x]∧TR K H (.node ts) x∧Ts ts ps∧B 400 80000 (.node ts)∧∀ H',Same H H'→Q (.str (tx (joinL [32] ps))) H'
theorem bt_any:bootBuiltins "any"=some (.builtin "any"):=by decide +kernel
theorem op_neTrK {X:Cx}{K:PySem.W.Frag}{A:Around}{n:Nat} (hK:X.K=K) (hA:X.A=A) (hu:A.units+n+1<cLine):OpR X (compareOp .NotEq) (rNeTr K n):=by subst hK; subst hA; exact op_neTr hu
theorem op_eqTrK {X:Cx}{K:PySem.W.Frag}{A:Around}{n:Nat} (hK:X.K=K) (hA:X.A=A) (hu:A.units+n<cLine):OpR X (compareOp .Eq) (rEqTr K n):=by subst hK; subst hA; exact op_eqTr hu
end Sw
namespace Sw
open PySem PySem.Spec PyProof.Rows L2
section
variable {X:Cx}{o e value:Expr}{f:Str}{pos pos':Pos}{ta tv:TE}
theorem qe_fld (he:QE X e ta) (hb:attributeBase e f X.env (eval e X.env)=eval e X.env):QE X (.Attribute e f pos) (tFld X.K ta f):=⟨pe_fld he.run hb⟩
theorem qs_fld (ha:QE X o ta) (hv:QE X value tv) (hs:swapsWith value (some (.Attribute o f pos')) pos.line X.env=pure false):QS X (.Assign [.Attribute o f pos'] value pos) (sFld X.K ta tv f):=⟨ps_fld ha.run hv.run hs⟩
end
section
variable {X:Cx}{CX:CXT}{k:Nat}{f C:Addr}{fd:FuncData}{ps:List Str}{sp:Sp}{dvs:List V}{ds:List Value}{E:XK}{m x:Str}{p apos pos:Pos}{o e:Expr}{es:List Expr}{ta:TE}{t:TA}
theorem qe_meth {pl:Sem Bool} (he:QE X o ta) (c:Cls X.K C) (hm:Meth X.K C m f) (F:FnOk X.prog X.w X.K X.mg X.base CX k f fd ps sp) (hr:Room k X.A) (hb:Binds X.K fd ps ds) (hd:Vals dvs ds) (hx:Passes CX X E) (ha:QA X (e::es) t)
  (hst:starEach (e::es) X.env=(false,eval e X.env)::starEach es X.env:=by rfl) (hpl:(backTo pos (starEach es X.env)).any (·.1)=false:=by rfl)
  (ht:eval (.Call (.Attribute o m apos) (e::es) [] pos) X.env=(do
   let ov ← eval o X.env
   standAt apos.atName
   let (f,first) ← holding [ov] (getMethod ov m pl)
   callWith pos f first (backTo pos (starEach (e::es) X.env)) (backToKw pos (keywordEach [] X.env))):=by rfl):QE X (.Call (.Attribute o m apos) (e::es) [] pos) (tMeth C m sp dvs E ta t):=⟨pe_meth (pl:=pl) he.run c hm F hr hb hd hx ha.run hst hpl ht⟩
theorem qe_meth0 {pl:Sem Bool} (he:QE X o ta) (c:Cls X.K C) (hm:Meth X.K C m f) (F:FnOk X.prog X.w X.K X.mg X.base CX k f fd ps sp) (hr:Room k X.A) (hb:Binds X.K fd ps ds) (hd:Vals dvs ds) (hx:Passes CX X E)
  (ht:eval (.Call (.Attribute o m apos) [] [] pos) X.env=(do
   let ov ← eval o X.env
   standAt apos.atName
   let (f,first) ← holding [ov] (getMethod ov m pl)
   callWith pos f first (backTo pos (starEach [] X.env)) (backToKw pos (keywordEach [] X.env))):=by rfl):QE X (.Call (.Attribute o m apos) [] [] pos) (tMeth C m sp dvs E ta tNil):=⟨pe_meth0 (pl:=pl) he.run c hm F hr hb hd hx ht⟩
theorem qe_make0 (M:Mk X.K C f) (F:FnOk X.prog X.w X.K X.mg X.base CX k f fd ps sp) (hr:Room (k+1) X.A) (hg:Gl X x) (hm:X.mg x=some (.ref C)) (hb:Binds X.K fd ps ds) (hd:Vals dvs ds) (hx:Passes CX X E)
  (hdb:(x == ("__debug__":Str))=false:=by decide):QE X (.Call (.Name x p) [] [] pos) (tMake C sp dvs E tNil):=⟨pe_make0 M F hr hg hm hb hd hx hdb⟩
end
theorem putF_twice (f:Str) (u v:V):∀ fs:List (Str×V),putF f v (putF f u fs)=putF f v fs
 | []=>by
  show putF f v [(f,u)]=[(f,v)]
  unfold putF
  rw [if_pos rfl]
 | (g,x)::r=>by
  rw [putF]
  by_cases h:g=f
  ·rw [if_pos h,putF,if_pos h,putF,if_pos h]
  ·rw [if_neg h,putF,if_neg h,putF_twice f u v r,putF,if_neg h]
theorem putF_len (f:Str) (v:V):∀ fs:List (Str×V),(putF f v fs).length≤fs.length+1
 | []=>Nat.le_refl _
 | (g,x)::r=>by
  rw [putF]
  split
  ·show r.length+1≤r.length+1+1; lia
  ·have:=putF_len f v r
   show (putF f v r).length+1≤r.length+1+1
   lia
def fl (R P:Addr) (nm:List Nat):List (Str×V):=putF "named" (.str (tx nm)) (putF "places" (.ref P) (putF "rows" (.ref R) []))
section
variable {R P:Addr}{nm:List Nat}
theorem fl_rows:(fl R P nm).lookup ("rows":Str)=some (.ref R):=by unfold fl; rw [lookup_putF,if_neg (by decide +kernel),lookup_putF,if_neg (by decide +kernel),lookup_putF,if_pos rfl]
theorem fl_places:(fl R P nm).lookup ("places":Str)=some (.ref P):=by unfold fl; rw [lookup_putF,if_neg (by decide +kernel),lookup_putF,if_pos rfl]
theorem fl_named:(fl R P nm).lookup ("named":Str)=some (.str (tx nm)):=by unfold fl; rw [lookup_putF,if_pos rfl]
theorem fl_no {m:Str} (h1:¬ m="named") (h2:¬ m="places") (h3:¬ m="rows"):(fl R P nm).lookup m=none:=by unfold fl; rw [lookup_putF,if_neg h1,lookup_putF,if_neg h2,lookup_putF,if_neg h3]; rfl
theorem fl_put (nm':List Nat):putF "named" (.str (tx nm')) (fl R P nm)=fl R P nm':=by unfold fl; rw [putF_twice]
theorem fl_len:(fl R P nm).length<1000:=by
 unfold fl
 have h1:=putF_len "named" (.str (tx nm)) (putF "places" (.ref P) (putF "rows" (.ref R) []))
 have h2:=putF_len "places" (.ref P) (putF "rows" (.ref R) [])
 have h3:=putF_len "rows" (.ref R) []
 have:([]:List (Str×V)).length=0:=rfl
 lia
end
def plV (pl:List (List Nat)):List V:=pl.reverse.map fun c=>V.str (tx c)
structure RdX (K:PySem.W.Frag) (C:Addr) (H₀ H:Hp) (o dx R P:Addr) (ys:List V) (st:List (List T)) (pl:List (List Nat)) (nm:List Nat):Prop where
 ob:H o=some (.ins C dx (fl R P nm))
 on:H₀ o=none
 pn:H₀ P=none
 rows:RowsR K H₀ H R st ys
 at_:H P=some (.lst (plV pl))
 np:(.ref P:V) ∉ (.ref R:V)::ys
def RdAt (K:PySem.W.Frag) (C:Addr) (H₀ H:Hp) (o:Addr) (st:List (List T)) (pl:List (List Nat)) (nm:List Nat):Prop:=∃ dx R P ys,RdX K C H₀ H o dx R P ys st pl nm
section
variable {K:PySem.W.Frag}{C:Addr}{H₀ H:Hp}{o dx R P:Addr}{ys:List V}{st:List (List T)}{pl:List (List Nat)}{nm:List Nat}
theorem rows_same {H':Hp}{p:Addr} (h:RowsR K H₀ H p st ys) (S:Same H H'):RowsR K H₀ H' p st ys :=
 ⟨h.new,h.same.trans S,S _ _ h.at_,h.rows.imp fun _ _ ⟨a,xs,e,h1,h2,h3⟩=>⟨a,xs,e,h1,S _ _ h2,h3.mono (.of S)⟩,h.nd⟩
theorem rows_else {p q:Addr}{x:HO} (h:RowsR K H₀ H p st ys) (k:Kt H (upd H q x)) (h0:H₀ q=none) (hn:(.ref q:V) ∉ (.ref p:V)::ys):RowsR K H₀ (upd H q x) p st ys :=
 ⟨h.new,same_upd h.same h0,by rw [upd_ne (fun z=>hn (by rw [z]; exact List.mem_cons_self))]; exact h.at_,rows_upd k h.rows fun z=>hn (List.mem_cons_of_mem _ z),h.nd⟩
theorem rows_in (h:RowsR K H₀ H R st ys) {q:Addr} (hq:(.ref q:V)∈(.ref R:V)::ys):∃ zs,H q=some (.lst zs):=by
 rcases List.mem_cons.mp hq with z | z
 ·cases z; exact⟨_,h.at_⟩
 ·obtain⟨i,hi⟩:=List.mem_iff_getElem?.mp z
  obtain⟨ts,_,a,xs,e,_,h2,_⟩:=h.rows.get hi
  cases e
  exact⟨_,h2⟩
theorem RdX.grow {H':Hp} (h:RdX K C H₀ H o dx R P ys st pl nm) (S:Same H H'):RdX K C H₀ H' o dx R P ys st pl nm:=⟨S _ _ h.ob,h.on,h.pn,rows_same h.rows S,S _ _ h.at_,h.np⟩
theorem RdAt.grow {H':Hp} (h:RdAt K C H₀ H o st pl nm) (S:Same H H'):RdAt K C H₀ H' o st pl nm:=by obtain⟨dx,R,P,ys,h⟩:=h; exact⟨dx,R,P,ys,h.grow S⟩
theorem RdAt.same (h:RdAt K C H₀ H o st pl nm):Same H₀ H:=by obtain⟨dx,R,P,ys,h⟩:=h; exact h.rows.same
theorem Kt.ins {C' dx':Addr}{fs:List (Str×V)}{x:HO} (h:H o=some (.ins C' dx' fs)):Kt H (upd H o x) :=
 ⟨fun b xs e=>by rw [upd_ne (fun z=>by rw [z,h] at e; cases e)]; exact e,fun b _ _ e=>by rw [upd_ne (fun z=>by rw [z,h] at e; cases e)]; exact e⟩
theorem RdX.name (h:RdX K C H₀ H o dx R P ys st pl nm) (nm':List Nat):RdX K C H₀ (upd H o (.ins C dx (fl R P nm'))) o dx R P ys st pl nm':=by
 have hn:(.ref o:V) ∉ (.ref R:V)::ys:=fun z=>by
  obtain⟨zs,e⟩:=rows_in h.rows z
  rw [h.ob] at e
  cases e
 have hP:P≠o:=fun z=>by have:=h.at_; rw [z,h.ob] at this; cases this
 exact⟨upd_same,h.on,h.pn,rows_else h.rows (Kt.ins h.ob) h.on hn,by rw [upd_ne hP]; exact h.at_,h.np⟩
theorem RdX.oP (h:RdX K C H₀ H o dx R P ys st pl nm):o≠P:=fun z=>by have:=h.at_; rw [← z,h.ob] at this; cases this
theorem RdX.oR (h:RdX K C H₀ H o dx R P ys st pl nm):o≠R:=fun z=>by have:=h.rows.at_; rw [← z,h.ob] at this; cases this
theorem RdX.PR (h:RdX K C H₀ H o dx R P ys st pl nm):P≠R:=fun z=>h.np (by rw [z]; exact List.mem_cons_self)
theorem RdX.place (h:RdX K C H₀ H o dx R P ys st pl nm) {pl':List (List Nat)}{zs:List V} (e:zs=plV pl'):RdX K C H₀ (upd H P (.lst zs)) o dx R P ys st pl' nm:=by
 subst e
 exact⟨by rw [upd_ne h.oP]; exact h.ob,h.on,h.pn,rows_else h.rows (Kt.lst h.at_) h.pn h.np,upd_same,h.np⟩
theorem RdX.enter (h:RdX K C H₀ H o dx R P ys st pl nm) {q:Addr} (hq:H q=none):RdX K C H₀ (upd (upd H q (.lst [])) R (.lst (ys++[.ref q]))) o dx R P (ys++[.ref q]) ([]::st) pl nm:=by
 have nPq:P≠q:=ne_of_none h.at_ hq
 refine⟨?_,h.on,h.pn,rows_open h.rows hq,?_,fun z=>?_⟩
 ·rw [upd_ne h.oR,upd_ne (ne_of_none h.ob hq)]; exact h.ob
 ·rw [upd_ne h.PR,upd_ne nPq]; exact h.at_
 ·rcases List.mem_cons.mp z with z | z
  ·exact h.PR (V.ref.inj z)
  ·rcases List.mem_append.mp z with z | z
   ·exact h.np (List.mem_cons_of_mem _ z)
   ·exact nPq (V.ref.inj (List.mem_singleton.mp z))
theorem RdX.add {r:List T}{rs:List (List T)}{t:T}{x:V} (h:RdX K C H₀ H o dx R P ys (r::rs) pl nm) (ht:TR K H t x) :
  ∃ (ys0:List V) (a:Addr) (xs:List V),ys=ys0++[.ref a]∧H a=some (.lst xs)∧xs.length=r.length∧RdX K C H₀ (upd H a (.lst (xs++[x]))) o dx R P ys ((r++[t])::rs) pl nm:=by
 have hr:=h.rows.rows
 rw [List.reverse_cons] at hr
 obtain⟨ys0,y,rfl,h1,a,xs,rfl,ha0,ha,hta⟩:=All2.snoc hr
 have nd:=h.rows.nd
 have ndp:=(List.nodup_cons.mp nd).1
 have ndy:=(List.nodup_cons.mp nd).2
 have na:(.ref a:V) ∉ ys0:=fun z=>(List.nodup_append.mp ndy).2.2 _ z _ (by simp) rfl
 have nRa:R≠a:=fun z=>ndp (by rw [z]; simp)
 have nPa:P≠a:=fun z=>h.np (by rw [z]; simp)
 have noa:o≠a:=fun z=>by rw [← z,h.ob] at ha; cases ha
 have k:=Kt.lst (o:=.lst (xs++[x])) ha
 refine⟨ys0,a,xs,rfl,ha,hta.length,by rw [upd_ne noa]; exact h.ob,h.on,h.pn,⟨h.rows.new,same_upd h.rows.same ha0,by rw [upd_ne nRa]; exact h.rows.at_,?_,nd⟩,by rw [upd_ne nPa]; exact h.at_,h.np⟩
 rw [List.reverse_cons]
 exact All2.append (rows_upd k h1 na) (All2.one ⟨a,_,rfl,ha0,upd_same,TRs.append (hta.mono k) (trs1 (ht.mono k))⟩)
theorem RdX.shut {r:List T}{rs:List (List T)} (h:RdX K C H₀ H o dx R P ys (r::rs) pl nm) :
  ∃ (ys0:List V) (a:Addr) (xs:List V),ys=ys0++[.ref a]∧R≠a∧H a=some (.lst xs)∧TRs K H r xs∧RdX K C H₀ (upd H R (.lst ys0)) o dx R P ys0 rs pl nm:=by
 have hr:=h.rows.rows
 rw [List.reverse_cons] at hr
 obtain⟨ys0,y,rfl,h1,a,xs,rfl,ha0,ha,hta⟩:=All2.snoc hr
 have nd:=h.rows.nd
 have ndp:=(List.nodup_cons.mp nd).1
 have ndy:=(List.nodup_cons.mp nd).2
 have nRa:R≠a:=fun z=>ndp (by rw [z]; simp)
 have k:=Kt.lst (o:=.lst ys0) h.rows.at_
 refine⟨ys0,a,xs,rfl,nRa,ha,hta,by rw [upd_ne h.oR]; exact h.ob,h.on,h.pn,⟨h.rows.new,same_upd h.rows.same h.rows.new,upd_same,rows_upd k h1 fun z=>ndp (by simp [z]),List.nodup_cons.mpr ⟨fun z=>ndp (by simp [z]),(List.nodup_append.mp ndy).1⟩⟩,by rw [upd_ne h.PR]; exact h.at_,fun z=>h.np ?_⟩
 rcases List.mem_cons.mp z with z | z
 ·rw [z]; exact List.mem_cons_self
 ·exact List.mem_cons_of_mem _ (List.mem_append_left _ z)
end
end Sw
namespace Sw
open PySem PySem.Spec PyProof.Rows L2
def textC:List Nat:=[116,101,120,116]
def yesC:List Nat:=[121,101,115]
def noC:List Nat:=[110,111]
def bodyC:List Nat:=[98,111,100,121]
theorem tx_text:Str.ofString "text"=tx textC:=by decide +kernel
theorem tx_yes:Str.ofString "yes"=tx yesC:=by decide +kernel
theorem tx_no:Str.ofString "no"=tx noC:=by decide +kernel
theorem tx_body:Str.ofString "body"=tx bodyC:=by decide +kernel
def forkW (y n:List T):T:=.node (leavesT 7::.node y::n)
def loopW (r:List T):T:=.node (leavesT 8::r)
inductive One:T→List Nat→Prop
 | odd {w:T} (h:oddT w=true):One w (33::w.wr)
 | lay {w:T} (h:oddT w=false) (hs:sortT w=0):One w (39::(loadT w).wr)
 | plain {w:T} (h:oddT w=false) (h1:1≤sortT w) (h6:sortT w≤6):One w (nmC (sortT w))
structure Rst where
 st:List (List T)
 pl:List (List Nat)
 nm:List Nat
inductive Stp:Rst→List Nat→Rst→Prop
 | openF {st:List (List T)}{pl:List (List Nat)}:Stp ⟨st,pl,nmC 7⟩ [91] ⟨[]::st,yesC::pl,[]⟩
 | openW {st:List (List T)}{pl:List (List Nat)}:Stp ⟨st,pl,nmC 8⟩ [91] ⟨[]::st,bodyC::pl,[]⟩
 | name {st:List (List T)}{pl:List (List Nat)}{k:Nat} (h:k=7∨k=8):Stp ⟨st,pl,[]⟩ (nmC k) ⟨st,pl,nmC k⟩
 | bar {st:List (List T)}{pl:List (List Nat)}:Stp ⟨st,yesC::pl,[]⟩ [124] ⟨[]::st,noC::yesC::pl,[]⟩
 | shutW {r s:List T}{st:List (List T)}{pl:List (List Nat)}:Stp ⟨r::s::st,bodyC::pl,[]⟩ [93] ⟨(s++[loopW r])::st,pl,[]⟩
 | shutF {n y s:List T}{st:List (List T)}{pl:List (List Nat)}:Stp ⟨n::y::s::st,noC::yesC::pl,[]⟩ [93] ⟨(s++[forkW y n])::st,pl,[]⟩
 | word {w:T}{p:List Nat}{s:List T}{st:List (List T)}{pl:List (List Nat)} (h:One w p):Stp ⟨s::st,pl,[]⟩ p ⟨(s++[w])::st,pl,[]⟩
inductive Stps:Rst→List (List Nat)→Rst→Prop
 | nil {a:Rst}:Stps a [] a
 | cons {a b c:Rst}{p:List Nat}{ps:List (List Nat)} (h:Stp a p b) (g:Stps b ps c):Stps a (p::ps) c
theorem Stps.append {a b c:Rst}{ps qs:List (List Nat)} (h:Stps a ps b) (g:Stps b qs c):Stps a (ps++qs) c:=by
 induction h with
 | nil=>exact g
 | cons h _ ih=>exact .cons h (ih g)
theorem Stps.one {a b:Rst}{p:List Nat} (h:Stp a p b):Stps a [p] b:=.cons h .nil
theorem leaves_of:∀ {ts:List T},(ts.any fun t=>!T.beq t leaf)=false→ts=List.replicate ts.length (.node [])
 | [],_=>rfl
 | t::ts,h=>by
  rw [List.any_cons,Bool.or_eq_false_iff] at h
  have e:t=leaf:=(T.beq_iff _ _).mp (by have:=h.1; revert this; cases T.beq t leaf <;> simp)
  rw [List.length_cons,List.replicate_succ,e]
  exact congrArg (leaf::·) (leaves_of h.2)
theorem odd_head {w:T} (h:oddT w=false):∃ r,w=.node (leavesT (sortT w)::r):=by
 have h8:=odd_sort h
 have hh:headOdd w=false:=by
  unfold oddT at h
  split at h
  ·cases h
  ·rename_i z; exact Bool.eq_false_iff.mpr z
 unfold headOdd at hh
 rw [Bool.or_eq_false_iff] at hh
 cases w with
 | node ts =>
  cases ts with
  | nil=>exact absurd (show T.beq (.node []) leaf=true from T.beq_self _) (by rw [hh.1]; decide)
  | cons f r =>
   cases f with
   | node us =>
    have e:=leaves_of (ts:=us) hh.2
    have es:sortT (.node (.node us::r))=min 9 us.length:=rfl
    rw [es] at h8
    refine⟨r,?_⟩
    rw [es,show min 9 us.length=us.length by lia]
    show T.node (.node us::r)=T.node (.node (List.replicate us.length (.node []))::r)
    rw [← e]
theorem loop_of {w:T} (h:oddT w=false) (hs:sortT w=8):w=loopW (loadT w).kids:=by
 obtain⟨r,e⟩:=odd_head h
 rw [hs] at e
 rw [e]
 rfl
theorem fork_of {w:T} (h:oddT w=false) (hs:sortT w=7):w=forkW (ats (loadT w).kids 0).kids (loadT (loadT w)).kids:=by
 obtain⟨r,e⟩:=odd_head h
 rw [hs] at e
 cases r with
 | nil =>
  have hl:loadT w=leaf:=by rw [e]; rfl
  unfold oddT at h
  rw [hs,hl] at h
  split at h
  ·cases h
  ·rw [if_neg (by lia),if_pos rfl] at h
   exact absurd (show T.beq leaf leaf=true from T.beq_self _) (by rw [h]; decide)
 | cons y n =>
  rw [e]
  cases y
  rfl
mutual
theorem wr_stps:∀ {w:T}{ps:List (List Nat)},Wr w ps→∀ (s:List T) (st:List (List T)) (pl:List (List Nat)),Stps ⟨s::st,pl,[]⟩ ps ⟨(s++[w])::st,pl,[]⟩
 | w,_,.odd h=>fun s st pl=>.one (.word (.odd h))
 | w,_,.lay h hs=>fun s st pl=>.one (.word (.lay h hs))
 | w,_,.plain h h1 h6=>fun s st pl=>.one (.word (.plain h h1 h6))
 | w,_,.fork h hs hy hn=>fun s st pl=>by
  have a1:=ts_stps hy [] (s::st) (yesC::pl)
  have a2:=ts_stps hn [] ((ats (loadT w).kids 0).kids::s::st) (noC::yesC::pl)
  have e:=fork_of h hs
  rw [List.nil_append] at a1 a2
  have a0:Stps ⟨s::st,pl,[]⟩ [nmC 7,[91]] ⟨[]::s::st,yesC::pl,[]⟩:=.cons (.name (.inl rfl)) (.one .openF)
  have a3:=((((a0.append a1).append (.one .bar)).append a2).append (.one (.shutF)))
  rw [← e] at a3
  exact a3
 | w,_,.loop h hs hb=>fun s st pl=>by
  have a1:=ts_stps hb [] (s::st) (bodyC::pl)
  have e:=loop_of h hs
  rw [List.nil_append] at a1
  have a0:Stps ⟨s::st,pl,[]⟩ [nmC 8,[91]] ⟨[]::s::st,bodyC::pl,[]⟩:=.cons (.name (.inr rfl)) (.one .openW)
  have a3:=(a0.append a1).append (.one (.shutW))
  rw [← e] at a3
  exact a3
theorem ts_stps:∀ {ws:List T}{ps:List (List Nat)},Ts ws ps→∀ (s:List T) (st:List (List T)) (pl:List (List Nat)),Stps ⟨s::st,pl,[]⟩ ps ⟨(s++ws)::st,pl,[]⟩
 | _,_,.nil=>fun s st pl=>by rw [List.append_nil]; exact .nil
 | _,_,.cons (w:=w) (ws:=ws) h g=>fun s st pl=>by
  have a1:=wr_stps h s st pl
  have a2:=ts_stps g (s++[w]) st pl
  rw [List.append_assoc] at a2
  exact a1.append a2
end
end Sw
namespace Sw
open PySem PySem.Spec PyProof.Rows L2
theorem snoc_last {α:Type} (xs:List α) (x:α):(xs++[x])[(xs++[x]).length - 1]?=some x:=by simp
theorem snoc_drop {α:Type} (xs:List α) (x:α):(xs++[x]).dropLast=xs:=by simp
theorem plV_cons (c:List Nat) (pl:List (List Nat)):plV (c::pl)=plV pl++[.str (tx c)]:=by unfold plV; rw [List.reverse_cons,List.map_append]; rfl
theorem plV_len (pl:List (List Nat)):(plV pl).length=pl.length:=by unfold plV; rw [List.length_map,List.length_reverse]
def spInit (K:PySem.W.Frag) (C:Addr):Sp:=fun vs H Q _=>∃ (o dx:Addr) (H₀:Hp),vs=[.ref o]∧Same H₀ H∧H₀ o=none∧H o=some (.ins C dx [])∧∀ H',Kt H H'→RdAt K C H₀ H' o [[]] [textC] []→Q .non H'
def spEnter (K:PySem.W.Frag) (C:Addr):Sp:=fun vs H Q _=>∃ (o:Addr) (c:List Nat) (H₀:Hp) (st:List (List T)) (pl:List (List Nat)) (nm:List Nat),vs=[.ref o,.str (tx c)]∧RdAt K C H₀ H o st pl nm∧st.length≤100000∧pl.length≤100000 ∧
 ∀ H',Kt H H'→RdAt K C H₀ H' o ([]::st) (c::pl) nm→Q .non H'
def spLeave (K:PySem.W.Frag) (C:Addr):Sp:=fun vs H Q _=>∃ (o:Addr) (c:List Nat) (H₀:Hp) (r:List T) (st:List (List T)) (pl:List (List Nat)) (nm:List Nat),vs=[.ref o]∧RdAt K C H₀ H o (r::st) (c::pl) nm ∧
 ∀ y H',Kt H H'→RdAt K C H₀ H' o st pl nm→TR K H' (.node r) y→Q y H'
def spAddW (K:PySem.W.Frag) (C:Addr):Sp:=fun vs H Q _=>∃ (o:Addr) (x:V) (t:T) (H₀:Hp) (r:List T) (st:List (List T)) (pl:List (List Nat)) (nm:List Nat),vs=[.ref o,x]∧TR K H t x∧RdAt K C H₀ H o (r::st) pl nm∧r.length≤100000 ∧
 ∀ H',Kt H H'→RdAt K C H₀ H' o ((r++[t])::st) pl nm→Q .non H'
end Sw
namespace Sw
open PySem PySem.Spec PyProof.Rows L2
theorem deepL_app (xs ys:List T):T.deepL (xs++ys)=max (T.deepL xs) (T.deepL ys):=by
 induction xs with
 | nil=>rw [List.nil_append,T.deepL_nil]; lia
 | cons x xs ih=>rw [List.cons_append,T.deepL_cons,T.deepL_cons,ih]; lia
theorem B_left {a b:Nat}{xs ys:List T} (h:B a b (.node (xs++ys))):B a b (.node xs):=by
 obtain⟨h1,h2⟩:=h
 rw [T.deep_node,deepL_app] at h1
 rw [T.parts_node,T.partsL_append] at h2
 exact⟨by rw [T.deep_node]; lia,by rw [T.parts_node]; lia⟩
structure Sz (a:Rst):Prop where
 st:a.st.length≤100000
 pl:a.pl.length≤100000
 each:∀ r∈a.st,B 400 100000 (.node r)
end Sw
namespace Sw
open PySem PySem.Spec PyProof.Rows L2
theorem iteFb {c:Bool}{P Q:Prop} (h:c=false) (q:Q):if c=true then P else Q:=by subst h; exact iteF q
theorem iteTb {c:Bool}{P Q:Prop} (h:c=true) (q:P):if c=true then P else Q:=by subst h; exact iteT q
theorem dec_txs (a b:List Nat) {z:Str} (hz:z=tx b):decide (V.str (tx a)=V.str z)=decide (a=b):=by
 subst hz
 by_cases h:a=b
 ·subst h; rw [decide_eq_true rfl,decide_eq_true rfl]
 ·rw [decide_eq_false h,decide_eq_false (fun z=>h (tx_inj.mp (V.str.inj z)))]
theorem beq_tx (a b:List Nat):(tx a == tx b)=decide (a=b):=by
 by_cases h:a=b
 ·subst h; rw [decide_eq_true rfl]; exact beq_self_eq_true _
 ·rw [decide_eq_false h]; exact beq_eq_false_iff_ne.mpr (fun z=>h (tx_inj.mp z))
theorem in_two (p b c:List Nat):inV (.str (tx p)) [.str (tx b),.str (tx c)]=(decide (b=p) || decide (c=p)):=by
 unfold inV
 rw [List.any_cons,List.any_cons,List.any_nil,Bool.or_false]
 show ((tx b == tx p) || (tx c == tx p))=_
 rw [beq_tx,beq_tx]
theorem one_ne {w:T}{p:List Nat} (h:One w p):p≠[91]∧p≠nmC 7∧p≠nmC 8∧p≠[124]∧p≠[93]:=by
 cases h with
 | odd h=>refine⟨?_,?_,?_,?_,?_⟩ <;> intro z <;> exact absurd (congrArg List.head? z) (by show ¬ some 33=some _; decide)
 | lay h hs=>refine⟨?_,?_,?_,?_,?_⟩ <;> intro z <;> exact absurd (congrArg List.head? z) (by show ¬ some 39=some _; decide)
 | plain h h1 h6 =>
  have:∀ k,1≤k→k≤6→nmC k≠[91]∧nmC k≠nmC 7∧nmC k≠nmC 8∧nmC k≠[124]∧nmC k≠[93]:=by
   intro k a b
   have:k=1∨k=2∨k=3∨k=4∨k=5∨k=6:=by lia
   rcases this with rfl | rfl | rfl | rfl | rfl | rfl <;> decide
  exact this _ h1 h6
end Sw
namespace Sw
open PySem PySem.Spec PyProof.Rows L2
section
variable {K:PySem.W.Frag}{C:Addr}{H₀ H:Hp}{o dx R P l:Addr}{ys:List V}{st:List (List T)}{pl:List (List Nat)}{nm:List Nat}
theorem RdX.base (h:RdX K C H₀ H o dx R P ys st pl nm) (hl:H l=none) (z:HO):RdX K C (upd H₀ l z) (upd H l z) o dx R P ys st pl nm:=by
 have g:=h.grow (same_new hl z)
 have nn:∀ {q:Addr}{w:HO},H q=some w→H₀ q=none→upd H₀ l z q=none:=fun e e0=>by rw [upd_ne (ne_of_none e hl)]; exact e0
 refine⟨g.ob,nn h.ob h.on,nn h.at_ h.pn,⟨nn h.rows.at_ h.rows.new,fun b w e=>?_,g.rows.at_,?_,g.rows.nd⟩,g.at_,g.np⟩
 ·by_cases hb:b=l
  ·subst hb
   rw [upd_same] at e ⊢
   exact e
  ·rw [upd_ne hb] at e ⊢
   exact h.rows.same b w e
 ·exact h.rows.rows.imp fun _ _ ⟨a,xs,e,h1,h2,h3⟩=>⟨a,xs,e,nn h2 h1,(same_new hl z) _ _ h2,h3.mono (.new hl)⟩
end
theorem joinL_one (c:Nat) (l:List Nat):joinL [c] [l]=l:=rfl
theorem parted_eq {c:Nat}:∀ {a b x y:List Nat},c ∉ a→c ∉ b→a++c::x=b++c::y→a=b∧x=y
 | [],[],_,_,_,_,e=>⟨rfl,(List.cons.inj e).2⟩
 | [],d::b,_,_,_,hb,e=>absurd (List.cons.inj e).1 (fun z=>hb (by rw [z]; exact List.mem_cons_self))
 | d::a,[],_,_,ha,_,e=>absurd (List.cons.inj e).1.symm (fun z=>ha (by rw [z]; exact List.mem_cons_self))
 | d::a,f::b,x,y,ha,hb,e=>by
  obtain⟨e1,e2⟩:=List.cons.inj e
  obtain⟨e3,e4⟩:=parted_eq (fun z=>ha (List.mem_cons_of_mem _ z)) (fun z=>hb (List.mem_cons_of_mem _ z)) e2
  exact⟨by rw [e1,e3],e4⟩
theorem join_uniq {c:Nat}:∀ {as bs:List (List Nat)},as≠[]→bs≠[]→(∀ p∈as,c ∉ p)→(∀ p∈bs,c ∉ p)→joinL [c] as=joinL [c] bs→as=bs
 | [],_,h,_,_,_,_=>absurd rfl h
 | _::_,[],_,h,_,_,_=>absurd rfl h
 | [a],[b],_,_,_,_,e=>by rw [joinL_one,joinL_one] at e; rw [e]
 | [a],b::b'::bs,_,_,ha,_,e=>by
  rw [joinL_one,joinL_cons _ _ (by simp)] at e
  exact absurd (show c∈a by rw [e]; simp) (ha a List.mem_cons_self)
 | a::a'::as,[b],_,_,_,hb,e=>by
  rw [joinL_one,joinL_cons _ _ (by simp)] at e
  exact absurd (show c∈b by rw [← e]; simp) (hb b List.mem_cons_self)
 | a::a'::as,b::b'::bs,_,_,ha,hb,e=>by
  rw [joinL_cons [c] a (show a'::as≠[] by simp),joinL_cons [c] b (show b'::bs≠[] by simp),List.append_assoc,List.append_assoc] at e
  obtain⟨e1,e2⟩:=parted_eq (ha a List.mem_cons_self) (hb b List.mem_cons_self) e
  rw [e1,join_uniq (by simp) (by simp) (fun p hp=>ha p (List.mem_cons_of_mem _ hp)) (fun p hp=>hb p (List.mem_cons_of_mem _ hp)) e2]
theorem join_nil {c:Nat}:∀ {as:List (List Nat)},(∀ p∈as,p≠[])→joinL [c] as=[]→as=[]
 | [],_,_=>rfl
 | [a],h,e=>absurd e (h a List.mem_cons_self)
 | a::b::as,_,e=>by
  rw [joinL_cons _ _ (by simp)] at e
  simp at e
mutual
theorem wr_no:∀ t:T,32 ∉ t.wr
 | .node ts=>fun z=>by
  rcases List.mem_cons.mp (show 32∈40::(T.wrL ts++[41]) from z) with z | z
  ·cases z
  ·rcases List.mem_append.mp z with z | z
   ·exact wrL_no ts z
   ·cases List.mem_singleton.mp z
theorem wrL_no:∀ ts:List T,32 ∉ T.wrL ts
 | []=>by show 32 ∉ []; simp
 | t::ts=>fun z=>by
  rcases List.mem_append.mp (show 32∈T.wr t++T.wrL ts from z) with z | z
  ·exact wr_no t z
  ·exact wrL_no ts z
end
def okP (p:List Nat):Prop:=p≠[]∧32 ∉ p
theorem nm_ok {k:Nat} (h:k≤8):okP (nmC k):=by
 have:k=0∨k=1∨k=2∨k=3∨k=4∨k=5∨k=6∨k=7∨k=8:=by lia
 rcases this with rfl | rfl | rfl | rfl | rfl | rfl | rfl | rfl | rfl <;> exact⟨by decide,by decide⟩
theorem all_app {ps qs:List (List Nat)} (h:∀ p∈ps,okP p) (g:∀ p∈qs,okP p):∀ p∈ps++qs,okP p:=fun p hp=>by
 rcases List.mem_append.mp hp with z | z
 ·exact h p z
 ·exact g p z
theorem all_one {l:List Nat} (h:okP l):∀ p∈[l],okP p:=fun p hp=>by rw [List.mem_singleton.mp hp]; exact h
mutual
theorem wr_ok:∀ {w:T}{ps:List (List Nat)},Wr w ps→∀ p∈ps,okP p
 | w,_,.odd h=>all_one ⟨by simp,fun z=>by
   rcases List.mem_cons.mp z with z | z
   ·cases z
   ·exact wr_no _ z⟩
 | w,_,.lay h hs=>all_one ⟨by simp,fun z=>by
   rcases List.mem_cons.mp z with z | z
   ·cases z
   ·exact wr_no _ z⟩
 | w,_,.plain h h1 h6=>all_one (nm_ok (by lia))
 | w,_,.fork h hs hy hn=>all_app (all_app (all_app (all_app (all_app (all_one (nm_ok (by lia))) (all_one (l:=[91]) ⟨by decide,by decide⟩)) (ts_ok hy)) (all_one ⟨by decide,by decide⟩)) (ts_ok hn)) (all_one ⟨by decide,by decide⟩)
 | w,_,.loop h hs hb=>all_app (all_app (all_app (all_one (nm_ok (by lia))) (all_one (l:=[91]) ⟨by decide,by decide⟩)) (ts_ok hb)) (all_one ⟨by decide,by decide⟩)
theorem ts_ok:∀ {ws:List T}{ps:List (List Nat)},Ts ws ps→∀ p∈ps,okP p
 | _,_,.nil=>fun _ h=>by simp at h
 | _,_,.cons h g=>all_app (wr_ok h) (ts_ok g)
end
end Sw
namespace Sw
open PySem PySem.Spec PyProof.Rows L2
section
variable {X:Cx}
def rIndex (K:PySem.W.Frag):V→List V→Hp→VK→Prop:=fun x vs H Q=>∃ (a:Addr) (cs:List (List Nat)) (p:List Nat) (j:Nat),x=.ref a∧vs=[.str (tx p)]∧SqT K H a (cs.map fun c=>V.str (tx c))∧cs[j]?=some p∧(∀ m,m<j→cs[m]?≠some p)∧Q (.int (j:Nat)) H
theorem mt_index:MtM X "tuple.index" (rIndex X.K):=by
 intro pins s σ H x vs v us Q I rx rv h
 obtain⟨a,cs,p,j,rfl,rfl,hq,hj,hn,q⟩:=h
 cases rx
 obtain⟨u,rfl,ru⟩:=rv.one
 obtain⟨its,r,ht,hz⟩:=I.tuple hq
 obtain⟨⟨cls,dd,data,sl⟩,ho,hc,n,hd⟩:=id ht
 simp only at hc hd
 subst hc hd
 have flat:∀ l:List (List Nat),(l.map fun c=>V.str (tx c)).all flatV=true:=fun l=>by
  rw [List.all_eq_true]
  intro y hy
  obtain⟨c,_,rfl⟩:=List.mem_map.mp hy
  rfl
 have hlen:=r.length
 rw [List.length_map] at hlen
 have hjl:j<cs.length:=(List.getElem?_eq_some_iff.mp hj).1
 have at_:∀ m (hm:m<its.toArray.size),eqU (.str (tx p)) its.toArray[m]=decide (cs[m]?=some p):=fun m hm=>by
  have hm':m<cs.length:=by rw [List.size_toArray] at hm; lia
  obtain⟨u',e1,ru'⟩:=r.get (i:=m) (x:=.str (tx cs[m])) (by rw [List.getElem?_map,List.getElem?_eq_getElem hm']; rfl)
  have e2:its.toArray[m]=u':=by
   have:=List.getElem?_eq_some_iff.mp e1
   simpa using this.2
  rw [e2,eqU_of ru' rfl,List.getElem?_eq_getElem hm']
  show (tx cs[m] == tx p)=_
  rw [beq_tx]
  by_cases z:cs[m]=p
  ·rw [decide_eq_true z,decide_eq_true (congrArg some z)]
  ·rw [decide_eq_false z,decide_eq_false (fun y=>z (Option.some.inj y))]
 have hjs:j<its.toArray.size:=by rw [List.size_toArray]; lia
 refine call_meets F.slot_tuple_index ⟨_,ho,rfl⟩ F.entry_tuple_index (F.args_tuple_index_2 _ _)
  (tup_indexAt a its.toArray n dd sl u (eqU (.str (tx p))) j hjs (by rw [at_ j hjs,hj]; exact decide_eq_true rfl) (fun m hm hlt=>by rw [at_ m hm]; exact decide_eq_false (hn m hlt))) ⟨ho,fun y hy=>?_,?_⟩
 ·exact mem_eqAt ru rfl r (flat cs) y (by simpa using hy)
 ·exact⟨.int (j:Nat),H,I.tok _,⟨_,rfl⟩,q⟩
end
end Sw
namespace Sw
open PySem PySem.Spec PyProof.Rows L2
def sixV:List V:=[1,2,3,4,5,6].map fun k=>V.str (tx (nmC k))
theorem cut17:cutV namesV (some 1) (some 7)=sixV:=by
 unfold cutV
 rw [show (some (1:Int))=some ((1:Nat):Int) from rfl,show (some (7:Int))=some ((7:Nat):Int) from rfl,HT.sIx_nat,HT.sIx_nat]
 rfl
theorem in_six (p:List Nat):inV (.str (tx p)) sixV=[1,2,3,4,5,6].any fun k=>decide (nmC k=p):=by
 unfold inV sixV
 rw [List.any_map]
 refine congrArg (fun f=>List.any [1,2,3,4,5,6] f) (funext fun k=>?_)
 show (tx (nmC k) == tx p)=_
 rw [beq_tx]
theorem six_no {c:Nat}{l:List Nat} (h:c<97):([1,2,3,4,5,6].any fun j=>decide (nmC j=c::l))=false:=by
 rw [List.any_eq_false]
 intro k hk
 rw [decide_eq_true_eq]
 intro z
 have e:=congrArg List.head? z
 have e:(nmC k).head?=some c:=e
 simp only [List.mem_cons,List.not_mem_nil,or_false] at hk
 rcases hk with rfl | rfl | rfl | rfl | rfl | rfl <;> (have:=Option.some.inj e; lia)
theorem names_map:namesV=((List.range 9).map nmC).map fun c=>V.str (tx c):=by unfold namesV; rw [List.map_map]; rfl
theorem nm_first {k:Nat} (h:k≤8):((List.range 9).map nmC)[k]?=some (nmC k)∧∀ m,m<k→((List.range 9).map nmC)[m]?≠some (nmC k):=by
 have:k=0∨k=1∨k=2∨k=3∨k=4∨k=5∨k=6∨k=7∨k=8:=by lia
 rcases this with rfl | rfl | rfl | rfl | rfl | rfl | rfl | rfl | rfl <;> exact⟨rfl,by decide⟩
theorem lay_of {w:T} (h:oddT w=false) (hs:sortT w=0):w=wordT 0 (loadT w).kids:=by
 obtain⟨r,e⟩:=odd_head h
 rw [hs] at e
 rw [e]
 rfl
theorem plain_of {w:T} (h:oddT w=false) (h1:1≤sortT w) (h6:sortT w≤6):w=wordT (sortT w) []:=by
 obtain⟨r,e⟩:=odd_head h
 have hl:loadT w=leaf:=by
  unfold oddT at h
  split at h
  ·cases h
  ·rw [if_neg (by lia),if_neg (by lia),Bool.or_eq_false_iff] at h
   refine (T.beq_iff _ _).mp ?_
   have:=h.2
   revert this
   cases T.beq (loadT w) leaf <;> simp
 have er:r=[]:=by
  have:loadT w=.node r:=by rw [e]; rfl
  rw [this] at hl
  exact T.node.inj hl
 rw [er] at e
 exact e
theorem cut_tail (c:Nat) (l:List Nat):cutL (c::l) (some 1) none=l:=by
 unfold cutL
 rw [show (some (1:Int))=some ((1:Nat):Int) from rfl,HT.sIx_nat]
 show ((c::l).drop (min 1 (l.length+1))).take (HT.sIx (c::l).length (c::l).length none - _)=l
 have e1:min 1 (l.length+1)=1:=by lia
 rw [e1]
 show l.take (l.length+1 - min 1 (l.length+1))=l
 exact List.take_of_length_le (by lia)
end Sw
namespace Sw
open PySem PySem.Spec PyProof.Rows L2
theorem wr_ne {w:T}{ps:List (List Nat)} (h:Wr w ps):ps≠[]:=by cases h <;> simp
theorem joinL_app {s:List Nat}:∀ {as bs:List (List Nat)},as≠[]→bs≠[]→joinL s (as++bs)=joinL s as++s++joinL s bs
 | [],_,h,_=>absurd rfl h
 | [a],bs,_,h=>by
  show joinL s (a::bs)=_
  rw [joinL_cons s a h]
  rfl
 | a::b::as,bs,_,h=>by
  show joinL s (a::(b::as++bs))=_
  rw [joinL_cons s a (by simp),joinL_app (by simp) h,joinL_cons s a (show b::as≠[] by simp)]
  simp [List.append_assoc]
theorem join_join {s:List Nat}:∀ {ls:List (List (List Nat))},(∀ l∈ls,l≠[])→joinL s (ls.map (joinL s))=joinL s ls.flatten
 | [],_=>rfl
 | [l],_=>by simp [joinL]
 | l::m::ls,h=>by
  have hm:(m::ls).flatten≠[]:=by
   have:=h m (by simp)
   rw [List.flatten_cons]
   intro z
   exact this (List.append_eq_nil_iff.mp z).1
  rw [List.map_cons,joinL_cons s _ (by simp),join_join (fun x hx=>h x (List.mem_cons_of_mem _ hx)),show (l::m::ls).flatten=l++(m::ls).flatten from List.flatten_cons,joinL_app (h l List.mem_cons_self) hm]
section
variable (K:PySem.W.Frag) (H:Hp)
def WRd (w:T) (r:V):Prop:=∃ a x ps,r=.ref a∧SqT K H a [x,.str (tx (joinL [32] ps))]∧TR K H w x∧Wr w ps
def TXd (ws:List T) (r:V):Prop:=∃ a x ps,r=.ref a∧SqT K H a [x,.str (tx (joinL [32] ps))]∧TR K H (.node ws) x∧Ts ws ps
end
theorem WRd.mono {K:PySem.W.Frag}{H H':Hp}{w:T}{r:V} (k:Kt H H') (h:WRd K H w r):WRd K H' w r:=by
 obtain⟨a,x,ps,rfl,h1,h2,h3⟩:=h
 exact⟨a,x,ps,rfl,sqT_mono k h1,h2.mono k,h3⟩
theorem wr_leaves (n:Nat):(leavesT n).wr=40::((List.replicate n [40,41]).flatten++[41]):=by
 show 40::(T.wrL (List.replicate n (.node []))++[41])=_
 have:∀ n:Nat,T.wrL (List.replicate n (.node []))=(List.replicate n [40,41]).flatten:=by
  intro n
  induction n with
  | zero=>rfl
  | succ n ih=>rw [List.replicate_succ,List.replicate_succ,List.flatten_cons,← ih]; rfl
 rw [this]
def spTextX (K:PySem.W.Frag):Sp:=fun vs H Q _=>∃ (l:Addr) (xs:List V) (ws:List T),vs=[.ref l]∧SqL K H l xs∧All2 (WRd K H) ws xs∧T.partsL ws≤80000∧∀ r H',Same H H'→TXd K H' ws r→Q r H'
end Sw
namespace Sw
open PySem PySem.Spec PyProof.Rows L2
theorem pieces_all:∀ {ws:List T}{zs:List V},All2 (fun (w:T) (z:V)=>∃ ps,z=.str (tx (joinL [32] ps))∧Wr w ps) ws zs→∃ pss:List (List (List Nat)),zs=(pss.map (joinL [32])).map (fun c=>V.str (tx c))∧(∀ l∈pss,l≠[])∧Ts ws pss.flatten
 | [],_,h=>by cases h; exact⟨[],rfl,fun _ z=>by simp at z,.nil⟩
 | w::ws,_,h=>by
  cases h with
  | cons h1 h2 =>
  obtain⟨p,rfl,g⟩:=h1
  obtain⟨pss,rfl,h3,h4⟩:=pieces_all h2
  refine⟨p::pss,rfl,fun l hl=>?_,.cons g h4⟩
  rcases List.mem_cons.mp hl with rfl | hl
  ·exact wr_ne g
  ·exact h3 l hl
theorem join_sz:∀ pss:List (List (List Nat)),(∀ l∈pss,l≠[])→(pss.map (joinL [32])).flatten.length+pss.length≤2 * szP pss.flatten
 | [],_=>Nat.zero_le _
 | p::pss,h=>by
  have ih:=join_sz pss fun l hl=>h l (List.mem_cons_of_mem _ hl)
  have h1:=joinL_len [32] p
  have h2:1≤p.length:=List.length_pos_iff.mpr (h p List.mem_cons_self)
  rw [List.map_cons,List.flatten_cons,List.length_append,List.length_cons,List.flatten_cons,szP_append]
  simp only [List.length_singleton,Nat.mul_one] at h1
  have h3:szP p=p.flatten.length+p.length:=rfl
  lia
end Sw
namespace Sw
open PySem PySem.Spec PyProof.Rows L2
theorem wr_plain {k:Nat} (h1:1≤k) (h6:k≤6):Wr (wordT k []) [nmC k]:=by
 have:k=1∨k=2∨k=3∨k=4∨k=5∨k=6:=by lia
 rcases this with rfl | rfl | rfl | rfl | rfl | rfl
 ·exact Wr.plain (w:=wordT 1 []) (by decide +kernel) (by decide) (by decide)
 ·exact Wr.plain (w:=wordT 2 []) (by decide +kernel) (by decide) (by decide)
 ·exact Wr.plain (w:=wordT 3 []) (by decide +kernel) (by decide) (by decide)
 ·exact Wr.plain (w:=wordT 4 []) (by decide +kernel) (by decide) (by decide)
 ·exact Wr.plain (w:=wordT 5 []) (by decide +kernel) (by decide) (by decide)
 ·exact Wr.plain (w:=wordT 6 []) (by decide +kernel) (by decide) (by decide)
theorem six_tx:[V.str (Str.ofString "drop"),.str (Str.ofString "twin"),.str (Str.ofString "swap"),.str (Str.ofString "front"),.str (Str.ofString "part"),.str (Str.ofString "turn")]=sixV:=by
 rw [show Str.ofString "drop"=tx [100,114,111,112] by decide +kernel,show Str.ofString "twin"=tx [116,119,105,110] by decide +kernel,
  show Str.ofString "swap"=tx [115,119,97,112] by decide +kernel,show Str.ofString "front"=tx [102,114,111,110,116] by decide +kernel,show Str.ofString "part"=tx [112,97,114,116] by decide +kernel,
  show Str.ofString "turn"=tx [116,117,114,110] by decide +kernel]
 rfl
theorem six_at {k:Nat} (h1:1≤k) (h6:k≤6):atI sixV ((k:Int) - 1)=some (.str (tx (nmC k))):=by
 have:k=1∨k=2∨k=3∨k=4∨k=5∨k=6:=by lia
 rcases this with rfl | rfl | rfl | rfl | rfl | rfl
 ·exact atI_nat (j:=0) rfl
 ·exact atI_nat (j:=1) rfl
 ·exact atI_nat (j:=2) rfl
 ·exact atI_nat (j:=3) rfl
 ·exact atI_nat (j:=4) rfl
 ·exact atI_nat (j:=5) rfl
end Sw
namespace Sw
open PySem PySem.Spec PyProof.Rows L2
theorem beq_no {t:T} (h:t≠leaf):T.beq t leaf=false:=Bool.eq_false_iff.mpr fun z=>h ((T.beq_iff _ _).mp z)
theorem odd_loop (ws:List T):oddT (loopW ws)=false:=by
 have h1:headOdd (loopW ws)=false:=by
  unfold headOdd
  rw [beq_no (by intro z; cases z)]
  show (false || (List.replicate 8 (T.node [])).any fun t=>!T.beq t leaf)=false
  decide +kernel
 unfold oddT
 rw [if_neg (by rw [h1]; decide),if_pos (.inr rfl)]
theorem odd_fork (y n:List T):oddT (forkW y n)=false:=by
 have h1:headOdd (forkW y n)=false:=by
  unfold headOdd
  rw [beq_no (by intro z; cases z)]
  show (false || (List.replicate 7 (T.node [])).any fun t=>!T.beq t leaf)=false
  decide +kernel
 unfold oddT
 rw [if_neg (by rw [h1]; decide),if_neg (by show ¬ (7=0∨7=8); lia),if_pos (show sortT (forkW y n)=7 from rfl)]
 exact beq_no (by intro z; cases z)
theorem wr_loopW {ws:List T}{ps:List (List Nat)} (h:Ts ws ps):Wr (loopW ws) ([nmC 8,[91]]++ps++[[93]]):=Wr.loop (odd_loop ws) rfl h
theorem wr_forkW {y n:List T}{ps qs:List (List Nat)} (h:Ts y ps) (g:Ts n qs):Wr (forkW y n) ([nmC 7,[91]]++ps++[[124]]++qs++[[93]]):=Wr.fork (odd_fork y n) rfl h g
theorem ts_one {w:T}{ps:List (List Nat)} (h:Wr w ps):Ts [w] ps:=by have:=Ts.cons h .nil; rw [List.append_nil] at this; exact this
end Sw
namespace Sw
open PySem PySem.Spec PyProof.Rows L2
theorem compTurn_if1 (elt target iter cnd:Expr) (scope:Scope) (pos:Pos) (it acc:Value) (env:Env) :
  compTurn (.ListComp elt [⟨target,iter,[cnd],0⟩] scope pos) 0 it acc env=(standAt iter.pos >>= fun _=>pyNext it >>= fun r=>match r with
   | none=>pure (.done .next)
   | some v=>letOwnedTupleGo target it v >>= fun _=>assign target env v >>= fun _=>isTrue cnd env (eval cnd env) >>= fun b =>
    (match b with | true=>(eval elt env >>= fun x=>call (.builtin "list.append") [acc,x] >>= fun _=>pure ()) | false=>pure ()) >>= fun _ =>
     again (.compLoop (.ListComp elt [⟨target,iter,[cnd],0⟩] scope pos) 0 it acc env)):=by
 rw [compTurn_list]
 refine congrArg (fun g=>standAt iter.pos >>= g) (funext fun _=>?_)
 refine congrArg (fun g=>pyNext it >>= g) (funext fun r=>?_)
 cases r with
 | none=>rfl
 | some v =>
  refine congrArg (fun g=>letOwnedTupleGo target it v >>= g) (funext fun _=>?_)
  refine congrArg (fun g=>assign target env v >>= g) (funext fun _=>?_)
  simp only [List.forIn_cons,List.forIn_nil,if_true,bind_assoc,pure_bind]
  refine congrArg (fun g=>isTrue cnd env (eval cnd env) >>= g) (funext fun b=>?_)
  cases b <;> simp
def LcRunIf (J:It) (js:List Nat) (tc:TT) (te:TE) (σ:Sg) (Q:VK) (H1:Hp):Prop:=∀ D,H1 D=none →
 ∃ W:Nat→Nat→List V→Hp→Prop,(∃ m,W 0 m [] (upd H1 D (.lst [])))∧∀ i m ys H',W i m ys H'→H' D=some (.lst ys) ∧
  ((J.stop i H'∧Q (.ref D) H')∨(J.go i H'∧∀ x H2,J.yld i H' x H2→tc (some x::frv σ js) H2 fun b H2'=>(b=true→te (some x::frv σ js) H2' fun y H3=>H3 D=some (.lst ys)∧ys.length<sizeLine ∧
   ∃ m',m'<m∧W (i+1) m' (ys++[y]) (upd H3 D (.lst (ys++[y]))))∧(b=false→∃ m',m'<m∧W (i+1) m' ys H2')))
def tLCIf (wi:TI) (js:List Nat) (tc:TT) (te:TE):TE:=fun σ H Q=>wi σ H fun J H1=>LcRunIf J js tc te σ Q H1
section
variable {X:Cx}{scope:Scope}{cl:List (Str×Addr)}{x:Str}{fr:List Str}{js:List Nat}{elt iter cnd:Expr}{px pos:Pos}{wi:TI}{te:TE}{tc:TT}
theorem lc_loopIf {prog:Program}{w:World}{A:Around}{R:Result→Shared→Prop}{s:Shared}{tg:Expr}{it acc:Value}{env:Env} (Iv:Nat→Shared→Prop)
  (turn:∀ n s,Iv n s→wpAny (model prog w) A (pyNext it) (fun r s1=>match r with
   | none=>R (.ok .next) s1
   | some v=>wpAny (model prog w) A (letOwnedTupleGo tg it v) (fun _ s2=>wpAny (model prog w) A (assign tg env v) (fun _ s3=>wpAny (model prog w) A (isTrue cnd env (eval cnd env)) (fun b s3'=>match b with
     | false=>∃ m,m<n∧Iv m s3'
     | true=>wpAny (model prog w) A (eval elt env) (fun y s4 =>
     wpAny (model prog w) A (call (.builtin "list.append") [acc,y]) (fun _ s5=>∃ m,m<n∧Iv m s5) (fun _ _=>False) s4) (fun _ _=>False) s3') (fun _ _=>False) s3) (fun _ _=>False) s2) (fun _ _=>False) s1) (fun _ _=>False) s)
  (n:Nat) (h:Iv n s):codeAny (model prog w) A (.compLoop (.ListComp elt [⟨tg,iter,[cnd],0⟩] scope pos) 0 it acc env) R s:=by
 refine codeAny_loop rfl Iv (fun n s hI=>?_) n h
 refine wpAny_noted ?_
 rw [compTurn_if1]
 refine wpAny_bind (wpAny_standAt (wpAny_bind (wpAny_mono (turn n s hI) (fun r s1 h1=>?_) fun _ _ z=>z.elim)))
 cases r with
 | none=>exact wpAny_pure h1
 | some v =>
  refine wpAny_bind (wpAny_mono h1 (fun _ s2 h2=>?_) fun _ _ z=>z.elim)
  refine wpAny_bind (wpAny_mono h2 (fun _ s3 h3=>?_) fun _ _ z=>z.elim)
  refine wpAny_bind (wpAny_mono h3 (fun b s3' h3'=>?_) fun _ _ z=>z.elim)
  cases b with
  | false=>exact wpAny_bind (wpAny_pure (wpAny_pure ⟨rfl,h3'⟩))
  | true =>
   refine wpAny_bind (wpAny_bind (wpAny_mono h3' (fun y s4 h4=>?_) fun _ _ z=>z.elim))
   refine wpAny_bind (wpAny_mono h4 (fun _ s5 h5=>?_) fun _ _ z=>z.elim)
   exact wpAny_pure (wpAny_pure ⟨rfl,h5⟩)
theorem pe_lcIf (hc:X.calm=true) (L:LcOk X scope x fr js cl) (hi:PI X (.Name x px) iter wi)
  (he:∀ C s H fp pins,PE (blk X scope cl C (x::fr) s H fp pins) elt te)
  (ht:∀ C s H fp pins,PT (blk X scope cl C (x::fr) s H fp pins) cnd tc)
  (hs:∀ v,foldedSetIterable iter X.env v=pure v:=by intro _; rfl) :
  PE X (.ListComp elt [⟨.Name x px,iter,[cnd],0⟩] scope pos) (tLCIf wi js tc te):=by
 intro pins s σ H Q I h
 rw [eval_ListComp]
 refine wpAny_comprehension_free (use:=none) rfl hs L.clos L.kind L.loc (thn (hi pins s σ H _ I h) fun v s1 h1=>thn h1 fun itv s2 h2=>?_)
 obtain⟨it,fp,tn,J,H2,e,I2,T,st2,f2,rd⟩:=h2
 subst e
 obtain⟨W,⟨m0,w0⟩,turn⟩:=rd _ I2.fresh
 have I3:=I2.lnew (ys:=[]) (its:=[]) (t':=s2.toks) .nil (Nat.zero_le _)
 refine wpAny_newObj_type ?_
 have fsz2:∀ b∈fp,b<s2.heap.objs.size:=fun b hb=>by
  obtain⟨o,ho,_⟩:=T.obj 0 _ st2 b hb
  exact Heap.lt_size ho
 generalize hs3:({ s2 with heap:=s2.heap.push { cls:=.type "list",dict:=none,data:=.seq ([]:List Value).toArray } }:Shared)=s3
 have I3':Inv X pins σ (upd H2 s2.heap.objs.size (.lst [])) s3:=by rw [← hs3]; exact I3
 have sz3:s3.heap.objs.size=s2.heap.objs.size+1:=by rw [← hs3]; exact Heap.size_push ..
 have k23:∀ b o,s2.heap.get? b=some o→s3.heap.get? b=some o:=fun b o e=>by rw [← hs3]; exact Heap.get?_push_of_some _ e
 have fsz:∀ b∈fp,b<s3.heap.objs.size:=fun b hb=>by rw [sz3]; exact Nat.lt_succ_of_lt (fsz2 b hb)
 have f3:∀ b∈fp,FpOk X pins (upd H2 s2.heap.objs.size (.lst [])) b:=fun b hb=>⟨by rw [upd_ne (Nat.ne_of_lt (fsz2 b hb))]; exact (f2 b hb).1,(f2 b hb).2⟩
 refine wpAny_newFunctionEnv L.cell (by intro y hy; simp at hy) (fun h4 hn4 hsb4=>?_) L.kind
 have k34:∀ b o,s3.heap.get? b=some o→h4.get? b=some o:=fun b o e=>(hsb4.2 b (Nat.ne_of_lt (Heap.lt_size e))).trans (Heap.get?_push_of_some _ e)
 generalize hX':blk X scope cl s3.heap.objs.size (x::fr) s3 (upd H2 s2.heap.objs.size (.lst [])) fp pins=X'
 have I4:Inv X' [] (none::frv σ js) (upd H2 s2.heap.objs.size (.lst [])) { s3 with heap:=h4,toks:=s3.toks+([]:List (Str×Value)).length }:=by
  rw [← hX']; exact blk_inv I3' L hc f3 fsz hn4 k34
 have st4:tn 0 h4:=T.keep _ _ _ st2 fun b _ o e=>k34 b o (k23 b o e)
 have he':PE X' elt te:=by rw [← hX']; exact he _ _ _ _ _
 have ht':PT X' cnd tc:=by rw [← hX']; exact ht _ _ _ _ _
 have xp:X'.prog=X.prog:=by rw [← hX']; rfl
 have xw:X'.w=X.w:=by rw [← hX']; rfl
 have xK:X'.K=X.K:=by rw [← hX']; rfl
 have xA:X'.A=X.A:=by rw [← hX']; rfl
 have xc:X'.calm=true:=by rw [← hX']; rfl
 have xe:X'.xe=fun _ _=>False:=by rw [← hX']; rfl
 have xn:X'.N=x::fr:=by rw [← hX']; rfl
 have xv:X'.env=compEnvC scope cl s3.heap.objs.size X.env:=by rw [← hX']; rfl
 have xpn:X'.pn=X.pn++pins:=by rw [← hX']; rfl
 have xex:X'.ex=fp:=by rw [← hX']; rfl
 have xfs:X'.fs=frs X.stack:=by rw [← hX']; rfl
 have back:∀ {H':Hp}{s':Shared}{h':Heap}{σ':Sg},Inv X' [] σ' H' s'→Heap.SameBut s3.heap.objs.size s'.heap h'→Inv X pins σ H' { s' with heap:=h' }:=fun {H' s' h' σ'} J' hsb=>by
  rw [← hX'] at J'; exact blk_back I3' J' f3 hsb
 have frame:∀ b∈fp,b ∉ frs X.stack:=fun b hb z=>by
  rcases List.mem_cons.mp (I3'.stkSub b z) with e | e
  ·exact (f3 b hb).2.1 e
  ·exact (f3 b hb).2.2.1 e
 have stat:∀ {H':Hp},(∀ b∈fp,H' b=none)→∀ b∈fp,FpOk X' [] H' b:=fun {H'} hn b hb=>by
  refine⟨hn b hb,?_,?_,.inl (by rw [xex]; exact hb),?_,?_⟩
  ·rw [xv]; exact Nat.ne_of_lt (fsz b hb)
  ·rw [xfs]; exact frame b hb
  ·rw [xv]; exact fun y c e=>(f3 b hb).2.2.2.2.1 y c (L.sub y c e)
  ·rw [xpn,List.append_nil]; exact (f3 b hb).2.2.2.2.2
 have loop:codeAny (model X.prog X.w) X.A (.compLoop (.ListComp elt [⟨.Name x px,iter,[cnd],0⟩] scope pos) 0 (.ref it) (.ref s2.heap.objs.size) (compEnvC scope cl s3.heap.objs.size X.env))
   (compPost (model X.prog X.w) X.A X.xe none (EP X pins σ Q) (.ref s2.heap.objs.size) s3.heap.objs.size) { s3 with heap:=h4,toks:=s3.toks+([]:List (Str×Value)).length }:=by
  refine lc_loopIf (fun n s'=>∃ i ys o H',Inv X' [] (o::frv σ js) H' s'∧tn i s'.heap∧(∀ b∈fp,H' b=none)∧W i n ys H') ?_ m0 ⟨0,[],none,_,I4,st4,fun b hb=>(f3 b hb).1,w0⟩
  rintro n s5 ⟨i,ys,o,H5,I5,st5,fr5,w5⟩
  obtain⟨hD,hstep⟩:=turn i n ys H5 w5
  rcases hstep with⟨stop,qn⟩ | ⟨go,step⟩
  ·have q:=T.done X' xp xw xK xc i [] s5 _ H5 (fun _ _=>False) I5 (stat fr5) st5 stop
   rw [xA] at q
   refine thn q fun r s6 ⟨hr,I6⟩=>?_
   subst hr
   obtain⟨m6,hn6,_⟩:=I6.loc
   rw [xv] at hn6
   exact⟨m6,hn6,fun h' hsb=>⟨.ref s2.heap.objs.size,H5,back I6 hsb,rfl,qn⟩⟩
  ·have q:=T.item X' xp xw xK xc i [] s5 _ H5 (fun _ _=>False) I5 (stat fr5) st5 go
   rw [xA] at q
   refine thn q fun r s6 ⟨u,hr,h6⟩=>?_
   subst hr
   refine thn h6 fun _ s7 ⟨xx,H7,I7,r7,y7,st7,fr7⟩=>?_
   have I7':=I7.pinned (stat fr7) (T.obj _ _ st7)
   have hg:PG X' (.Name x px) (gName 0):=by
    refine pg_name (i:=0) (x:=x) (by rw [xn]; exact L.nd) (by rw [xn]; rfl) ?_ ?_
    ·rw [xv]; exact .inl (lookup_relabel_local L.var)
    ·rw [xv]; exact .inr (lookup_relabel_local L.var)
   have q7:=hg _ s7 _ H7 xx u (fun σ8 H8=>σ8=some xx::frv σ js∧H8=H7) I7' r7 ⟨rfl,rfl⟩
   rw [xp,xw,xA,xe,xv] at q7
   refine thn q7 fun _ s8 ⟨σ8,H8,I8,e8,e8'⟩=>?_
   subst e8 e8'
   have qt:=ht' _ s8 _ _ _ I8 (step xx _ y7)
   rw [xp,xw,xA,xe,xv] at qt
   refine thn qt fun b s8' ⟨H8',I8',qb⟩=>?_
   cases b with
   | false =>
    have qb:=qb.2 rfl
    obtain⟨m9,hm9,w9⟩:=qb
    refine⟨m9,hm9,i+1,ys,some xx,_,I8'.unpinned,T.keep _ _ _ st7 fun b hb ob e=>(I8'.pin (b,ob) (List.mem_append_right _ (List.mem_append_right _ (mem_pinsAt hb e)))).1,fun b hb=>?_,w9⟩
    obtain⟨ob,e,_⟩:=T.obj _ _ st7 b hb
    exact (I8'.pin (b,ob) (List.mem_append_right _ (List.mem_append_right _ (mem_pinsAt hb e)))).2.1
   | true =>
   have q8:=he' _ s8' _ _ _ I8' (qb.1 rfl)
   rw [xp,xw,xA,xe,xv] at q8
   refine thn q8 fun yv s9 ⟨y,H9,I9,r9,d9,z9,m9,hm9,w9⟩=>?_
   have q9:=mt_append (X:=X') _ s9 _ H9 (.ref s2.heap.objs.size) [y] (.ref s2.heap.objs.size) [yv] (fun z H'=>H'=upd H9 s2.heap.objs.size (.lst (ys++[y]))) I9 rfl (.cons r9 .nil) ⟨_,ys,y,rfl,rfl,d9,z9,rfl⟩
   rw [xp,xw,xA,xe] at q9
   refine thn q9 fun _ s10 ⟨_,H10,I10,_,e10⟩=>?_
   subst e10
   refine⟨m9,hm9,i+1,ys++[y],some xx,_,I10.unpinned,T.keep _ _ _ st7 fun b hb ob e=>(I10.pin (b,ob) (List.mem_append_right _ (List.mem_append_right _ (mem_pinsAt hb e)))).1,fun b hb=>?_,w9⟩
   obtain⟨ob,e,_⟩:=T.obj _ _ st7 b hb
   exact (I10.pin (b,ob) (List.mem_append_right _ (List.mem_append_right _ (mem_pinsAt hb e)))).2.1
 exact codeAny_compStart_list loop (T.self _ 0 _ _ _ st4 loop)
end
end Sw
namespace Sw
open PySem PySem.Spec PyProof.Rows L2
theorem qe_lcIf {X:Cx}{scope:Scope}{cl:List (Str×Addr)}{x:Str}{fr:List Str}{js:List Nat}{elt iter cnd:Expr}{px pos:Pos}{wi:TI}{te:TE}{tc:TT} (hc:X.calm=true) (L:LcOk X scope x fr js cl) (hi:QI X (.Name x px) iter wi)
  (he:∀ C s H fp pins,QE (blk X scope cl C (x::fr) s H fp pins) elt te) (ht:∀ C s H fp pins,QT (blk X scope cl C (x::fr) s H fp pins) cnd tc)
  (hs:∀ v,foldedSetIterable iter X.env v=pure v:=by intro _; rfl):QE X (.ListComp elt [⟨.Name x px,iter,[cnd],0⟩] scope pos) (tLCIf wi js tc te) :=
 ⟨pe_lcIf hc L hi.run (fun C s H fp pins=>(he C s H fp pins).run) (fun C s H fp pins=>(ht C s H fp pins).run) hs⟩
theorem lc_filter {K:PySem.W.Frag}{H:Hp}{a:Addr}{xs:List V}{σ:Sg}{js:List Nat}{te:TE}{tc:TT}{Q:VK} (f:V→Bool) (ha:H a=some (.lst xs)) (hz:xs.length≤sizeLine)
  (htc:∀ x H' (R:Bool→Hp→Prop),x∈xs→R (f x) H'→tc (some x::frv σ js) H' R)
  (hte:∀ x H' (R:VK),R x H'→te (some x::frv σ js) H' R)
  (q:∀ D,H D=none→Q (.ref D) (upd H D (.lst (xs.filter f)))):LcRunIf (Itl K a) js tc te σ Q H:=by
 intro D hD
 have hne:a≠D:=ne_of_none ha hD
 refine⟨fun i m ys H'=>m=xs.length - i∧i≤xs.length∧ys=(xs.take i).filter f∧H'=upd H D (.lst ys),⟨xs.length,by lia,Nat.zero_le _,rfl,rfl⟩,?_⟩
 rintro i m ys H' ⟨rfl,hi,hys,rfl⟩
 have h3:SqL K (upd H D (.lst ys)) a xs:=SqL.of (by rw [upd_ne hne]; exact ha)
 have hyl:ys.length≤i:=by
  rw [hys]
  refine Nat.le_trans (List.length_filter_le _ _) ?_
  rw [List.length_take]
  lia
 refine⟨upd_same,?_⟩
 by_cases hlt:i<xs.length
 ·refine .inr ⟨⟨xs,xs[i],h3,List.getElem?_eq_getElem hlt⟩,fun x H2 y=>?_⟩
  obtain⟨e,y⟩:=y
  subst e
  have hx:=y xs h3
  have et:xs.take (i+1)=xs.take i++[x]:=by rw [List.take_add_one,hx]; rfl
  refine htc x _ _ (List.mem_of_getElem? hx) ⟨fun hb=>hte x _ _ ⟨upd_same,by lia,xs.length - (i+1),by lia,rfl,hlt,?_,?_⟩,fun hb=>⟨xs.length - (i+1),by lia,rfl,hlt,?_,rfl⟩⟩
  ·rw [et,List.filter_append,← hys,List.filter_cons,if_pos hb]
   rfl
  ·funext b
   by_cases hb':b=D
   ·rw [hb',upd_same,upd_same]
   ·rw [upd_ne hb',upd_ne hb',upd_ne hb']
  ·rw [et,List.filter_append,← hys,List.filter_cons,if_neg (by rw [hb]; decide)]
   simp
 ·have e:i=xs.length:=by lia
  subst e
  refine .inl ⟨⟨xs,h3,Nat.le_refl _⟩,?_⟩
  rw [hys,List.take_length]
  exact q D hD
def spBetween (K:PySem.W.Frag):Sp:=fun vs H Q _=>∃ (l:Addr) (cs:List (List Nat)),vs=[.ref l]∧H l=some (.lst (cs.map fun c=>V.str (tx c)))∧cs.length≤1000∧cs.flatten.length≤8000000∧∀ H',Same H H'→Q (.str (tx (joinL [32] (cs.filter fun c=>decide (c≠[]))))) H'
end Sw
namespace Sw
open PySem PySem.Spec PyProof.Rows L2
theorem joinL_nil_iff {l:List (List Nat)} (h:∀ p∈l,p≠[]):joinL [32] l=[]↔l=[]:=⟨join_nil h,fun z=>by rw [z]; rfl⟩
theorem between_all {pss:List (List (List Nat))} (h:∀ l∈pss,∀ p∈l,p≠[]):joinL [32] ((pss.map (joinL [32])).filter fun c=>decide (c≠[]))=joinL [32] pss.flatten:=by
 have e1:(pss.map (joinL [32])).filter (fun c=>decide (c≠[]))=(pss.filter fun l=>decide (l≠[])).map (joinL [32]):=by
  rw [List.filter_map]
  congr 1
  refine List.filter_congr fun l hl=>?_
  show decide (joinL [32] l≠[])=decide (l≠[])
  by_cases z:l=[]
  ·rw [z]; rfl
  ·rw [decide_eq_true z]
   exact decide_eq_true (p:=joinL [32] l≠[]) fun y=>z ((joinL_nil_iff (h l hl)).mp y)
 have e2:∀ ls:List (List (List Nat)),(ls.filter fun l=>decide (l≠[])).flatten=ls.flatten:=by
  intro ls
  induction ls with
  | nil=>rfl
  | cons l ls ih =>
   rw [List.filter_cons]
   split
   ·rw [List.flatten_cons,List.flatten_cons,ih]
   ·rename_i hz
    have:l=[]:=by
     cases l with
     | nil=>rfl
     | cons a b=>exact absurd (decide_eq_true (p:=a::b≠[]) (by simp)) hz
    rw [this,List.flatten_cons,ih]
    rfl
 rw [e1,join_join (fun l hl=>of_decide_eq_true (List.mem_filter.mp hl).2),e2]
theorem tx_whileB:Str.ofString "while ["=tx (joinL [32] [nmC 8,[91]]):=by decide +kernel
theorem tx_forkB:Str.ofString "fork ["=tx (joinL [32] [nmC 7,[91]]):=by decide +kernel
end Sw
namespace Sw
open PySem PySem.Spec PyProof.Rows L2
theorem all_pick {R:T→V→Prop}{ts:List T}{xs:List V} (h:All2 R ts xs) {i:Int} (h0:0≤i) (h1:i<(xs.length:Int)):∃ x t,atI xs i=some x∧R t x∧t∈ts:=by
 have hk:i.toNat<xs.length:=by lia
 have e:xs[i.toNat]?=some xs[i.toNat]:=List.getElem?_eq_getElem hk
 obtain⟨t,et,ht⟩:=h.get e
 have:=atI_nat e
 rw [show ((i.toNat:Nat):Int)=i by lia] at this
 exact⟨_,t,this,ht,List.mem_of_getElem? et⟩
theorem wr_lay (t:T):Wr (wordT 0 t.kids) [39::t.wr]:=by
 have e:loadT (wordT 0 t.kids)=t:=by cases t; rfl
 have h1:headOdd (wordT 0 t.kids)=false:=by
  unfold headOdd
  rw [beq_no (by intro z; cases z)]
  rfl
 have ho:oddT (wordT 0 t.kids)=false:=by unfold oddT; rw [if_neg (by rw [h1]; decide),if_pos (.inl rfl)]
 have:=Wr.lay ho rfl
 rw [e] at this
 exact this
end Sw
namespace Sw
open PySem PySem.Spec PyProof.Rows L2
theorem ifAny {tc:TT}{tb u:TS}{D:Ends}{σ:L2.St}{H:Hp} (P:L2.St→Hp→Prop) (k:∀ σ' H',P σ' H'→u D σ' H')
  (h:∀ A B:Hp→Prop,(∀ H1,(∀ N:L2.St→Hp→Prop,(∀ σ' H',P σ' H'→N σ' H')→tb { D with nx:=N } σ H1)→A H1)→(∀ H1,P σ H1→B H1)→tc σ H (fun b H1=>if b=true then A H1 else B H1)) :
  tSeq (tIfS tc tb tNext) u D σ H :=
 h (fun H1=>tb { D with nx:=u D } σ H1) (fun H1=>tNext { D with nx:=u D } σ H1) (fun H1 r=>r _ k) (fun H1 p=>k _ _ p)
theorem odd_leaf:oddT (.node [])=true:=by decide +kernel
theorem head_leaves (n:Nat) (us:List T):headOdd (.node (leavesT n::us))=false:=by
 unfold headOdd
 rw [beq_no (by intro z; cases z)]
 show (false || (List.replicate n (T.node [])).any fun t=>!T.beq t leaf)=false
 rw [Bool.false_or,List.any_eq_false]
 intro t ht
 rw [List.eq_of_mem_replicate ht,show T.beq (.node []) leaf=true from T.beq_self _]
 decide
theorem sort_leaves (n:Nat) (us:List T):sortT (.node (leavesT n::us))=min 9 n:=by
 show min 9 (List.replicate n (T.node [])).length=_
 rw [List.length_replicate]
theorem odd_nine {n:Nat} (h:9≤n) (us:List T):oddT (.node (leavesT n::us))=true:=by
 have hs:sortT (.node (leavesT n::us))=9:=by rw [sort_leaves]; lia
 unfold oddT
 rw [if_neg (by rw [head_leaves]; decide),hs,if_neg (by lia),if_neg (by lia)]
 rfl
theorem odd_load {n:Nat} (h1:1≤n) (h6:n≤6) (u:T) (us:List T):oddT (.node (leavesT n::u::us))=true:=by
 have hs:sortT (.node (leavesT n::u::us))=n:=by rw [sort_leaves]; lia
 unfold oddT
 rw [if_neg (by rw [head_leaves]; decide),hs,if_neg (by lia),if_neg (by lia),beq_no (by intro z; cases z)]
 simp
theorem odd_seven:oddT (.node [leavesT 7])=true:=by decide +kernel
theorem odd_in {ts:List T}{t:T} (h:t∈ts) (hn:t≠leaf) (us:List T):oddT (.node (.node ts::us))=true:=by
 have:headOdd (.node (.node ts::us))=true:=by
  unfold headOdd
  rw [Bool.or_eq_true]
  refine .inr ?_
  show (ts.any fun t=>!T.beq t leaf)=true
  rw [List.any_eq_true]
  exact⟨t,h,by rw [beq_no hn]; rfl⟩
 unfold oddT
 rw [if_pos this]
end Sw
namespace Sw
theorem all2_rep {α β:Type}{R:α→β→Prop}{a:α}{b:β} (h:R a b):∀ n:Nat,All2 R (List.replicate n a) (List.replicate n b)
 | 0=>.nil
 | n+1=>.cons h (all2_rep h n)
end Sw
namespace Sw
open PySem PySem.Spec PyProof.Rows L2
def IteL (K:PySem.W.Frag) (a:Addr):It :=
 ⟨fun i H=>∃ xs x,SqL K H a xs∧xs[i]?=some x,fun i H v H'=>∃ p,v=.ref p∧H p=none∧∀ xs,SqL K H a xs→∃ x,xs[i]?=some x∧H'=upd H p (.tup [.int i,x]),fun i H=>∃ xs,SqL K H a xs∧xs.length≤i⟩
theorem turn_enumL {P:Program}{w:World}{K:PySem.W.Frag}{elts:List Expr}{x1:Nat}{tp:Pos} (a e it:Addr) (hei:e≠it) :
  Turn P w K (.Tuple elts x1 tp) (IteL K a) [e,it] e (fun i h=>(∃ old,IsEnum h e it i old)∧h.IsListIter it a i) where
 mem:=by simp
 obj:=fun i h st b hb=>by
  obtain⟨⟨old,he⟩,o,ho,c,d⟩:=st
  rcases List.mem_cons.mp hb with q | q
  ·rw [q]
   exact⟨_,he,fun v z=>by cases z⟩
  ·rw [List.mem_singleton.mp q]
   exact⟨o,ho,fun v z=>by rw [d] at z; cases z⟩
 keep:=fun i h h' st k=>by
  obtain⟨⟨old,he⟩,o,ho,r⟩:=st
  exact⟨⟨old,k e (by simp) _ he⟩,o,k it (by simp) o ho,r⟩
 item:=by
  intro X hP hw hK hc i pins s σ H E I hf st hg
  subst hP hw hK
  obtain⟨⟨old,he⟩,hs⟩:=st
  obtain⟨xs,x,hq,hx⟩:=hg
  obtain⟨its,rv,p,hz⟩:=I.list hq
  obtain⟨u,hu,ru⟩:=rv.get hx
  have fe:=hf e (by simp)
  have fi:=hf it (by simp)
  refine wpAny_pyNext_enum_item he hs p.isList (x:=u) (by simpa using hu) hei fun h' ho hs' hT hsz hk=>⟨_,rfl,?_⟩
  refine wpAny_letOwnedTupleGo_enum ho fun h2 he2 sb2=>?_
  have elt:e<s.heap.objs.size:=Heap.lt_size he
  have T2:h2.get? s.heap.objs.size=some { cls:=.type "tuple",data:=.seq #[.int i s.toks,u] }:=(sb2.2 _ (Nat.ne_of_gt elt)).trans hT
  have hn:H s.heap.objs.size=none:=I.hok.fresh (Nat.le_refl _)
  refine⟨.ref s.heap.objs.size,upd H s.heap.objs.size (.tup [.int i,x]),two_inv (s:=s) (xs:=[.int i,x]) (h2:=h2) (tk:=s.toks+1) I fe fi (fun b o h1 h2' q=>(sb2.2 b h1).trans (hk b o h1 h2' q)) ?_,rfl,⟨_,rfl,hn,fun ys hy=>⟨x,by rw [I.list_inj hy hq]; exact hx,rfl⟩⟩,⟨⟨_,by simpa using he2⟩,?_⟩,fun b hb=>?_⟩
  ·exact⟨(by show 2≤sizeLine; decide),[.int i s.toks,u],.cons ⟨s.toks,rfl⟩ (.cons ru .nil),⟨_,T2,rfl,_,rfl⟩⟩
  ·obtain⟨o,q1,q2⟩:=hs'
   exact⟨o,(sb2.2 it (Ne.symm hei)).trans q1,q2⟩
  ·rcases List.mem_cons.mp hb with q | q
   ·rw [q,upd_ne (Nat.ne_of_lt elt)]; exact fe.1
   ·obtain⟨o,q1,_⟩:=hs
    rw [List.mem_singleton.mp q,upd_ne (Nat.ne_of_lt (Heap.lt_size q1))]; exact fi.1
 done:=by
  intro X hP hw hK hc i pins s σ H E I hf st hg
  subst hP hw hK
  obtain⟨⟨old,he⟩,hs⟩:=st
  obtain⟨xs,hq,hx⟩:=hg
  obtain⟨its,rv,p,hz⟩:=I.list hq
  have fi:=hf it (by simp)
  have hl:=rv.length
  exact wpAny_pyNext_enum_end (I.ok.hd hc) he hs p.isList (by simp; lia) fun h' eb=>⟨rfl,I.turned (t':=s.toks) (fun b o hb q=>eb b o hb q) fi.1 fi.2.1 fi.2.2.2.1 fi.2.2.2.2.1 fi.2.2.2.2.2⟩
 self:=fun _ _ _ _ _ st h=>by
  obtain⟨⟨old,he⟩,_⟩:=st
  exact wpAny_pyIter_enum he h
def iEnumL (K:PySem.W.Frag) (ta:TE):TI:=fun σ H R=>ta σ H fun x H1=>∃ a,x=.ref a∧(∃ xs,SqL K H1 a xs)∧R (IteL K a) H1
theorem pi_enumL {X:Cx}{elts:List Expr}{x1:Nat}{tp p pos:Pos}{a:Expr}{ta:TE} (hg:Gl X "enumerate") (hm:X.mg "enumerate"=none) (ha:PE X a ta) (hs:starEach [a] X.env=[(false,eval a X.env)]:=by rfl) :
  PI X (.Tuple elts x1 tp) (.Call (.Name "enumerate" p) [a] [] pos) (iEnumL X.K ta):=by
 intro pins s σ H R I h
 refine wpAny_Call_Name_kw (ld_blt I hg hm bt_enumerate ?_)
 refine PyProof.Rows.callWith_type1 ?_ (by rw [hs]; rfl) (by rfl)
 rw [hs]
 refine Calls.spliced_cons (thn (ha pins s σ H _ I h) fun v s1 ⟨y,H1,I1,r1,q1⟩=>Calls.spliced_nil ?_)
 obtain⟨l,rfl,⟨xs,hq⟩,q⟩:=q1
 cases r1
 obtain⟨its,rv,p',hz'⟩:=I1.list hq
 refine call_enumerate_list p'.isList fun h' he hit hz hk=>wpAny_pyIter_enum he ?_
 have I2:Inv X pins σ H1 { s1 with heap:=h' }:=I1.kept (t':=s1.toks) hk
 refine⟨s1.heap.objs.size+1,[s1.heap.objs.size+1,s1.heap.objs.size],_,IteL X.K l,H1,rfl,I2,turn_enumL l _ _ (Nat.succ_ne_self _),⟨⟨_,he⟩,hit⟩,fun b hb=>?_,q⟩
 have hb':s1.heap.objs.size≤b:=by
  rcases List.mem_cons.mp hb with e | e
  ·rw [e]; exact Nat.le_succ _
  ·rw [List.mem_singleton.mp e]; exact Nat.le_refl _
 exact I1.fpOk hb' (I1.hok.fresh hb')
theorem qi_enumL {X:Cx}{elts:List Expr}{x1:Nat}{tp p pos:Pos}{a:Expr}{ta:TE} (hg:Gl X "enumerate") (hm:X.mg "enumerate"=none) (ha:QE X a ta) (hs:starEach [a] X.env=[(false,eval a X.env)]:=by rfl) :
  QI X (.Tuple elts x1 tp) (.Call (.Name "enumerate" p) [a] [] pos) (iEnumL X.K ta):=⟨pi_enumL hg hm ha.run hs⟩
theorem for_enumL {K:PySem.W.Frag}{a:Addr}{xs:List V}{g:TG}{tb:TS}{D:Ends}{σ:Sg}{H:Hp} (Pv:Nat→Sg→Hp→Prop) (h0:Pv 0 σ H) (hl:∀ i σ H,i≤xs.length→Pv i σ H→SqL K H a xs)
  (hs:∀ i x σ H p,xs[i]?=some x→Pv i σ H→H p=none→g (.ref p) σ (upd H p (.tup [.int i,x])) fun σ2 H2=>tb { D with nx:=Pv (i+1),ct:=Pv (i+1),bk:=D.nx } σ2 H2) (hd:∀ σ H,Pv xs.length σ H→D.nx σ H) :
  ∃ W:Nat→Nat→Sg→Hp→Prop,(∃ m,W 0 m σ H)∧∀ i m σ H,W i m σ H →
   ((IteL K a).stop i H∧D.nx σ H)∨((IteL K a).go i H∧∃ N:Sg→Hp→Prop,(∀ σ' H',N σ' H'→∃ m',m'<m∧W (i+1) m' σ' H')∧∀ x H',(IteL K a).yld i H x H'→g x σ H' fun σ2 H2=>tb { D with nx:=N,ct:=N,bk:=D.nx } σ2 H2):=by
 refine⟨fun i m σ H=>m=xs.length - i∧i≤xs.length∧Pv i σ H,⟨xs.length,by simp,Nat.zero_le _,h0⟩,?_⟩
 rintro i m σ H ⟨rfl,hi,p⟩
 have q:=hl i σ H hi p
 by_cases hlt:i<xs.length
 ·refine .inr ⟨⟨xs,xs[i],q,List.getElem?_eq_getElem hlt⟩,Pv (i+1),fun σ' H' p'=>⟨xs.length - (i+1),by lia,rfl,hlt,p'⟩,fun x H' y=>?_⟩
  obtain⟨r,rfl,hr,y⟩:=y
  obtain⟨z,hz,rfl⟩:=y xs q
  exact hs i z σ _ r hz p hr
 ·have e:i=xs.length:=by lia
  subst e
  exact .inl ⟨⟨xs,q,Nat.le_refl _⟩,hd σ H p⟩
end Sw
namespace Sw
open PySem PySem.Spec PyProof.Rows L2
section
variable {P:Program}{w:World}{K:PySem.W.Frag}{mg:Str→Option Value}{base:Heap}{N:List Str}{qual:Str}{scope:Scope}{f:Addr}{cd:Value}{A:Around}{outer:List Env}{s₀:Shared}{H₀:Hp}{E:XK}
theorem passX:Passes (CXE P w) (cxOf (CXE P w) P w K mg base N qual scope f cd A outer s₀ H₀ E) E:=by
 intro pins σ H s e s' I h
 obtain⟨a,C,H',B,rfl,hE,F⟩:=h
 generalize hX:cxOf (CXE P w) P w K mg base N qual scope f cd A outer s₀ H₀ E=X at I F ⊢
 have eS:X.stack=X.env::outer:=by rw [← hX]; rfl
 have eF:X.env.frame=some X.env.locals:=by rw [← hX]; rfl
 have e0:X.s₀=s₀:=by rw [← hX]; rfl
 have eH:X.H₀=H₀:=by rw [← hX]; rfl
 have eO:X.outer=outer:=by rw [← hX]; rfl
 have eX:X.ex=[]:=by rw [← hX]; rfl
 have exe:X.xe=fun e s'=>wpAny (model P w) X.A (leaving X.env e) (fun _ s''=>CXE P w outer H₀ s₀ E e s'') (fun e' s''=>CXE P w outer H₀ s₀ E e' s'') s':=by rw [← hX]; rfl
 rw [exe]
 have notin:∀ b o,s₀.heap.get? b=some o→b ∉ frs outer→b ∉ frs X.stack:=fun b o e1 hb z=>by
  rcases List.mem_cons.mp (I.stkSub b z) with e2 | e2
  ·have:=Nat.lt_of_lt_of_le (Heap.lt_size (e0 ▸ e1)) I.ok.above
   rw [e2] at this
   exact absurd this (Nat.lt_irrefl _)
  ·exact hb (by rw [← eO]; exact e2)
 have nex:∀ b:Addr,b ∉ X.ex:=fun b z=>by rw [eX] at z; simp at z
 have ub:Un (frs outer) X.ex H₀ H s₀.heap s.heap:=by
  have:=I.base
  rw [e0,eH] at this
  unfold Cx.fs at this
  rw [eO] at this
  exact this
 obtain⟨t,fl⟩:=F.fl
 have fl':Heap.FlyingW B (X.env::outer) a (.ref C) t s'.heap:=eS ▸ fl
 refine wpAny_leaves_onW (L:=X.env.locals) (by rw [I.ok.frames,eS]) eF fl' fun h'' F1 up=>?_
 refine⟨a,C,H',B,rfl,hE,⟨F.os.trans (I.os.trans (by rw [e0])),F.bare,⟨t,F1⟩,fun b o e1 n hb=>?_,fun b o e1 hb=>?_,fun b o e1 n=>?_,fun b o e1 hb=>?_,fun b xs z=>F.tups b xs (ub.tups b xs z),fun b o u z=>F.frzs b o u (ub.frzs b o u z),fun b ps z=>?_,F.hok,F.new,?_⟩⟩
 ·exact F.keep b o (ub.keep b o e1 n hb (nex b)) (ub.free b o e1 n (nex b)) (notin b o e1 hb)
 ·have hb':b∈X.fs:=by unfold Cx.fs; rw [eO]; exact hb
  have n:H₀ b=none:=by rw [← eH]; exact I.ok.frf b hb'
  obtain⟨s1,q1⟩:=ub.slot b o e1 n hb (nex b)
  obtain⟨_,o2,q2,nf⟩:=I.ok.funs.mem hb'
  rw [e0,e1] at q2
  cases q2
  obtain⟨s2,q3⟩:=F.slot b _ q1 (by rw [eS]; unfold frs; exact List.mem_filterMap.mpr (by obtain⟨ev,h1,h2⟩:=List.mem_filterMap.mp (show b∈outer.filterMap _ from hb); exact⟨ev,List.mem_cons_of_mem _ h1,h2⟩))
  obtain⟨s3,q4⟩:=up b _ q3 nf
  exact⟨s3,q4⟩
 ·obtain⟨o',q1⟩:=ub.there b o e1 (nex b)
  exact F.free b o' q1 (ub.free b o e1 n (nex b))
 ·obtain⟨o',q1⟩:=ub.there b o e1 (nex b)
  exact F.there b o' q1 (notin b o e1 hb)
 ·obtain⟨m1,z1⟩:=ub.tbls b ps z
  obtain⟨m2,z2⟩:=F.tbls b _ z1
  exact⟨m1++m2,by rw [z2]; first | rw [List.append_assoc] | rw [Array.append_assoc] | simp⟩
 ·cases e1:s₀.heap.get? a with
  | none=>rfl
  | some o =>
   obtain⟨o',q1⟩:=ub.there a o e1 (nex a)
   rw [F.fresh] at q1; cases q1
end
end Sw
namespace Sw
open PySem PySem.Spec PyProof.Rows L2
section
variable {M:Model}{A:Around}{E:Value→Shared→Prop}{s:Shared}{base:Heap}{env:Env}{outer l:List Env}{L e:Addr}{cls a0 c fl:Value}{Q:Unit→Shared→Prop}
def TrC (h base:Heap) (e:Addr) (cls a0 c fl:Value):Prop :=
 ∃ oe vs T oT ts,h.get? e=some oe∧oe.cls=cls∧vs[0]?=some a0∧oe.data=.fields vs∧vs[1]?=some (.ref T)∧base.get? T=none∧T≠e∧h.get? T=some oT∧oT.data=.fields ts∧ts[3]?=some fl∧vs[2]?=some c
theorem TrC.at {h:Heap} (x:TrC h base e cls a0 c fl):h.TracedAtW base e cls a0 fl:=by
 obtain⟨oe,vs,T,oT,ts,h1,h2,h3,h4,h5,h6,h7,h8,h9,h10,_⟩:=x
 exact⟨oe,vs,T,oT,ts,h1,⟨h2,h3⟩,h4,h5,h6,h7,h8,h9,h10⟩
theorem entryC {oe:Obj}{vs:Array Value}{head:Value}{hn:Bool} (hfr:A.frames=some (env::outer)) (hl:s.heap.FunFrames base (env::outer)) (hf:env.frame=some L)
  (he:s.heap.get? e=some oe) (hkb:base.StaysIn s.heap) (hen:base.get? e=none) (hd:oe.data=.fields vs) (hsz:1<vs.size) (h0:vs[0]?=some a0) (h2:vs[2]?=some c)
  (h:∀ h',base.StaysIn h'→h'.FunFrames base (env::outer)→TrC h' base e oe.cls a0 c (rawInt L)→s.heap.UpToSlots h'→Q () { s with heap:=h' }) :
  wpAny M A ((frameOf env) >>= fun a=>(entryPlaceOf L hn) >>= fun pl=>(EntryCells.newEntry head a .none (rawInt L) .none pl) >>= fun b=>setField (.ref e) 1 b) Q E s:=by
 have ne:e ∉ (env::outer).filterMap (·.frame):=fun hm=>by
  obtain⟨_,o,ho,nf⟩:=hl.mem hm
  rw [he] at ho
  cases ho
  exact nf vs hd
 refine wpAny_bind (wpAny_frameOf_fun hfr hl hf fun k hk=>wpAny_bind (wpAny_entryPlaceOf fun pl hp=>?_))
 unfold EntryCells.newEntry newFields
 refine wpAny_bind (wpAny_newObj_type ?_ (hp.sizeOk5 _ _ _ _ _))
 generalize hts:([head,.ref L,.none,rawInt L,.none]++(if pl.isEmpty then List.replicate 6 Value.none else pl)).toArray=ts
 have t3:ts[3]?=some (rawInt L):=by rw [← hts]; simp
 have he1:k.get? e=some oe:=(hk.2.1 e ne).trans he
 have kb:base.StaysIn k:=fun b o z=>(hk.2.1 b fun hm=>by rw [(hl.mem hm).1] at z; cases z).trans (hkb b o z)
 generalize htb:({ cls:=.type "traceback",dict:=none,data:=.fields ts }:Obj)=tb
 have dtb:tb.data=.fields ts:=by rw [← htb]
 have ftb:tb.isFreed=false:=Obj.isFreed_of_fields dtb
 have he2:=Heap.get?_push_of_some (h:=k) tb he1
 have nT:k.objs.size≠e:=Nat.ne_of_gt (Heap.lt_size he1)
 have hT:=Heap.get?_push_size k ftb
 refine wpAny_setField he2 hd hsz ?_
 have d3:=Obj.data_mapFields hd (·.setIfInBounds 1 (Value.ref k.objs.size))
 have he3:=Heap.get?_update_self (Obj.mapFields (·.setIfInBounds 1 (Value.ref k.objs.size))) he2 (Obj.isFreed_of_fields d3)
 have hT3:=(Heap.get?_update_other (k.push tb) (Obj.mapFields (·.setIfInBounds 1 (Value.ref k.objs.size))) (Ne.symm nT)).trans hT
 have keep:∀ b o,b≠e→k.get? b=some o→((k.push tb).update e (Obj.mapFields (·.setIfInBounds 1 (Value.ref k.objs.size)))).get? b=some o:=fun b o nb z=>by
  rw [Heap.get?_update_other _ _ (Ne.symm nb)]
  exact Heap.get?_push_of_some _ z
 generalize (k.push tb).update e (Obj.mapFields (·.setIfInBounds 1 (Value.ref k.objs.size)))=h' at he3 hT3 keep ⊢
 have nr:∀ b o,s.heap.get? b=some o→(∀ vs,o.data≠.fields vs)→b≠e:=fun b o z nf q=>by
  rw [q,he] at z
  cases z
  exact nf vs hd
 refine h h' (fun b o z=>keep b o (fun q=>by rw [q,hen] at z; cases z) (kb b o z)) (hl.of_keeps fun b o z nf=>?_) ?_ fun b o z nf=>?_
 ·obtain⟨sl,q⟩:=hk.2.2 b o z
  exact⟨_,keep b _ (nr b o z nf) q,rfl⟩
 ·exact⟨_,_,k.objs.size,tb,ts,he3,Obj.cls_mapFields _ _,by rw [Array.getElem?_setIfInBounds_ne (by decide)]; exact h0,d3,by simp [hsz],kb.fresh,nT,hT3,dtb,t3,by rw [Array.getElem?_setIfInBounds_ne (by decide)]; exact h2⟩
 ·obtain⟨sl,q⟩:=hk.2.2 b o z
  exact⟨sl,keep b _ (nr b o z nf) q⟩
theorem flightC {fr:Option Addr} (hkb:base.StaysIn s.heap) (hl:s.heap.FunFrames base l) (ht:TrC s.heap base e cls a0 c fl)
  (h:∀ h',base.StaysIn h'→h'.FunFrames base l→TrC h' base e cls a0 c (fr.elim .none fun f=>rawInt f)→s.heap.UpToSlots h'→Q () { s with heap:=h' }):wpAny M A (setFlight (.ref e) fr) Q E s:=by
 obtain⟨oe,vs,T,oT,ts,h1,h2,h3,h4,h5,h6,h7,h8,h9,h10,h11⟩:=ht
 have z3:3<ts.size:=(Array.getElem?_eq_some_iff.mp h10).1
 unfold setFlight
 refine wpAny_bind (wpAny_field h1 h4 h5 ?_)
 rw [if_pos (by simp)]
 refine wpAny_setField h8 h9 z3 ?_
 have d:=Obj.data_mapFields h9 (·.setIfInBounds 3 (fr.elim Value.none fun f=>rawInt f))
 have hT:=Heap.get?_update_self (Obj.mapFields (·.setIfInBounds 3 (fr.elim Value.none fun f=>rawInt f))) h8 (Obj.isFreed_of_fields d)
 have other:∀ b,b≠T→(s.heap.update T (Obj.mapFields (·.setIfInBounds 3 (fr.elim Value.none fun f=>rawInt f)))).get? b=s.heap.get? b:=fun b nb=>Heap.get?_update_other _ _ (Ne.symm nb)
 generalize s.heap.update T (Obj.mapFields (·.setIfInBounds 3 (fr.elim Value.none fun f=>rawInt f)))=h' at hT other ⊢
 have nr:∀ b o,s.heap.get? b=some o→(∀ vs,o.data≠.fields vs)→b≠T:=fun b o z nf q=>by
  rw [q,h8] at z
  cases z
  exact nf ts h9
 refine h h' (fun b o z=>(other b fun q=>by rw [q,h6] at z; cases z).trans (hkb b o z)) (hl.of_keeps fun b o z nf=>⟨o,(other b (nr b o z nf)).trans z,rfl⟩) ?_ fun b o z nf=>⟨o.slots,(other b (nr b o z nf)).trans z⟩
 exact⟨oe,vs,T,_,_,(other e (Ne.symm h7)).trans h1,h2,h3,h4,h5,h6,h7,hT,d,by simp [z3],h11⟩
theorem firstC {oe:Obj}{vs:Array Value} (hfr:A.frames=some (env::outer)) (hl:s.heap.FunFrames base (env::outer)) (hf:env.frame=some L)
  (he:s.heap.get? e=some oe) (hkb:base.StaysIn s.heap) (hen:base.get? e=none) (hd:oe.data=.fields vs) (h1:vs[1]?=some .none) (h0:vs[0]?=some a0) (h2:vs[2]?=some c)
  (h:∀ h',base.StaysIn h'→h'.FunFrames base (env::outer)→TrC h' base e oe.cls a0 c (rawInt L)→s.heap.UpToSlots h'→Q () { s with heap:=h' }):wpAny M A (noteFrame (.ref e) env) Q E s:=by
 unfold noteFrame
 simp only [hf]
 refine wpAny_bind (wpAny_field he hd h1 ?_)
 rw [if_neg (by decide)]
 exact entryC hfr hl hf he hkb hen hd (Array.getElem?_eq_some_iff.mp h1).1 h0 h2 h
theorem laterC (hfr:A.frames=some (env::outer)) (hl:s.heap.FunFrames base (env::outer)) (hf:env.frame=some L) (ht:TrC s.heap base e cls a0 c .none) (hkb:base.StaysIn s.heap) (hen:base.get? e=none)
  (h:∀ h',base.StaysIn h'→h'.FunFrames base (env::outer)→TrC h' base e cls a0 c (rawInt L)→s.heap.UpToSlots h'→Q () { s with heap:=h' }):wpAny M A (noteFrame (.ref e) env) Q E s:=by
 obtain⟨oe,vs,T,oT,ts,h1,h2,h3,h4,h5,h6,h7,h8,h9,h10,h11⟩:=ht
 subst h2
 have z3:3<ts.size:=(Array.getElem?_eq_some_iff.mp h10).1
 unfold noteFrame
 simp only [hf]
 refine wpAny_bind (wpAny_field h1 h4 h5 ?_)
 rw [if_pos (by simp)]
 refine wpAny_bind (wpAny_field h8 h9 h10 ?_)
 rw [if_neg (by simp [rawInt])]
 refine wpAny_bind (wpAny_setField h8 h9 z3 ?_)
 have other:∀ b,b≠T→(s.heap.update T (Obj.mapFields (·.setIfInBounds 3 Value.none))).get? b=s.heap.get? b:=fun b nb=>Heap.get?_update_other _ _ (Ne.symm nb)
 have nr:∀ b o,s.heap.get? b=some o→(∀ vs,o.data≠.fields vs)→b≠T:=fun b o z nf q=>by
  rw [q,h8] at z
  cases z
  exact nf ts h9
 generalize s.heap.update T (Obj.mapFields (·.setIfInBounds 3 Value.none))=k at other ⊢
 refine entryC (s:={ s with heap:=k }) hfr (hl.of_keeps fun b o z nf=>⟨o,(other b (nr b o z nf)).trans z,rfl⟩) hf ((other e (Ne.symm h7)).trans h1) (fun b o z=>(other b fun q=>by rw [q,h6] at z; cases z).trans (hkb b o z)) hen h4 (Array.getElem?_eq_some_iff.mp h5).1 h3 h11 fun h' k1 k2 k3 k4=>h h' k1 k2 k3 fun b o z nf=>k4 b o ((other b (nr b o z nf)).trans z) nf
end
end Sw
namespace Sw
open PySem PySem.Spec PyProof.Rows L2
theorem entry_chain:entryFor table "proto.unchain"=some Builtin.«proto.unchain»:=entryFor_of_tree (by kernel_rfl)
section
variable {P:Program}{w:World}{A:Around}{E:Value→Shared→Prop}{s:Shared}{a e:Addr}
theorem unchain0 {o:Obj}{vs:Array Value}{Q:Value→Shared→Prop} (ho:s.heap.get? a=some o) (hd:o.data=.fields vs) (h2:vs[2]?=some .none) (h:Q .none s) :
  wpAny (model P w) A (runValue (.builtin "proto.unchain" ⟨[.ref e,.ref a,.ref a,.bool false],[]⟩)) Q E s:=by
 refine wpAny_runValue (codeAny_of_tree ?_)
 have hden:(model P w).den (.builtin "proto.unchain" ⟨[.ref e,.ref a,.ref a,.bool false],[]⟩)=Builtin.«proto.unchain» ⟨[.ref e,.ref a,.ref a,.bool false],[]⟩:=by
  show (match entryFor table "proto.unchain" with | some b=>b ⟨[.ref e,.ref a,.ref a,.bool false],[]⟩ | none=>unsupported ((withoutEnding? "proto.unchain" "#data").getD "proto.unchain"))=_
  rw [entry_chain]
 rw [hden]
 unfold Builtin.«proto.unchain»
 refine wpAny_bind (wpAny_field ho hd h2 ?_)
 rw [if_pos (by rfl)]
 exact wpAny_pure h
theorem raiseNewC {α:Type}{o oe:Obj}{vs ve:Array Value}{Q:α→Shared→Prop} (hh:A.handled=some (.ref a)) (ne:a≠e) (ho:s.heap.get? a=some o) (hd:o.data=.fields vs) (h2:vs[2]?=some .none) (he:s.heap.get? e=some oe) (hde:oe.data=.fields ve) (hs:2<ve.size)
  (h:E (.ref e) { s with heap:=s.heap.update e (Obj.mapFields (·.setIfInBounds 2 (.ref a))) }):wpAny (model P w) A (raiseNew (.ref e):Sem α) Q E s:=by
 unfold raiseNew
 refine wpAny_bind (wpAny_handled ?_)
 rw [hh]
 dsimp only
 rw [if_pos (by simpa using ne)]
 refine wpAny_bind (wpAny_holding (unchain0 ho hd h2 ?_))
 refine wpAny_bind (wpAny_setField (a:=e) (i:=2) (x:=.ref a) he hde hs (wpAny_throw h))
end
end Sw
namespace Sw
open PySem PySem.Spec PyProof.Rows L2
theorem wp_raiseC {X:Cx}{pins:List (Addr×Obj)}{σ:Sg}{H:Hp}{s:Shared}{x:Str}{C a:Addr}{B newId initId:String}{bmB:List Value}{np cpos cp pos:Pos}{kk:Nat}{o:Obj}{vs:Array Value}{Q:Flow→Shared→Prop}{E:Value→Shared→Prop}
  (I:Inv X pins σ H s) (FB:ExcBaseFacts B newId initId bmB) (q:PySem.W.excIn X.K C bmB newId=true) (hk:PySem.W.keepIn X.K (.ref C)=true) (hg:Gl X x) (hm:X.mg x=some (.ref C)) (hh:X.A.handled=some (.ref a))
  (ho:s.heap.get? a=some o) (hdo:o.data=.fields vs) (h2:vs[2]?=some .none)
  (h:∀ h' e t,(∀ b o,s.heap.get? b=some o→h'.get? b=some o)→s.heap.get? e=none→h'.get? e=some { cls:=.ref C,data:=.fields #[.ref t,.none,.ref a,.none,.bool true,.none] }→E (.ref e) { s with heap:=h' })
  (hd:(x == ("__debug__":Str))=false:=by decide) :
  wpAny (model X.prog X.w) X.A (exec (.Raise (some (.Call (.Name x np) [] [] cpos)) (some (.Constant .none kk cp)) pos) X.env) Q E s:=by
 rw [arm_exec_Raise]
 refine wpAny_bind (wpAny_standAt ?_)
 show wpAny _ _ (raiseStmt X.env (some (do let v ← eval (.Call (.Name x np) [] [] cpos) X.env; standAt pos; pure v)) (some (do let v ← eval (.Constant .none kk cp) X.env; standAt pos; pure v))) _ _ s
 unfold raiseStmt
 refine wpAny_bind (wpAny_bind (wpAny_Call_Name_kw (ld_glob I hg hm ?_ hd)))
 refine PySem.W.callWith_K0 I.kIn hk ?_
 obtain⟨tl,Nn,nm,qq,bs,hdc,sn,sb,ab,cl,dd,k0,k1,k2,k3,k5,mN,hC,hN,hni,T⟩:=excAt_of I.kIn q
 obtain⟨hp,g,d,tk,os⟩:=s
 refine wpAny_call_exc_subT FB T hC hN hni fun h' e hx=>?_
 refine wpAny_bind (wpAny_standAt (wpAny_pure ?_))
 obtain⟨t,he,htn,ht⟩:=hx.there
 have hC':=hx.keeps _ _ hC
 have hcB:(Value.ref C::tl).contains (.type "BaseException")=true:=by rw [List.contains_cons,T.hasType FB.hasBase,Bool.or_true]
 have ho':=hx.keeps _ _ ho
 have ne:a≠e:=fun z=>by rw [z,hx.new] at ho; cases ho
 repeat (first | with_reducible refine wpAny_loadPart_at he ?_ | with_reducible refine wpAny_loadPart_at hC' ?_ | (with_reducible refine wpAny_isSubtype_exc hC' ?_; rw [hcB]) | wp_step)
 have neC:C≠e:=fun z=>by have:=hx.new; rw [← z] at this; rw [this] at hC; cases hC
 have d3:=Obj.data_mapFields (o:={ cls:=.ref C,data:=.fields #[.ref t,.none,.none,.none,.bool false,.none] }) rfl (·.setIfInBounds 3 Value.none)
 have e3:=Heap.get?_update_self (Obj.mapFields (·.setIfInBounds 3 Value.none)) he (Obj.isFreed_of_fields d3)
 have d4:=Obj.data_mapFields d3 (·.setIfInBounds 4 (Value.bool true))
 have e4:=Heap.get?_update_self (Obj.mapFields (·.setIfInBounds 4 (Value.bool true))) e3 (Obj.isFreed_of_fields d4)
 have oth:∀ b,b≠e→((h'.update e (Obj.mapFields (·.setIfInBounds 3 Value.none))).update e (Obj.mapFields (·.setIfInBounds 4 (Value.bool true)))).get? b=h'.get? b:=fun b nb=>by
  rw [Heap.get?_update_other _ _ (Ne.symm nb),Heap.get?_update_other _ _ (Ne.symm nb)]
 have hC4:=(oth C neC).trans hC'
 have ho4:=(oth a ne).trans ho'
 have keep:∀ b o,hp.get? b=some o→((h'.update e (Obj.mapFields (·.setIfInBounds 3 Value.none))).update e (Obj.mapFields (·.setIfInBounds 4 (Value.bool true)))).get? b=some o:=fun b o z=>(oth b fun y=>by rw [y,hx.new] at z; cases z).trans (hx.keeps b o z)
 generalize (h'.update e (Obj.mapFields (·.setIfInBounds 3 Value.none))).update e (Obj.mapFields (·.setIfInBounds 4 (Value.bool true)))=h4 at e4 hC4 ho4 keep ⊢
 have e5:h4.get? e=some { cls:=.ref C,data:=.fields #[.ref t,.none,.none,.none,.bool true,.none] }:=e4
 repeat (first | with_reducible refine wpAny_loadPart_at e5 ?_ | with_reducible refine wpAny_loadPart_at hC4 ?_ | wp_step)
 have d6:=Obj.data_mapFields (o:={ cls:=.ref C,data:=.fields #[.ref t,.none,.none,.none,.bool true,.none] }) rfl (·.setIfInBounds 2 (Value.ref a))
 have e6:=Heap.get?_update_self (Obj.mapFields (·.setIfInBounds 2 (Value.ref a))) e5 (Obj.isFreed_of_fields d6)
 exact raiseNewC hh ne ho4 hdo h2 e5 rfl (by show 2<6; decide) (h _ e t (fun b o z=>(Heap.get?_update_other _ _ (fun y=>by rw [← y,hx.new] at z; cases z)).trans (keep b o z)) hx.new e6)
end Sw
namespace Sw
open PySem PySem.Spec PyProof.Rows L2
def CXC (P:Program) (w:World):CXT:=fun outer H s E e s'=>∃ (a C:Addr) (H':Hp) (B:Heap),e=.ref a∧E (.ref C) none H'∧Fly P w outer H s H' B a C s'∧∃ t,B.StaysIn s'.heap∧B.get? a=none∧s'.heap.FunFrames B outer∧TrC s'.heap B a (.ref C) t .none .none
section
variable {P:Program}{w:World}{K:PySem.W.Frag}{mg:Str→Option Value}{base:Heap}{N:List Str}{qual:Str}{scope:Scope}{f:Addr}{cd:Value}{A:Around}{outer:List Env}{s₀:Shared}{H₀:Hp}{E:XK}{CX:CXT}
theorem fly_mk {pins:List (Addr×Obj)}{σ:Sg}{H:Hp}{s:Shared}{h':Heap}{e C:Addr}{t:Value} (I:Inv (cxOf CX P w K mg base N qual scope f cd A outer s₀ H₀ E) pins σ H s) (hn:s.heap.get? e=none)
  (F1:Heap.FlyingW (PySem.W.hideAll s.heap (frs (cxOf CX P w K mg base N qual scope f cd A outer s₀ H₀ E).stack)) outer e (.ref C) t h') (F4:s.heap.UpToSlots h') :
  Fly P w outer H₀ s₀ H (PySem.W.hideAll s.heap (frs (cxOf CX P w K mg base N qual scope f cd A outer s₀ H₀ E).stack)) e C { s with heap:=h' }:=by
 generalize hX:cxOf CX P w K mg base N qual scope f cd A outer s₀ H₀ E=X at I F1 ⊢
 have e0:X.s₀=s₀:=by rw [← hX]; rfl
 have eH:X.H₀=H₀:=by rw [← hX]; rfl
 have eO:X.outer=outer:=by rw [← hX]; rfl
 have eX:X.ex=[]:=by rw [← hX]; rfl
 have eP:X.prog=P:=by rw [← hX]; rfl
 have eW:X.w=w:=by rw [← hX]; rfl
 have notin:∀ b o,s₀.heap.get? b=some o→b ∉ frs outer→b ∉ frs X.stack:=fun b o e1 hb z=>by
  rcases List.mem_cons.mp (I.stkSub b z) with e2 | e2
  ·have:=Nat.lt_of_lt_of_le (Heap.lt_size (e0 ▸ e1)) I.ok.above
   rw [e2] at this
   exact absurd this (Nat.lt_irrefl _)
  ·exact hb (by rw [← eO]; exact e2)
 have nex:∀ b:Addr,b ∉ X.ex:=fun b z=>by rw [eX] at z; simp at z
 have ub:Un (frs outer) X.ex H₀ H s₀.heap s.heap:=by
  have:=I.base
  rw [e0,eH] at this
  unfold Cx.fs at this
  rw [eO] at this
  exact this
 have tf:∀ b u,H b=some u→b ∉ frs X.stack:=fun b u e1 z=>by
  rw [I.stkFree b z] at e1; cases e1
 refine⟨I.os.trans (by rw [e0]),I.bare,⟨_,F1⟩,fun b o e1 n hb=>?_,fun b o e1 hb=>?_,fun b o e1 n=>ub.free b o e1 n (nex b),fun b o e1 hb=>?_,ub.tups,ub.frzs,ub.tbls,fun b u e1=>?_,?_,?_⟩
 ·exact PySem.W.hideAll_get _ (ub.keep b o e1 n hb (nex b)) (notin b o e1 hb)
 ·have hb':b∈X.fs:=by unfold Cx.fs; rw [eO]; exact hb
  have n:H₀ b=none:=by rw [← eH]; exact I.ok.frf b hb'
  obtain⟨s1,q1⟩:=ub.slot b o e1 n hb (nex b)
  obtain⟨_,o2,q2,nf⟩:=I.ok.funs.mem hb'
  rw [e0,e1] at q2
  cases q2
  obtain⟨s2,q4⟩:=F4 b _ q1 nf
  exact⟨s2,q4⟩
 ·obtain⟨o',q1⟩:=ub.there b o e1 (nex b)
  exact⟨o',PySem.W.hideAll_get _ q1 (notin b o e1 hb)⟩
 ·have q:=I.hok b u e1
  rw [eP,eW] at q
  refine q.stay (fun c v hc q1=>PySem.W.hideAll_get _ q1 ?_) (fun _ z=>z) fun _ _ z=>z
  rcases hc with z | z
  ·rw [z]; exact tf b u e1
  ·exact tf c _ z
 ·cases e1:H e with
  | none=>rfl
  | some u =>
   obtain⟨ob,q1⟩:=objOk_there (I.hok e u e1)
   rw [hn] at q1; cases q1
 ·cases e1:s₀.heap.get? e with
  | none=>rfl
  | some o =>
   obtain⟨o',q1⟩:=ub.there e o e1 (nex e)
   rw [hn] at q1; cases q1
theorem fly_raiseC {pins:List (Addr×Obj)}{σ:Sg}{H:Hp}{s:Shared}{h':Heap}{e C:Addr} (I:Inv (cxOf (CXC P w) P w K mg base N qual scope f cd A outer s₀ H₀ E) pins σ H s)
  (hx:Heap.MadeExcOf s.heap h' e (.ref C) []) (hE:E (.ref C) none H):(cxOf (CXC P w) P w K mg base N qual scope f cd A outer s₀ H₀ E).xe (.ref e) { s with heap:=h' }:=by
 have mk:=fun h'' t F1 F4=>fly_mk (h':=h'') (e:=e) (C:=C) (t:=t) I hx.new F1 F4
 generalize hX:cxOf (CXC P w) P w K mg base N qual scope f cd A outer s₀ H₀ E=X at I mk ⊢
 have eS:X.stack=X.env::outer:=by rw [← hX]; rfl
 have eF:X.env.frame=some X.env.locals:=by rw [← hX]; rfl
 have exe:X.xe=fun e s'=>wpAny (model P w) X.A (leaving X.env e) (fun _ s''=>CXC P w outer H₀ s₀ E e s'') (fun e' s''=>CXC P w outer H₀ s₀ E e' s'') s':=by rw [← hX]; rfl
 rw [exe]
 obtain⟨t,he,htn,ht⟩:=hx.there
 have ff:s.heap.FunFrames (PySem.W.hideAll s.heap (frs X.stack)) (X.env::outer):=by
  rw [← eS]
  exact PySem.W.funFrames_hide I.stack fun ev hev a ha=>List.mem_filterMap.mpr ⟨ev,hev,ha⟩
 have st:(PySem.W.hideAll s.heap (frs X.stack)).StaysIn h':=fun b o z=>hx.keeps b o (PySem.W.of_hideAll _ z)
 have nb:(PySem.W.hideAll s.heap (frs X.stack)).get? e=none:=by
  cases q:(PySem.W.hideAll s.heap (frs X.stack)).get? e with
  | none=>rfl
  | some o=>have:=PySem.W.of_hideAll _ q; rw [hx.new] at this; cases this
 unfold leaving
 refine wpAny_bind (firstC (a0:=.ref t) (c:=.none) (by rw [I.ok.frames,eS]) (ff.of_keeps fun b o z _=>⟨o,hx.keeps b o z,rfl⟩) eF he st nb rfl rfl rfl rfl fun h1 st1 ff1 tr1 up1=>?_)
 refine flightC (fr:=none) st1 ff1 tr1 fun h2 st2 ff2 tr2 up2=>?_
 exact⟨e,C,H,_,rfl,hE,mk h2 (.ref t) ⟨st2,nb,ff2.2.2,tr2.at⟩ (((Heap.UpToSlots.of_keeps hx.keeps).trans up1).trans up2),_,st2,nb,ff2.2.2,tr2⟩
theorem ps_raiseC {x:Str}{C:Addr}{B newId initId:String}{bmB:List Value}{np cpos pos:Pos} (FB:ExcBaseFacts B newId initId bmB) (q:PySem.W.excIn K C bmB newId=true)
  (hg:Gl (cxOf (CXC P w) P w K mg base N qual scope f cd A outer s₀ H₀ E) x) (hm:mg x=some (.ref C)) (hd:(x == ("__debug__":Str))=false:=by decide) :
  PS (cxOf (CXC P w) P w K mg base N qual scope f cd A outer s₀ H₀ E) (.Raise (some (.Call (.Name x np) [] [] cpos)) none pos) (tRaise C E):=by
 intro pins s σ H D I h
 obtain⟨tl,Nn,nm,qq,bs,hdc,sn,sb,ab,cl,dd,k0,k1,k2,k3,k5,mN,hC,hN,hni,T⟩:=excAt_of I.kIn q
 refine wpAny_Raise_call_subT (C:=C) (N:=Nn) (nm:=nm) (q:=qq) (bs:=bs) (bm:=tl) (sn:=sn) (hdct:=hdc) (sub:=sb) (col:=cl) (ab:=ab) (dd:=dd) (k5:=k5) (k3:=k3) (k2:=k2) (k1:=k1) (k0:=k0) FB (mN:=mN) (T.hasType FB.hasBase) (I.ok.hd rfl) rfl hni (ld_glob I hg hm ⟨rfl,?_⟩ hd)
 exact evalArgs_empty ⟨rfl,Nat.zero_le _,hC,hN,T,fun h' e hx=>fly_raiseC I hx h⟩
end
theorem okC {P:Program}{w:World}{K:PySem.W.Frag}{mg:Str→Option Value}{base:Heap}{x qual:Str}{st:Stmt}{f:Addr}{fd:FuncData}{N ps:List Str}{k:Nat}{sp:Sp} (F:Fun K x qual st f fd) (S:FnScope N ps (defScope st)) (len:∀ vs H Q E,sp vs H Q E→vs.length=ps.length)
  (hb:∀ (cdv:Value) (A:Around) (outer:List Env) (s:Shared) (H:Hp) (vs:List V) (Q:VK) (E:XK),Room k (A.deeper (envOfC qual (defScope st) s.heap.objs.size f cdv))→sp vs H Q E →
   ∃ t,PSs (cxOf (CXC P w) P w K mg base N qual (defScope st) f cdv A outer s H E) (defBody st) t∧t { nx:=fun _ H'=>Q .non H',rt:=Q } (start N vs) H):FnOk P w K mg base (CXC P w) (k+1) f fd ps sp:=by
 obtain⟨oc,od,kV,doc,pm,an,cdv,ct,osl,e,lk,hcd⟩:=F.ex
 subst e
 exact fn_of lk hcd S len fun A outer s H vs Q E hr hsp=>hb cdv A outer s H vs Q E hr hsp
end Sw
namespace Sw
open PySem PySem.Spec PyProof.Rows L2
section
variable {P:Program}{w:World}{K:PySem.W.Frag}{mg:Str→Option Value}{base:Heap}{N:List Str}{qual:Str}{scope:Scope}{f:Addr}{cd:Value}{A:Around}{outer:List Env}{s₀:Shared}{H₀:Hp}{E:XK}
def ETurn (K:PySem.W.Frag) (D0 C2:Addr) (E:XK):XK:=fun cls _ H2=>∃ C,cls=.ref C∧PySem.W.subIn K (.ref C) (.ref D0)=some true∧∀ a,H2 a=none→E (.ref C2) none (upd H2 a (XO a C))
theorem ps_tryTurn {xB x2:Str}{D0 C2:Addr}{B newId initId:String}{bmB:List Value}{body:List Stmt}{ts:TS}{np np2 cpos cp rpos hp pos3:Pos}{kk:Nat}
  (hb:∀ EE,Passes (CXC P w) ((cxOf (CXE P w) P w K mg base N qual scope f cd A outer s₀ H₀ E).wish EE) (ETurn K D0 C2 E)→QSs ((cxOf (CXE P w) P w K mg base N qual scope f cd A outer s₀ H₀ E).wish EE) body ts)
  (hgB:Gl (cxOf (CXE P w) P w K mg base N qual scope f cd A outer s₀ H₀ E) xB) (hmB:mg xB=some (.ref D0)) (h1:PySem.W.typeIn K (.ref D0)=some (.type "type")) (h2:PySem.W.subIn K (.ref D0) (.type "BaseException")=some true) (hD:∃ cd,PySem.W.clsIn K D0=some cd)
  (FB:ExcBaseFacts B newId initId bmB) (q:PySem.W.excIn K C2 bmB newId=true) (hk:PySem.W.keepIn K (.ref C2)=true) (hg:Gl (cxOf (CXE P w) P w K mg base N qual scope f cd A outer s₀ H₀ E) x2) (hm:mg x2=some (.ref C2))
  (hdB:(xB == ("__debug__":Str))=false:=by decide) (hd2:(x2 == ("__debug__":Str))=false:=by decide) :
  PS (cxOf (CXE P w) P w K mg base N qual scope f cd A outer s₀ H₀ E) (.Try body [.ExceptHandler (some (.Name xB np)) none [.Raise (some (.Call (.Name x2 np2) [] [] cpos)) (some (.Constant .none kk cp)) rpos] hp] [] [] pos3) ts:=by
 have mk:=fun (pins:List (Addr×Obj)) (σ:Sg) (H:Hp) (s:Shared) (h':Heap) (e C:Addr) (t:Value) I hn F1 F4=>fly_mk (CX:=CXE P w) (P:=P) (w:=w) (K:=K) (mg:=mg) (base:=base) (N:=N) (qual:=qual) (scope:=scope) (f:=f) (cd:=cd) (A:=A) (outer:=outer) (s₀:=s₀) (H₀:=H₀) (E:=E) (pins:=pins) (σ:=σ) (H:=H) (s:=s) (h':=h') (e:=e) (C:=C) (t:=t) I hn F1 F4
 have exe:(cxOf (CXE P w) P w K mg base N qual scope f cd A outer s₀ H₀ E).xe=fun e s'=>wpAny (model P w) (cxOf (CXE P w) P w K mg base N qual scope f cd A outer s₀ H₀ E).A (leaving (cxOf (CXE P w) P w K mg base N qual scope f cd A outer s₀ H₀ E).env e) (fun _ s''=>CXE P w outer H₀ s₀ E e s'') (fun e' s''=>CXE P w outer H₀ s₀ E e' s'') s':=rfl
 have eS:(cxOf (CXE P w) P w K mg base N qual scope f cd A outer s₀ H₀ E).stack=(cxOf (CXE P w) P w K mg base N qual scope f cd A outer s₀ H₀ E).env::outer:=rfl
 have eF:(cxOf (CXE P w) P w K mg base N qual scope f cd A outer s₀ H₀ E).env.frame=some (cxOf (CXE P w) P w K mg base N qual scope f cd A outer s₀ H₀ E).env.locals:=rfl
 have eP:(cxOf (CXE P w) P w K mg base N qual scope f cd A outer s₀ H₀ E).prog=P:=rfl
 have eW:(cxOf (CXE P w) P w K mg base N qual scope f cd A outer s₀ H₀ E).w=w:=rfl
 have eK:(cxOf (CXE P w) P w K mg base N qual scope f cd A outer s₀ H₀ E).K=K:=rfl
 have eM:(cxOf (CXE P w) P w K mg base N qual scope f cd A outer s₀ H₀ E).mg=mg:=rfl
 generalize cxOf (CXE P w) P w K mg base N qual scope f cd A outer s₀ H₀ E=X at *
 subst eP eW eK eM
 intro pins s σ H D I h
 refine wpAny_Try_except ?_
 generalize hEE:(fun (e:Value) (s₁:Shared)=>wpAny (model X.prog X.w) X.A (noteFrame e X.env) (fun _ s₂=>wpAny (model X.prog X.w) X.A (setFlight e none) (fun _ s₃=>wpAny (model X.prog X.w) X.A (handleBy e X.env [.ExceptHandler (some (.Name xB np)) none [.Raise (some (.Call (.Name x2 np2) [] [] cpos)) (some (.Constant .none kk cp)) rpos] hp]) (SP X pins D) X.xe s₃) X.xe s₂) X.xe s₁)=EE
 have pass:Passes (CXC X.prog X.w) (X.wish EE) (ETurn X.K D0 C2 E):=by
  intro pins1 σ1 H1 s1 ev s' I1 hq
  have I1:=I1.unwish
  obtain⟨a,C,H2,B1,rfl,⟨C',eC,hsub,hE⟩,Fl,t0,st,nb,ff,tr⟩:=hq
  cases eC
  show EE (.ref a) s'
  rw [← hEE]
  have ff:s'.heap.FunFrames B1 (X.env::outer):=eS ▸ ff
  refine laterC (by rw [I.ok.frames,eS]) ff eF tr st nb fun h4 st4 ff4 tr4 up4=>?_
  refine flightC (fr:=none) st4 ff4 tr4 fun h5 st5 ff5 tr5 up5=>?_
  have fl5:Heap.FlyingW B1 X.stack a (.ref C) t0 h5:=⟨st5,nb,eS ▸ ff5,tr5.at⟩
  have I5:=Fl.inv I1 fl5 (up4.trans up5)
  obtain⟨oe,q1,q2⟩:=fl5.there
  refine wpAny_handleBy_cons (codeAny_handlers_test (ld_glob (X:=hX X a) (inv_hx I5 a) hgB hmB ?_ hdB)) (by intro z; cases z)
  refine exc_match I5.kIn q1 q2 h1 h2 hsub hD (codeAny_handlers_suite ?_)
  refine flightC (fr:=none) st5 ff5 tr5 fun h6 st6 ff6 tr6 up6=>?_
  have fl6:Heap.FlyingW B1 X.stack a (.ref C) t0 h6:=⟨st6,nb,eS ▸ ff6,tr6.at⟩
  have I6:=Fl.inv I1 fl6 (up4.trans (up5.trans up6))
  obtain⟨oa,va,T,oT,tsT,g1,g2,g3,g4,g5,g6,g7,g8,g9,g10,g11⟩:=tr6
  refine wpAny_execs_cons (wp_raiseC (X:=hX X a) (inv_hx I6 a) FB q hk hg hm rfl g1 g4 g11 (fun h7 e t keep new he=>?_) hd2)
  have new:h6.get? e=none:=new
  have ffs:h6.FunFrames (PySem.W.hideAll h6 (frs X.stack)) (X.env::outer):=by
   rw [← eS]
   exact PySem.W.funFrames_hide I6.stack fun ev hev a ha=>List.mem_filterMap.mpr ⟨ev,hev,ha⟩
  have nb7:(PySem.W.hideAll h6 (frs X.stack)).get? e=none:=by
   cases z:(PySem.W.hideAll h6 (frs X.stack)).get? e with
   | none=>rfl
   | some o=>have:=PySem.W.of_hideAll _ z; rw [new] at this; cases this
  refine firstC (base:=PySem.W.hideAll h6 (frs X.stack)) (a0:=.ref t) (c:=.ref a) (by show X.A.frames=_; rw [I.ok.frames,eS]) (ffs.of_keeps fun b o z _=>⟨o,keep b o z,rfl⟩) eF he (fun b o z=>keep b o (PySem.W.of_hideAll _ z)) nb7 rfl rfl rfl rfl fun h8 st8 ff8 tr8 up8=>?_
  obtain⟨ob,vb,Tb,oTb,tb,k1,k2,k3,k4,k5,k6,k7,k8,k9,k10,k11⟩:=id tr8
  refine wpAny_bind (wpAny_field k1 k4 k5 ?_)
  rw [if_neg (by simp)]
  refine flightC (fr:=X.env.frame) st8 ff8 tr8 fun h9 st9 ff9 tr9 up9=>?_
  rw [eF] at tr9
  rw [exe]
  unfold leaving
  refine wpAny_bind (wpAny_noteFrame_againW eF tr9.at ?_)
  refine flightC (fr:=none) st9 ff9 tr9 fun h10 st10 ff10 tr10 up10=>?_
  have fm:=mk _ _ _ { s' with heap:=h6 } h10 e C2 (.ref t) I6 new ⟨st10,nb7,ff10.2.2,tr10.at⟩ ((((Heap.UpToSlots.of_keeps keep).trans up8).trans up9).trans up10)
  exact⟨e,C2,_,_,rfl,hE a Fl.new,fm⟩
 refine thn ((hb EE pass).run pins s σ H D (I.wish EE) h) fun f s1 hsp=>?_
 cases f with
 | next =>
  obtain⟨σ',H',I',q⟩:=hsp
  exact wpAny_execs_nil ⟨σ',H',I'.unwish,q⟩
 | brk =>
  obtain⟨σ',H',I',q⟩:=hsp
  exact⟨σ',H',I'.unwish,q⟩
 | cont =>
  obtain⟨σ',H',I',q⟩:=hsp
  exact⟨σ',H',I'.unwish,q⟩
 | ret u =>
  obtain⟨v,σ',H',I',q⟩:=hsp
  exact⟨v,σ',H',I'.unwish,q⟩
end
end Sw
namespace Sw
open PySem PySem.Spec PyProof.Rows L2
def tTrySet (i:Nat) (sp:Sp) (t:TA) (sub:Addr→Prop) (ts:TS):TS:=fun D σ H=>t σ H fun vs H1=>sp vs H1 (fun v H2=>D.nx (σ.set i (some v)) H2)
 (fun cls _ H2=>∃ C,cls=.ref C∧sub C∧∀ a,H2 a=none→ts { nx:=D.nx,rt:=fun _ _=>False } σ (upd H2 a (XO a C)))
section
variable {X:Cx}
theorem ps_trySet {k i:Nat}{g D0:Addr}{gd:FuncData}{ps:List Str}{sp:Sp}{x xB n:Str}{e:Expr}{es:List Expr}{t:TA}{ts:TS}{b0:Stmt}{suite:List Stmt}{p pos pos' pos2 np hp pos3:Pos}
  (hfr:X.stack=X.env::X.outer) (hf:X.env.frame=some X.env.locals)
  (F:FnOk X.prog X.w X.K X.mg X.base (CXE X.prog X.w) k g gd ps sp) (hr:Room k X.A) (hg:Gl X x) (hm:X.mg x=some (.ref g)) (hk:PySem.W.keepIn X.K (.ref g)=true) (hb:Binds X.K gd ps [])
  (ha:∀ E,PA (X.wish E) (e::es) t)
  (hgB:Gl X xB) (hmB:X.mg xB=some (.ref D0)) (h1:PySem.W.typeIn X.K (.ref D0)=some (.type "type")) (h2:PySem.W.subIn X.K (.ref D0) (.type "BaseException")=some true) (hD:∃ cd,PySem.W.clsIn X.K D0=some cd)
  (hN:X.N.Nodup) (hi:X.N[i]?=some n) (hl:X.env.scope.names.lookup n=some .local)
  (hs:∀ a,PSs (hX X a) (b0::suite) ts)
  (hdb:(x == ("__debug__":Str))=false:=by decide) (hdB:(xB == ("__debug__":Str))=false:=by decide)
  (he:starEach (e::es) X.env=(false,eval e X.env)::starEach es X.env:=by rfl) (hpl:(backTo pos (starEach es X.env)).any (·.1)=false:=by rfl)
  (hsw:swapsWith (.Call (.Name x p) (e::es) [] pos) (some (.Name n pos2)) pos'.line X.env=pure false:=by rfl) :
  PS X (.Try [.Assign [.Name n pos2] (.Call (.Name x p) (e::es) [] pos) pos'] [.ExceptHandler (some (.Name xB np)) none (b0::suite) hp] [] [] pos3)
   (tTrySet i sp t (fun C=>PySem.W.subIn X.K (.ref C) (.ref D0)=some true) ts):=by
 intro pins s σ H D I h
 refine wpAny_Try_except (wpAny_execs_cons (wpAny_Assign_Name (wpAny_Call_Name_kw (ld_glob I hg hm ?_ hdb)) hsw))
 generalize hEE:(fun (ev:Value) (s₁:Shared)=>wpAny (model X.prog X.w) X.A (noteFrame ev X.env) (fun _ s₂=>wpAny (model X.prog X.w) X.A (setFlight ev none) (fun _ s₃=>wpAny (model X.prog X.w) X.A (handleBy ev X.env [.ExceptHandler (some (.Name xB np)) none (b0::suite) hp]) (SP X pins D) X.xe s₃) X.xe s₂) X.xe s₁)=EE
 refine PySem.W.callWith_K (h₀:=X.base) I.ok.mod.kin hk (thn (ha EE pos pins s σ H _ (I.wish EE) h) fun us s1 ⟨vs,H1,I1,r,q⟩=>⟨I1.unwish.kIn,?_⟩) he hpl
 have I1:=I1.unwish
 have hlen:(us++[]).length=ps.length:=by rw [List.append_nil,← r.length]; exact F.len _ _ _ _ q
 have bd:=hb s1 us I1.kIn hlen
 rw [List.append_nil] at bd
 refine wpAny_call (codeAny_mono (F.run X.A X.stack s1 H1 ⟨us,[]⟩ us vs _ _ hr I1.env0 bd r q) fun r s' hq=>?_)
 cases r with
 | ok fl =>
  cases fl with
  | ret u =>
   obtain⟨v,H2,I2,rv,q2⟩:=I1.after hq
   exact store_ok I2 hN hi (.inl hl) rv (fun s2 I3=>wpAny_execs_nil (wpAny_execs_nil ⟨_,H2,I3,q2⟩)) (.inr hl)
  | next=>exact False.elim hq
  | brk=>exact False.elim hq
  | cont=>exact False.elim hq
 | error ev =>
  rw [← hEE]
  obtain⟨a,C,H2,B,rfl,⟨C',eC,hsub,ht⟩,Fl⟩:=hq
  cases eC
  obtain⟨t0,fl⟩:=Fl.fl
  have fl':Heap.FlyingW B (X.env::X.outer) a (.ref C) t0 s'.heap:=hfr ▸ fl
  refine wpAny_looks_onW (by rw [I.ok.frames,hfr]) hf fl' fun h4 held4 up4=>?_
  refine wpAny_landsW held4 fun h5 fl5 up5=>?_
  have fl5':Heap.FlyingW B X.stack a (.ref C) t0 h5:=hfr ▸ fl5
  have I5:=Fl.inv I1 fl5' (up4.trans up5)
  obtain⟨oe,q1,q2⟩:=fl5.there
  refine wpAny_handleBy_cons (codeAny_handlers_test (ld_glob (X:=hX X a) (inv_hx I5 a) hgB hmB ?_ hdB)) (by intro z; cases z)
  refine exc_match I5.kIn q1 q2 h1 h2 hsub hD (codeAny_handlers_suite ?_)
  refine lands_againW fl5 fun h6 fl6 up6=>?_
  have fl6':Heap.FlyingW B X.stack a (.ref C) t0 h6:=hfr ▸ fl6
  have I6:=Fl.inv I1 fl6' (up4.trans (up5.trans up6))
  refine wpAny_mono (hs a pins _ _ _ _ (inv_hx I6 a) (ht a Fl.new)) (fun fw s8 q8=>?_) (fun _ _ z=>z.elim)
  cases fw with
  | next =>
   obtain⟨σ8,H8,I8,q8⟩:=q8
   exact⟨_,_,inv_unhx I.ok I8,q8⟩
  | ret u =>
   obtain⟨_,_,_,_,_,z⟩:=q8
   exact z.elim
  | brk =>
   obtain⟨_,_,_,z⟩:=q8
   exact z.elim
  | cont =>
   obtain⟨_,_,_,z⟩:=q8
   exact z.elim
end
section
variable {X:Cx}
theorem qs_trySet {k i:Nat}{g D0:Addr}{gd:FuncData}{ps:List Str}{sp:Sp}{x xB n:Str}{e:Expr}{es:List Expr}{t:TA}{ts:TS}{b0:Stmt}{suite:List Stmt}{p pos pos' pos2 np hp pos3:Pos}
  (hfr:X.stack=X.env::X.outer) (hf:X.env.frame=some X.env.locals)
  (F:FnOk X.prog X.w X.K X.mg X.base (CXE X.prog X.w) k g gd ps sp) (hr:Room k X.A) (hg:Gl X x) (hm:X.mg x=some (.ref g)) (hk:PySem.W.keepIn X.K (.ref g)=true) (hb:Binds X.K gd ps [])
  (ha:∀ E,QA (X.wish E) (e::es) t)
  (hgB:Gl X xB) (hmB:X.mg xB=some (.ref D0)) (h1:PySem.W.typeIn X.K (.ref D0)=some (.type "type")) (h2:PySem.W.subIn X.K (.ref D0) (.type "BaseException")=some true) (hD:∃ cd,PySem.W.clsIn X.K D0=some cd)
  (hN:X.N.Nodup) (hi:X.N[i]?=some n) (hl:X.env.scope.names.lookup n=some .local)
  (hs:∀ a,QSs (hX X a) (b0::suite) ts)
  (hdb:(x == ("__debug__":Str))=false:=by decide) (hdB:(xB == ("__debug__":Str))=false:=by decide)
  (he:starEach (e::es) X.env=(false,eval e X.env)::starEach es X.env:=by rfl) (hpl:(backTo pos (starEach es X.env)).any (·.1)=false:=by rfl)
  (hsw:swapsWith (.Call (.Name x p) (e::es) [] pos) (some (.Name n pos2)) pos'.line X.env=pure false:=by rfl) :
  QS X (.Try [.Assign [.Name n pos2] (.Call (.Name x p) (e::es) [] pos) pos'] [.ExceptHandler (some (.Name xB np)) none (b0::suite) hp] [] [] pos3)
   (tTrySet i sp t (fun C=>PySem.W.subIn X.K (.ref C) (.ref D0)=some true) ts):=⟨ps_trySet hfr hf F hr hg hm hk hb (fun E=>(ha E).run) hgB hmB h1 h2 hD hN hi hl (fun a=>(hs a).run) hdb hdB he hpl hsw⟩
end
end Sw
namespace Sw
def nP (c:List Nat):List (List Nat)→Nat
 | []=>0
 | p::ps=>(if p=c then 1 else 0)+nP c ps
theorem nP_app (c:List Nat):∀ a b:List (List Nat),nP c (a++b)=nP c a+nP c b
 | [],b=>by rw [List.nil_append,nP]; lia
 | p::a,b=>by rw [List.cons_append,nP,nP,nP_app c a b]; lia
def isN (c p:List Nat):Nat:=if p=c then 1 else 0
theorem marks_ne:nmC 7≠nmC 8∧nmC 7≠[91]∧nmC 7≠[124]∧nmC 7≠[93]∧nmC 8≠[91]∧nmC 8≠[124]∧nmC 8≠[93]∧([91]:List Nat)≠[124]∧([91]:List Nat)≠[93]∧([124]:List Nat)≠[93]∧nmC 7≠[]∧nmC 8≠[]∧yesC≠noC∧yesC≠bodyC∧yesC≠textC∧noC≠bodyC∧noC≠textC∧bodyC≠textC:=by decide
end Sw
namespace Sw
def treeP (l:List Nat):Option T:=match T.rd [[]] l with
 | some [[t]]=>some t
 | _=>none
theorem treeP_of {l:List Nat}{t:T} (h:T.rd [[]] l=some [[t]]):treeP l=some t:=by unfold treeP; rw [h]
theorem treeP_rd {l:List Nat}{t:T} (h:treeP l=some t):T.rd [[]] l=some [[t]]:=by
 unfold treeP at h
 split at h
 ·rename_i u e
  rw [e,Option.some.inj h]
 ·cases h
theorem treeP_wr (t:T):treeP t.wr=some t:=treeP_of (T.rd_whole t)
def sixK (p:List Nat):Nat:=if p=nmC 1 then 1 else if p=nmC 2 then 2 else if p=nmC 3 then 3 else if p=nmC 4 then 4 else if p=nmC 5 then 5 else if p=nmC 6 then 6 else 0
theorem sixK_le (p:List Nat):sixK p≤6:=by unfold sixK; repeat' split <;> try decide
theorem sixK_nm {k:Nat} (h1:1≤k) (h6:k≤6):sixK (nmC k)=k:=by
 have:k=1∨k=2∨k=3∨k=4∨k=5∨k=6:=by lia
 rcases this with rfl | rfl | rfl | rfl | rfl | rfl <;> decide
theorem sixK_of {p:List Nat} (h:sixK p≠0):p=nmC (sixK p):=by
 unfold sixK at h ⊢
 by_cases h1:p=nmC 1
 ·rw [if_pos h1]; exact h1
 by_cases h2:p=nmC 2
 ·rw [if_neg h1,if_pos h2]; exact h2
 by_cases h3:p=nmC 3
 ·rw [if_neg h1,if_neg h2,if_pos h3]; exact h3
 by_cases h4:p=nmC 4
 ·rw [if_neg h1,if_neg h2,if_neg h3,if_pos h4]; exact h4
 by_cases h5:p=nmC 5
 ·rw [if_neg h1,if_neg h2,if_neg h3,if_neg h4,if_pos h5]; exact h5
 by_cases h6:p=nmC 6
 ·rw [if_neg h1,if_neg h2,if_neg h3,if_neg h4,if_neg h5,if_pos h6]; exact h6
 rw [if_neg h1,if_neg h2,if_neg h3,if_neg h4,if_neg h5,if_neg h6] at h
 exact absurd rfl h
theorem six_any (p:List Nat):([1,2,3,4,5,6].any fun k=>decide (nmC k=p))=decide (sixK p≠0):=by
 by_cases h:sixK p≠0
 ·have e:=sixK_of h
  have h6:=sixK_le p
  rw [decide_eq_true h,List.any_eq_true]
  exact⟨sixK p,by have:sixK p=1∨sixK p=2∨sixK p=3∨sixK p=4∨sixK p=5∨sixK p=6:=(by lia);rcases this with z | z | z | z | z | z <;> rw [z] <;> simp,decide_eq_true e.symm⟩
 ·rw [decide_eq_false h,List.any_eq_false]
  intro k hk z
  have e:nmC k=p:=of_decide_eq_true z
  have hk':1≤k∧k≤6:=by simp at hk; lia
  apply h
  rw [← e,sixK_nm hk'.1 hk'.2]
  lia
def wordP (p:List Nat):Option T:=if sixK p≠0 then some (wordT (sixK p) []) else if p.head?=some 39 then (treeP p.tail).map (fun t=>wordT 0 t.kids) else if p.head?=some 33 then (treeP p.tail).bind (fun t=>if oddT t=true then some t else none) else none
theorem six_cons {c:Nat}{l:List Nat} (h:c<97):sixK (c::l)=0:=by
 have h1:=six_no (l:=l) h
 rw [six_any] at h1
 have:=of_decide_eq_false h1
 exact Decidable.not_not.mp this
theorem wordP_lay {l:List Nat}:wordP (39::l)=(treeP l).map (fun t=>wordT 0 t.kids):=by
 unfold wordP
 rw [if_neg (by rw [six_cons (by decide)]; exact fun z=>z rfl),if_pos (show (39::l).head?=some 39 from rfl)]
 rfl
theorem wordP_bang {l:List Nat}:wordP (33::l)=(treeP l).bind (fun t=>if oddT t=true then some t else none):=by
 unfold wordP
 rw [if_neg (by rw [six_cons (by decide)]; exact fun z=>z rfl),if_neg (show ¬ (33::l).head?=some 39 by simp),if_pos (show (33::l).head?=some 33 from rfl)]
 rfl
theorem wordP_plain {p:List Nat} (h:sixK p≠0):wordP p=some (wordT (sixK p) []):=by unfold wordP; rw [if_pos h]
theorem wordP_no {p:List Nat} (h:sixK p=0) (h1:p.head?≠some 39) (h2:p.head?≠some 33):wordP p=none:=by unfold wordP; rw [if_neg (fun z=>z h),if_neg h1,if_neg h2]
theorem one_wordP {w:T}{p:List Nat} (h:One w p):wordP p=some w:=by
 cases h with
 | odd h=>rw [wordP_bang,treeP_wr,Option.bind_some,if_pos h]
 | lay h hs =>
  rw [wordP_lay,treeP_wr,Option.map_some]
  exact congrArg some (lay_of h hs).symm
 | plain h h1 h6 =>
  rw [wordP_plain (by rw [sixK_nm h1 h6]; lia),sixK_nm h1 h6]
  exact congrArg some (plain_of h h1 h6).symm
theorem lay_word (us:List T):oddT (wordT 0 us)=false∧sortT (wordT 0 us)=0∧loadT (wordT 0 us)=.node us:=by
 refine⟨?_,rfl,rfl⟩
 unfold oddT headOdd
 have:T.beq (wordT 0 us) leaf=false:=by
  cases z:T.beq (wordT 0 us) leaf with
  | false=>rfl
  | true=>have:=(T.beq_iff _ _).mp z; cases this
 rw [this]
 rfl
theorem wordP_one {w:T}{p:List Nat} (h:wordP p=some w):One w p:=by
 by_cases h6:sixK p≠0
 ·rw [wordP_plain h6] at h
  have e:=sixK_of h6
  have hle:=sixK_le p
  cases h
  generalize sixK p=k at *
  have hk:k=1∨k=2∨k=3∨k=4∨k=5∨k=6:=by lia
  subst e
  rcases hk with rfl | rfl | rfl | rfl | rfl | rfl
  ·exact One.plain (w:=wordT 1 []) (by decide) (by decide) (by decide)
  ·exact One.plain (w:=wordT 2 []) (by decide) (by decide) (by decide)
  ·exact One.plain (w:=wordT 3 []) (by decide) (by decide) (by decide)
  ·exact One.plain (w:=wordT 4 []) (by decide) (by decide) (by decide)
  ·exact One.plain (w:=wordT 5 []) (by decide) (by decide) (by decide)
  ·exact One.plain (w:=wordT 6 []) (by decide) (by decide) (by decide)
 ·have h0:sixK p=0:=Decidable.not_not.mp h6
  cases p with
  | nil=>rw [wordP_no h0 (by decide) (by decide)] at h; cases h
  | cons c l =>
   by_cases c39:c=39
   ·subst c39
    rw [wordP_lay] at h
    cases ht:treeP l with
    | none=>rw [ht] at h; cases h
    | some t =>
     rw [ht,Option.map_some] at h
     cases h
     have e:=T.rd_wr_eq (treeP_rd ht)
     obtain⟨a1,a2,a3⟩:=lay_word t.kids
     have:=One.lay a1 a2
     rw [a3] at this
     rw [← e]
     have ek:T.node t.kids=t:=by cases t; rfl
     rw [ek] at this
     exact this
   ·by_cases c33:c=33
    ·subst c33
     rw [wordP_bang] at h
     cases ht:treeP l with
     | none=>rw [ht] at h; cases h
     | some t =>
      rw [ht,Option.bind_some] at h
      split at h
      ·rename_i ho
       cases h
       have e:=T.rd_wr_eq (treeP_rd ht)
       rw [← e]
       exact One.odd ho
      ·cases h
    ·rw [wordP_no h0 (by simpa using c39) (by simpa using c33)] at h
     cases h
def addF (w:Option T) (st:List (List T)) (pl:List (List Nat)):Option Rst:=match w,st with
 | some w,s::st=>some ⟨(s++[w])::st,pl,[]⟩
 | _,_=>none
def shutR (st:List (List T)) (pl:List (List Nat)):Option Rst:=match pl,st with
 | c::pl',r::s::st'=>if c=bodyC then some ⟨(s++[loopW r])::st',pl',[]⟩ else if c=noC then (match st' with
   | u::st''=>some ⟨(u++[forkW s r])::st'',pl'.tail,[]⟩
   | []=>none) else none
 | _,_=>none
def stpF (a:Rst) (p:List Nat):Option Rst :=
 if p=[91] then (if a.nm=nmC 7 then some ⟨[]::a.st,yesC::a.pl,[]⟩ else if a.nm=nmC 8 then some ⟨[]::a.st,bodyC::a.pl,[]⟩ else none)
 else if a.nm≠[] then none
 else if p=nmC 7∨p=nmC 8 then some ⟨a.st,a.pl,p⟩
 else if p=[124] then (if a.pl.head?=some yesC then some ⟨[]::a.st,noC::a.pl,[]⟩ else none)
 else if p=[93] then shutR a.st a.pl
 else addF (wordP p) a.st a.pl
inductive Pl:Nat→List (List Nat)→Prop
 | text:Pl 1 [textC]
 | body {n:Nat}{pl:List (List Nat)} (h:Pl n pl):Pl (n+1) (bodyC::pl)
 | yes {n:Nat}{pl:List (List Nat)} (h:Pl n pl):Pl (n+1) (yesC::pl)
 | no {n:Nat}{pl:List (List Nat)} (h:Pl n pl):Pl (n+2) (noC::yesC::pl)
structure WF (a:Rst):Prop where
 pl:Pl a.st.length a.pl
 nm:a.nm=[]∨a.nm=nmC 7∨a.nm=nmC 8
theorem Pl.pos {n:Nat}{pl:List (List Nat)} (h:Pl n pl):1≤n:=by cases h <;> lia
theorem WF.start:WF ⟨[[]],[textC],[]⟩:=⟨.text,.inl rfl⟩
theorem stp_stpF {a b:Rst}{p:List Nat} (h:Stp a p b):stpF a p=some b:=by
 obtain⟨n1,n2,n3,n4,n5,n6,n7,n8,n9,n10,n11,n12,n13,n14,n15,n16,n17,n18⟩:=marks_ne
 cases h with
 | openF=>unfold stpF; rw [if_pos rfl,if_pos rfl]
 | openW=>unfold stpF; rw [if_pos rfl,if_neg (fun z=>n1 z.symm),if_pos rfl]
 | name hk =>
  unfold stpF
  rcases hk with rfl | rfl
  ·rw [if_neg n2,if_neg (fun z=>z rfl),if_pos (.inl rfl)]
  ·rw [if_neg n5,if_neg (fun z=>z rfl),if_pos (.inr rfl)]
 | bar =>
  unfold stpF
  rw [if_neg (Ne.symm n8),if_neg (fun z=>z rfl),if_neg (by rintro (z | z); exact n3 z.symm; exact n6 z.symm),if_pos rfl]
  exact if_pos rfl
 | shutW =>
  unfold stpF
  rw [if_neg (Ne.symm n9),if_neg (fun z=>z rfl),if_neg (by rintro (z | z); exact n4 z.symm; exact n7 z.symm),if_neg (Ne.symm n10),if_pos rfl]
  unfold shutR
  dsimp only
  rw [if_pos rfl]
 | shutF =>
  unfold stpF
  rw [if_neg (Ne.symm n9),if_neg (fun z=>z rfl),if_neg (by rintro (z | z); exact n4 z.symm; exact n7 z.symm),if_neg (Ne.symm n10),if_pos rfl]
  unfold shutR
  dsimp only
  rw [if_neg n16,if_pos rfl]
  rfl
 | word ho =>
  obtain⟨m1,m2,m3,m4,m5⟩:=one_ne ho
  unfold stpF
  rw [if_neg m1,if_neg (fun z=>z rfl),if_neg (by rintro (z | z); exact m2 z; exact m3 z),if_neg m4,if_neg m5,one_wordP ho]
  rfl
theorem stpF_stp {a b:Rst}{p:List Nat} (w:WF a) (h:stpF a p=some b):Stp a p b:=by
 obtain⟨st,pl,nm⟩:=a
 obtain⟨w1,w2⟩:=w
 dsimp only at w1 w2
 unfold stpF at h
 dsimp only at h
 by_cases c1:p=[91]
 ·subst c1
  rw [if_pos rfl] at h
  by_cases d1:nm=nmC 7
  ·subst d1; rw [if_pos rfl] at h; cases h; exact .openF
  ·rw [if_neg d1] at h
   by_cases d2:nm=nmC 8
   ·subst d2; rw [if_pos rfl] at h; cases h; exact .openW
   ·rw [if_neg d2] at h; cases h
 rw [if_neg c1] at h
 by_cases c2:nm≠[]
 ·rw [if_pos c2] at h; cases h
 rw [if_neg c2] at h
 have c2:nm=[]:=Decidable.not_not.mp c2
 subst c2
 by_cases c3:p=nmC 7∨p=nmC 8
 ·rw [if_pos c3] at h
  cases h
  rcases c3 with rfl | rfl
  ·exact .name (.inl rfl)
  ·exact .name (.inr rfl)
 rw [if_neg c3] at h
 by_cases c4:p=[124]
 ·subst c4
  rw [if_pos rfl] at h
  by_cases d:pl.head?=some yesC
  ·rw [if_pos d] at h
   cases h
   cases pl with
   | nil=>cases d
   | cons c pl=>cases d; exact .bar
  ·rw [if_neg d] at h; cases h
 rw [if_neg c4] at h
 by_cases c5:p=[93]
 ·subst c5
  rw [if_pos rfl] at h
  unfold shutR at h
  cases pl with
  | nil=>cases h
  | cons c pl =>
   match st with
   | []=>cases h
   | [_]=>cases h
   | r::s::st =>
    dsimp only at h
    by_cases d1:c=bodyC
    ·subst d1; rw [if_pos rfl] at h; cases h; exact .shutW
    rw [if_neg d1] at h
    by_cases d2:c=noC
    ·subst d2
     rw [if_pos rfl] at h
     cases st with
     | nil=>cases h
     | cons u st =>
      dsimp only at h
      cases h
      have:∃ pl',pl=yesC::pl':=by
       generalize hn:(r::s::u::st).length=n at w1
       generalize hpl:noC::pl=q at w1
       cases w1 with
       | text=>cases hpl
       | body h=>exact absurd (List.cons.inj hpl).1 (by decide)
       | yes h=>exact absurd (List.cons.inj hpl).1 (by decide)
       | @no _ pl' h=>exact⟨pl',(List.cons.inj hpl).2⟩
      obtain⟨pl',rfl⟩:=this
      exact .shutF
    ·rw [if_neg d2] at h; cases h
 rw [if_neg c5] at h
 unfold addF at h
 cases hw:wordP p with
 | none=>rw [hw] at h; cases h
 | some w =>
  rw [hw] at h
  cases st with
  | nil=>cases h
  | cons s st=>cases h; exact .word (wordP_one hw)
theorem WF.step {a b:Rst}{p:List Nat} (w:WF a) (h:Stp a p b):WF b:=by
 obtain⟨w1,w2⟩:=w
 cases h with
 | openF=>exact⟨.yes w1,.inl rfl⟩
 | openW=>exact⟨.body w1,.inl rfl⟩
 | name hk=>exact⟨w1,.inr (by rcases hk with rfl | rfl; exact .inl rfl; exact .inr rfl)⟩
 | @bar st pl =>
  refine⟨?_,.inl rfl⟩
  have w1:Pl st.length (yesC::pl):=w1
  show Pl (st.length+1) (noC::yesC::pl)
  generalize hq:yesC::pl=q at w1
  generalize hn:st.length=n at w1
  cases w1 with
  | text=>exact absurd (List.cons.inj hq).1 (by decide)
  | body h=>exact absurd (List.cons.inj hq).1 (by decide)
  | @yes m pl' h=>exact .no h
  | no h=>exact absurd (List.cons.inj hq).1 (by decide)
 | @shutW r s st pl =>
  refine⟨?_,.inl rfl⟩
  have w1:Pl (st.length+1+1) (bodyC::pl):=w1
  show Pl (st.length+1) pl
  generalize hq:bodyC::pl=q at w1
  generalize hn:st.length+1+1=n at w1
  cases w1 with
  | text=>exact absurd (List.cons.inj hq).1 (by decide)
  | @body m pl' h=>rw [(List.cons.inj hq).2,show st.length+1=m by lia]; exact h
  | yes h=>exact absurd (List.cons.inj hq).1 (by decide)
  | no h=>exact absurd (List.cons.inj hq).1 (by decide)
 | @shutF n y s st pl =>
  refine⟨?_,.inl rfl⟩
  have w1:Pl (st.length+1+1+1) (noC::yesC::pl):=w1
  show Pl (st.length+1) pl
  generalize hq:noC::yesC::pl=q at w1
  generalize hn:st.length+1+1+1=n at w1
  cases w1 with
  | text=>exact absurd (List.cons.inj hq).1 (by decide)
  | body h=>exact absurd (List.cons.inj hq).1 (by decide)
  | yes h=>exact absurd (List.cons.inj hq).1 (by decide)
  | @no m pl' h=>rw [(List.cons.inj (List.cons.inj hq).2).2,show st.length+1=m by lia]; exact h
 | @word w p s st pl ho=>exact⟨w1,.inl rfl⟩
def stF:Rst→List (List Nat)→Option Rst
 | a,[]=>some a
 | a,p::ps=>(stpF a p).bind fun b=>stF b ps
def endF:Option Rst→Option (List T)
 | some ⟨[r],_,[]⟩=>some r
 | _=>none
def readF (ps:List (List Nat)):Option (List T):=endF (stF ⟨[[]],[textC],[]⟩ ps)
theorem stF_app:∀ (ps qs:List (List Nat)) (a:Rst),stF a (ps++qs)=(stF a ps).bind fun b=>stF b qs
 | [],qs,a=>rfl
 | p::ps,qs,a=>by
  rw [List.cons_append,stF,stF]
  cases stpF a p with
  | none=>rfl
  | some b=>rw [Option.bind_some,Option.bind_some]; exact stF_app ps qs b
theorem stF_of {a b:Rst}{ps:List (List Nat)} (h:Stps a ps b):stF a ps=some b:=by
 induction h with
 | nil=>rfl
 | cons h _ ih=>rw [stF,stp_stpF h,Option.bind_some]; exact ih
theorem stF_stps:∀ {ps:List (List Nat)}{a b:Rst},WF a→stF a ps=some b→Stps a ps b∧WF b
 | [],a,b,w,h=>by cases h; exact⟨.nil,w⟩
 | p::ps,a,b,w,h=>by
  rw [stF] at h
  cases hs:stpF a p with
  | none=>rw [hs] at h; cases h
  | some c =>
   rw [hs,Option.bind_some] at h
   have h1:=stpF_stp w hs
   obtain⟨g1,g2⟩:=stF_stps (w.step h1) h
   exact⟨.cons h1 g1,g2⟩
theorem readF_stps {ps:List (List Nat)}{r:List T} (h:readF ps=some r):Stps ⟨[[]],[textC],[]⟩ ps ⟨[r],[textC],[]⟩:=by
 unfold readF at h
 cases hs:stF ⟨[[]],[textC],[]⟩ ps with
 | none=>rw [hs] at h; cases h
 | some b =>
  rw [hs] at h
  obtain⟨g1,g2⟩:=stF_stps WF.start hs
  obtain⟨st,pl,nm⟩:=b
  cases st with
  | nil=>cases h
  | cons r' st =>
   cases st with
   | cons _ _=>cases h
   | nil =>
    cases nm with
    | cons _ _=>cases h
    | nil =>
     have h:some r'=some r:=h
     cases h
     have hp:pl=[textC]:=by
      have w1:Pl 1 pl:=g2.pl
      generalize hn:(1:Nat)=n at w1
      cases w1 with
      | text=>rfl
      | body z=>have:=z.pos; lia
      | yes z=>have:=z.pos; lia
      | no z=>lia
     rw [hp] at g1
     exact g1
theorem readF_ts {ws:List T}{ps:List (List Nat)} (h:Ts ws ps):readF ps=some ws:=by
 unfold readF
 have:=stF_of (ts_stps h [] [] [textC])
 rw [List.nil_append] at this
 rw [this]
 rfl
end Sw
namespace Sw
theorem flat_mem:∀ {st:List (List T)}{r:List T},r∈st→T.partsL r≤T.partsL st.flatten
 | [],_,h=>by cases h
 | s::st,r,h=>by
  rw [List.flatten_cons,T.partsL_append]
  rcases List.mem_cons.mp h with rfl | h
  ·lia
  ·have:=flat_mem h; lia
def FlatQ (f:Nat) (p:List Nat):Prop:=∀ c l t,p=c::l→treeP l=some t→t.deep≤f
theorem FlatQ.mono {f g:Nat}{p:List Nat} (h:FlatQ f p) (hg:f≤g):FlatQ g p:=fun c l t e ht=>Nat.le_trans (h c l t e ht) hg
structure SzI (a:Rst) (n d u:Nat):Prop where
 st:a.st.length≤n
 pl:a.pl.length≤n
 dep:∀ r∈a.st,T.deepL r≤d
 sum:T.partsL a.st.flatten≤u
theorem SzI.sz {a:Rst}{n d u:Nat} (h:SzI a n d u) (hn:n≤100000) (hd:d≤400) (hu:u<100000):Sz a :=
 ⟨Nat.le_trans h.st hn,Nat.le_trans h.pl hn,fun r hr=>⟨by rw [T.deep_node]; exact Nat.le_trans (h.dep r hr) hd,by rw [T.parts_node]; have:=flat_mem hr; have:=h.sum; lia⟩⟩
theorem SzI.startQ (d:Nat):SzI ⟨[[]],[textC],[]⟩ 1 d 0:=⟨Nat.le_refl _,Nat.le_refl _,fun r hr=>by rw [List.mem_singleton.mp hr,T.deepL_nil]; lia,by show T.partsL []≤0; rw [T.partsL_nil]; lia⟩
theorem one_small {w:T}{p:List Nat}{f:Nat} (h:One w p) (hf:FlatQ f p):w.deep≤f+2∧w.parts≤p.length+12:=by
 cases h with
 | odd ho =>
  have h1:=hf 33 w.wr w rfl (treeP_wr w)
  have h2:=T.wr_len w
  exact⟨by lia,by rw [List.length_cons]; lia⟩
 | lay ho hs =>
  have h1:=hf 39 (loadT w).wr (loadT w) rfl (treeP_wr _)
  have h2:=T.wr_len (loadT w)
  have e:=lay_of ho hs
  have e1:w.deep=max 1 (loadT w).deep:=by
   have z:=congrArg T.deep e
   rw [z]
   unfold wordT leavesT
   rw [T.deep_node,T.deepL_cons,List.replicate_zero,T.deep_node,T.deepL_nil,deep_eq (loadT w)]
  have e2:w.parts=1+(loadT w).parts:=by
   have z:=congrArg T.parts e
   rw [z]
   unfold wordT leavesT
   rw [T.parts_node,T.partsL_cons,List.replicate_zero,T.parts_node,T.partsL_nil,T.parts_kids (loadT w)]
  exact⟨by lia,by rw [List.length_cons]; lia⟩
 | plain ho h1 h6 =>
  have e:=plain_of ho h1 h6
  generalize sortT w=k at *
  subst e
  have hk:k=1∨k=2∨k=3∨k=4∨k=5∨k=6:=by lia
  have d:(wordT k []).deep≤2∧(wordT k []).parts≤8:=by rcases hk with rfl | rfl | rfl | rfl | rfl | rfl <;> decide
  exact⟨by lia,by lia⟩
theorem loop_small (r:List T):(loopW r).deep=max 2 (T.deepL r)∧(loopW r).parts=10+T.partsL r:=by
 have e1:(leavesT 8).deep=1:=by decide
 have e2:(leavesT 8).parts=9:=by decide
 unfold loopW
 rw [T.deep_node,T.deepL_cons,T.parts_node,T.partsL_cons,e1,e2]
 lia
theorem fork_small (y n:List T):(forkW y n).deep=max 2 (max (T.deepL y+1) (T.deepL n))∧(forkW y n).parts=10+T.partsL y+T.partsL n:=by
 have e1:(leavesT 7).deep=1:=by decide
 have e2:(leavesT 7).parts=8:=by decide
 unfold forkW
 rw [T.deep_node,T.deepL_cons,T.deepL_cons,T.deep_node,T.parts_node,T.partsL_cons,T.partsL_cons,T.parts_node,e1,e2]
 lia
theorem SzI.stepQ {a b:Rst}{p:List Nat}{n d u f:Nat} (h:SzI a n d u) (hd:f+10≤d) (g:Stp a p b) (hf:FlatQ f p):SzI b (n+1) (d+2 * isN [93] p) (u+(p.length+12)):=by
 obtain⟨h1,h2,h3,h4⟩:=h
 have e93:isN [93] [93]=1:=by decide
 cases g with
 | @openF st pl=>exact⟨by show st.length+1≤_; have h1:st.length≤n:=h1; lia,by show pl.length+1≤_; have h2:pl.length≤n:=h2; lia,fun r hr=>by
   rcases List.mem_cons.mp hr with rfl | hr
   ·rw [T.deepL_nil]; lia
   ·have:=h3 r hr; lia,by show T.partsL ([]::st).flatten≤_; rw [List.flatten_cons,List.nil_append]; have h4:T.partsL st.flatten≤u:=h4; lia⟩
 | @openW st pl=>exact⟨by show st.length+1≤_; have h1:st.length≤n:=h1; lia,by show pl.length+1≤_; have h2:pl.length≤n:=h2; lia,fun r hr=>by
   rcases List.mem_cons.mp hr with rfl | hr
   ·rw [T.deepL_nil]; lia
   ·have:=h3 r hr; lia,by show T.partsL ([]::st).flatten≤_; rw [List.flatten_cons,List.nil_append]; have h4:T.partsL st.flatten≤u:=h4; lia⟩
 | @name st pl k hk=>exact⟨by show st.length≤_; have h1:st.length≤n:=h1; lia,by show pl.length≤_; have h2:pl.length≤n:=h2; lia,fun r hr=>by have:=h3 r hr; lia,by show T.partsL st.flatten≤_; have h4:T.partsL st.flatten≤u:=h4; lia⟩
 | @bar st pl=>exact⟨by show st.length+1≤_; have h1:st.length≤n:=h1; lia,by show pl.length+1+1≤_; have h2:pl.length+1≤n:=h2; lia,fun r hr=>by
   rcases List.mem_cons.mp hr with rfl | hr
   ·rw [T.deepL_nil]; lia
   ·have:=h3 r hr; lia,by show T.partsL ([]::st).flatten≤_; rw [List.flatten_cons,List.nil_append]; have h4:T.partsL st.flatten≤u:=h4; lia⟩
 | @shutW r s st pl =>
  obtain⟨l1,l2⟩:=loop_small r
  have d1:=h3 r List.mem_cons_self
  have d2:=h3 s (List.mem_cons_of_mem _ List.mem_cons_self)
  have h4:T.partsL (r::s::st).flatten≤u:=h4
  rw [List.flatten_cons,List.flatten_cons,T.partsL_append,T.partsL_append] at h4
  refine⟨by show st.length+1≤_; have h1:st.length+1+1≤n:=h1; lia,by show pl.length≤_; have h2:pl.length+1≤n:=h2; lia,fun z hz=>?_,?_⟩
  ·rcases List.mem_cons.mp hz with rfl | hz
   ·rw [T.deepL_append,T.deepL_cons,T.deepL_nil]; lia
   ·have:=h3 z (List.mem_cons_of_mem _ (List.mem_cons_of_mem _ hz)); lia
  ·show T.partsL ((s++[loopW r])::st).flatten≤_
   rw [List.flatten_cons,T.partsL_append,T.partsL_append,T.partsL_cons,T.partsL_nil]
   lia
 | @shutF n' y s st pl =>
  obtain⟨l1,l2⟩:=fork_small y n'
  have d1:=h3 n' List.mem_cons_self
  have d2:=h3 y (List.mem_cons_of_mem _ List.mem_cons_self)
  have d3:=h3 s (List.mem_cons_of_mem _ (List.mem_cons_of_mem _ List.mem_cons_self))
  have h4:T.partsL (n'::y::s::st).flatten≤u:=h4
  rw [List.flatten_cons,List.flatten_cons,List.flatten_cons,T.partsL_append,T.partsL_append,T.partsL_append] at h4
  refine⟨by show st.length+1≤_; have h1:st.length+1+1+1≤n:=h1; lia,by show pl.length≤_; have h2:pl.length+1+1≤n:=h2; lia,fun z hz=>?_,?_⟩
  ·rcases List.mem_cons.mp hz with rfl | hz
   ·rw [T.deepL_append,T.deepL_cons,T.deepL_nil]; lia
   ·have:=h3 z (List.mem_cons_of_mem _ (List.mem_cons_of_mem _ (List.mem_cons_of_mem _ hz))); lia
  ·show T.partsL ((s++[forkW y n'])::st).flatten≤_
   rw [List.flatten_cons,T.partsL_append,T.partsL_append,T.partsL_cons,T.partsL_nil]
   lia
 | @word w p s st pl ho =>
  obtain⟨w1,w2⟩:=one_small ho hf
  have d2:=h3 s List.mem_cons_self
  have h4:T.partsL (s::st).flatten≤u:=h4
  rw [List.flatten_cons,T.partsL_append] at h4
  refine⟨by show st.length+1≤_; have h1:st.length+1≤n:=h1; lia,by show pl.length≤_; have h2:pl.length≤n:=h2; lia,fun z hz=>?_,?_⟩
  ·rcases List.mem_cons.mp hz with rfl | hz
   ·rw [T.deepL_append,T.deepL_cons,T.deepL_nil]; lia
   ·have:=h3 z (List.mem_cons_of_mem _ hz); lia
  ·show T.partsL ((s++[w])::st).flatten≤_
   rw [List.flatten_cons,T.partsL_append,T.partsL_append,T.partsL_cons,T.partsL_nil]
   lia
def lenP:List (List Nat)→Nat
 | []=>0
 | p::ps=>p.length+12+lenP ps
theorem lenP_app:∀ a b:List (List Nat),lenP (a++b)=lenP a+lenP b
 | [],b=>by rw [List.nil_append,lenP]; lia
 | p::a,b=>by rw [List.cons_append,lenP,lenP,lenP_app a b]; lia
theorem lenP_len:∀ ps:List (List Nat),ps.length≤lenP ps
 | []=>Nat.zero_le _
 | p::ps=>by have:=lenP_len ps; rw [List.length_cons,lenP]; lia
end Sw
namespace Sw
theorem one_wr {w:T}{p:List Nat} (h:One w p):Wr w [p]:=by
 cases h with
 | odd h=>exact .odd h
 | lay h hs=>exact .lay h hs
 | plain h h1 h6=>exact .plain h h1 h6
theorem flat_no {f:Nat}{p:List Nat} (h:treeP p.tail=none):FlatQ f p:=fun c l t e ht=>by
 subst e
 rw [show (c::l).tail=l from rfl,ht] at h
 cases h
theorem flat_marks {f:Nat}:FlatQ f (nmC 7)∧FlatQ f (nmC 8)∧FlatQ f [91]∧FlatQ f [124]∧FlatQ f [93]∧FlatQ f []:=by
 refine⟨flat_no (by decide +kernel),flat_no (by decide +kernel),flat_no (by decide +kernel),flat_no (by decide +kernel),flat_no (by decide +kernel),flat_no (by decide +kernel)⟩
theorem flat_one {w:T}{p:List Nat} (h:One w p) (hb:B 30 200 w):FlatQ 30 p∧p.length≤401:=by
 obtain⟨h1,h2⟩:=hb
 cases h with
 | odd h =>
  refine⟨fun c l t e ht=>?_,by rw [List.length_cons,T.wr_len]; lia⟩
  cases e
  rw [treeP_wr] at ht
  cases ht
  lia
 | lay h hs =>
  have hd:=load_deep w
  have hp:(loadT w).parts≤w.parts:=by have:=load_lt w; have:=T.parts_kids (loadT w); lia
  refine⟨fun c l t e ht=>?_,by rw [List.length_cons,T.wr_len]; lia⟩
  cases e
  rw [treeP_wr] at ht
  cases ht
  lia
 | plain h h3 h6 =>
  generalize sortT w=k at *
  have hk:k=1∨k=2∨k=3∨k=4∨k=5∨k=6:=by lia
  refine⟨?_,by have:=nm_len k; lia⟩
  rcases hk with rfl | rfl | rfl | rfl | rfl | rfl <;> exact flat_no (by decide +kernel)
theorem ts_app:∀ {as bs:List T}{ps qs:List (List Nat)},Ts as ps→Ts bs qs→Ts (as++bs) (ps++qs)
 | _,_,_,_,.nil,g=>g
 | _,_,_,_,.cons h g',g=>by rw [List.cons_append,List.append_assoc]; exact .cons h (ts_app g' g)
theorem ts_split:∀ {as bs:List T}{ps:List (List Nat)},Ts (as++bs) ps→∃ pa pb,ps=pa++pb∧Ts as pa∧Ts bs pb
 | [],bs,ps,h=>⟨[],ps,rfl,.nil,h⟩
 | a::as,bs,ps,h=>by
  cases h with
  | cons h1 h2 =>
   obtain⟨pa,pb,e,g1,g2⟩:=ts_split h2
   exact⟨_++pa,pb,by rw [e,List.append_assoc],.cons h1 g1,g2⟩
def Dn (ws:List T) (n:Nat):Prop:=∃ ps,Ts ws ps∧(∀ p∈ps,FlatQ 30 p)∧nP [93] ps≤n∧lenP ps≤420 * n
def Br (ws:List T) (t:T):Prop:=∀ ps,Ts ws ps→∃ qs,Wr t qs∧nP [93] qs=nP [93] ps+1∧lenP qs≤lenP ps+60∧∀ p∈qs,p∈ps∨FlatQ 30 p
theorem Dn.nil:Dn [] 0:=⟨[],.nil,(fun p hp=>by cases hp),Nat.le_refl _,Nat.le_refl _⟩
theorem Dn.one {ws:List T}{n:Nat}{w:T}{p:List Nat} (h:Dn ws n) (ho:One w p) (hb:B 30 200 w):Dn (ws++[w]) (n+1):=by
 obtain⟨ps,h1,h2,h3,h4⟩:=h
 obtain⟨f1,f2⟩:=flat_one ho hb
 obtain⟨_,_,_,_,n5⟩:=one_ne ho
 refine⟨ps++[p],ts_app h1 (ts_one (one_wr ho)),fun q hq=>?_,?_,?_⟩
 ·rcases List.mem_append.mp hq with z | z
  ·exact h2 q z
  ·rw [List.mem_singleton.mp z]; exact f1
 ·rw [nP_app,nP,nP,if_neg n5]; lia
 ·rw [lenP_app,lenP,lenP]; lia
theorem Dn.br {as bs:List T}{n:Nat}{t:T} (h:Dn (as++bs) n) (g:Br bs t):Dn (as++[t]) (n+1):=by
 obtain⟨ps,h1,h2,h3,h4⟩:=h
 obtain⟨pa,pb,rfl,g1,g2⟩:=ts_split h1
 obtain⟨qs,k1,k2,k3,k4⟩:=g pb g2
 rw [nP_app] at h3
 rw [lenP_app] at h4
 refine⟨pa++qs,ts_app g1 (ts_one k1),fun q hq=>?_,?_,?_⟩
 ·rcases List.mem_append.mp hq with z | z
  ·exact h2 q (List.mem_append.mpr (.inl z))
  ·rcases k4 q z with y | y
   ·exact h2 q (List.mem_append.mpr (.inr y))
   ·exact y
 ·rw [nP_app]; lia
 ·rw [lenP_app]; lia
theorem br_loop {ws:List T}:Br ws (loopW ws):=fun ps h=>by
 obtain⟨f7,f8,f1,f2,f3,_⟩:=flat_marks (f:=30)
 refine⟨[nmC 8,[91]]++ps++[[93]],wr_loopW h,?_,?_,fun p hp=>?_⟩
 ·rw [nP_app,nP_app]
  have e1:nP [93] [nmC 8,[91]]=0:=by decide
  have e2:nP [93] [[93]]=1:=by decide
  lia
 ·rw [lenP_app,lenP_app]
  have e1:lenP [nmC 8,[91]]=30:=by decide
  have e2:lenP [[93]]=13:=by decide
  lia
 ·rcases List.mem_append.mp hp with z | z
  ·rcases List.mem_append.mp z with z | z
   ·right
    rcases List.mem_cons.mp z with rfl | z
    ·exact f8
    ·rw [List.mem_singleton.mp z]; exact f1
   ·exact .inl z
  ·rw [List.mem_singleton.mp z]; exact .inr f3
theorem br_fork {ws:List T} (k:Nat):Br ws (forkW (ws.take k) (ws.drop k)):=fun ps h=>by
 obtain⟨f7,f8,f1,f2,f3,_⟩:=flat_marks (f:=30)
 rw [← List.take_append_drop k ws] at h
 obtain⟨pa,pb,rfl,g1,g2⟩:=ts_split h
 refine⟨[nmC 7,[91]]++pa++[[124]]++pb++[[93]],wr_forkW g1 g2,?_,?_,fun p hp=>?_⟩
 ·rw [nP_app,nP_app,nP_app,nP_app,nP_app]
  have e1:nP [93] [nmC 7,[91]]=0:=by decide
  have e2:nP [93] [[93]]=1:=by decide
  have e3:nP [93] [[124]]=0:=by decide
  lia
 ·rw [lenP_app,lenP_app,lenP_app,lenP_app,lenP_app]
  have e1:lenP [nmC 7,[91]]=29:=by decide
  have e2:lenP [[93]]=13:=by decide
  have e3:lenP [[124]]=13:=by decide
  lia
 ·rcases List.mem_append.mp hp with z | z
  ·rcases List.mem_append.mp z with z | z
   ·rcases List.mem_append.mp z with z | z
    ·rcases List.mem_append.mp z with z | z
     ·right
      rcases List.mem_cons.mp z with rfl | z
      ·exact f7
      ·rw [List.mem_singleton.mp z]; exact f1
     ·exact .inl (List.mem_append.mpr (.inl z))
    ·rw [List.mem_singleton.mp z]; exact .inr f2
   ·exact .inl (List.mem_append.mpr (.inr z))
  ·rw [List.mem_singleton.mp z]; exact .inr f3
theorem small_one {w:T}{ps:List (List Nat)} (h:Wr w ps) (hp:w.parts≤9):∃ p,One w p:=by
 cases h with
 | odd h=>exact⟨_,.odd h⟩
 | lay h hs=>exact⟨_,.lay h hs⟩
 | plain h h1 h6=>exact⟨_,.plain h h1 h6⟩
 | fork h hs hy hn =>
  have e:=fork_of h hs
  have:=(fork_small (ats (loadT w).kids 0).kids (loadT (loadT w)).kids).2
  rw [← e] at this
  lia
 | loop h hs hb =>
  have e:=loop_of h hs
  have:=(loop_small (loadT w).kids).2
  rw [← e] at this
  lia
mutual
theorem wr_fun:∀ {w:T}{ps:List (List Nat)},Wr w ps→∀ {qs:List (List Nat)},Wr w qs→ps=qs
 | _,_,.odd h,_,g=>by
  cases g with
  | odd _=>rfl
  | lay z _=>rw [h] at z; cases z
  | plain z _ _=>rw [h] at z; cases z
  | fork z _ _ _=>rw [h] at z; cases z
  | loop z _ _=>rw [h] at z; cases z
 | _,_,.lay h hs,_,g=>by
  cases g with
  | odd z=>rw [h] at z; cases z
  | lay _ _=>rfl
  | plain _ z1 _=>lia
  | fork _ z _ _=>lia
  | loop _ z _=>lia
 | _,_,.plain h h1 h6,_,g=>by
  cases g with
  | odd z=>rw [h] at z; cases z
  | lay _ z=>lia
  | plain _ _ _=>rfl
  | fork _ z _ _=>lia
  | loop _ z _=>lia
 | _,_,.fork h hs hy hn,_,g=>by
  cases g with
  | odd z=>rw [h] at z; cases z
  | lay _ z=>lia
  | plain _ _ z=>lia
  | fork _ _ gy gn=>rw [ts_fun hy gy,ts_fun hn gn]
  | loop _ z _=>lia
 | _,_,.loop h hs hb,_,g=>by
  cases g with
  | odd z=>rw [h] at z; cases z
  | lay _ z=>lia
  | plain _ _ z=>lia
  | fork _ z _ _=>lia
  | loop _ _ gb=>rw [ts_fun hb gb]
theorem ts_fun:∀ {ws:List T}{ps:List (List Nat)},Ts ws ps→∀ {qs:List (List Nat)},Ts ws qs→ps=qs
 | _,_,.nil,_,g=>by cases g; rfl
 | _,_,.cons h h',_,g=>by
  cases g with
  | cons g1 g2=>rw [wr_fun h g1,ts_fun h' g2]
end
end Sw
namespace Sw
theorem Dn.mono {ws:List T}{n m:Nat} (h:Dn ws n) (hm:n≤m):Dn ws m:=by
 obtain⟨ps,h1,h2,h3,h4⟩:=h
 exact⟨ps,h1,h2,by lia,by lia⟩
theorem lay_one (t:T):One (wordT 0 t.kids) (39::t.wr):=wordP_one (by rw [wordP_lay,treeP_wr]; rfl)
end Sw
namespace Sw
end Sw
namespace Sw
inductive WS:List (List T)→List (List Nat)→List (List Nat)→Prop
 | text {r:List T}{ps:List (List Nat)} (h:Ts r ps):WS [r] [textC] ps
 | yes {y:List T}{st:List (List T)}{pl ps qs:List (List Nat)} (g:WS st pl ps) (h:Ts y qs):WS (y::st) (yesC::pl) (ps++([nmC 7,[91]]++qs))
 | no {n y:List T}{st:List (List T)}{pl ps qs rs:List (List Nat)} (g:WS st pl ps) (h:Ts y qs) (h':Ts n rs):WS (n::y::st) (noC::yesC::pl) (ps++([nmC 7,[91]]++qs++[[124]]++rs))
 | body {r:List T}{st:List (List T)}{pl ps qs:List (List Nat)} (g:WS st pl ps) (h:Ts r qs):WS (r::st) (bodyC::pl) (ps++([nmC 8,[91]]++qs))
theorem ts_snoc {ws:List T}{w:T}{ps qs:List (List Nat)} (h:Ts ws ps) (g:Wr w qs):Ts (ws++[w]) (ps++qs):=ts_app h (ts_one g)
theorem WS.add {s:List T}{st:List (List T)}{pl ps:List (List Nat)}{w:T}{qs:List (List Nat)} (h:WS (s::st) pl ps) (g:Wr w qs):WS ((s++[w])::st) pl (ps++qs):=by
 cases h with
 | text h=>exact .text (ts_snoc h g)
 | yes k h =>
  have:=WS.yes k (ts_snoc h g)
  simpa only [List.append_assoc] using this
 | no k h h' =>
  have:=WS.no k h (ts_snoc h' g)
  simpa only [List.append_assoc] using this
 | body k h =>
  have:=WS.body k (ts_snoc h g)
  simpa only [List.append_assoc] using this
def nmP (nm:List Nat):List (List Nat):=if nm=[] then [] else [nm]
theorem WS.inv_body {r:List T}{st:List (List T)}{pl ps:List (List Nat)} (h:WS (r::st) (bodyC::pl) ps):∃ ps0 qs,ps=ps0++([nmC 8,[91]]++qs)∧WS st pl ps0∧Ts r qs:=by
 generalize hq:bodyC::pl=q at h
 generalize hr:r::st=z at h
 cases h with
 | text h=>exact absurd (List.cons.inj hq).1 (by decide)
 | yes k h=>exact absurd (List.cons.inj hq).1 (by decide)
 | no k h h'=>exact absurd (List.cons.inj hq).1 (by decide)
 | body k h =>
  obtain⟨rfl,rfl⟩:=List.cons.inj hr
  obtain⟨_,rfl⟩:=List.cons.inj hq
  exact⟨_,_,rfl,k,h⟩
theorem WS.inv_yes {y:List T}{st:List (List T)}{pl ps:List (List Nat)} (h:WS (y::st) (yesC::pl) ps):∃ ps0 qs,ps=ps0++([nmC 7,[91]]++qs)∧WS st pl ps0∧Ts y qs:=by
 generalize hq:yesC::pl=q at h
 generalize hr:y::st=z at h
 cases h with
 | text h=>exact absurd (List.cons.inj hq).1 (by decide)
 | body k h=>exact absurd (List.cons.inj hq).1 (by decide)
 | no k h h'=>exact absurd (List.cons.inj hq).1 (by decide)
 | yes k h =>
  obtain⟨rfl,rfl⟩:=List.cons.inj hr
  obtain⟨_,rfl⟩:=List.cons.inj hq
  exact⟨_,_,rfl,k,h⟩
theorem WS.inv_no {n y:List T}{st:List (List T)}{pl ps:List (List Nat)} (h:WS (n::y::st) (noC::yesC::pl) ps):∃ ps0 qs rs,ps=ps0++([nmC 7,[91]]++qs++[[124]]++rs)∧WS st pl ps0∧Ts y qs∧Ts n rs:=by
 generalize hq:noC::yesC::pl=q at h
 generalize hr:n::y::st=z at h
 cases h with
 | text h=>exact absurd (List.cons.inj hq).1 (by decide)
 | body k h=>exact absurd (List.cons.inj hq).1 (by decide)
 | yes k h=>exact absurd (List.cons.inj hq).1 (by decide)
 | no k h h' =>
  have a1:=(List.cons.inj hr).1
  have a2:=(List.cons.inj (List.cons.inj hr).2).1
  have a3:=(List.cons.inj (List.cons.inj hr).2).2
  have a4:=(List.cons.inj (List.cons.inj hq).2).2
  rw [a1,a2,a3,a4]
  exact⟨_,_,_,rfl,k,h,h'⟩
theorem WS.step {a b:Rst}{p:List Nat}{ps:List (List Nat)} (h:WS a.st a.pl ps) (g:Stp a p b):∃ qs,WS b.st b.pl qs∧qs++nmP b.nm=ps++nmP a.nm++[p]:=by
 have e0:nmP []=[]:=rfl
 have e7:nmP (nmC 7)=[nmC 7]:=by decide
 have e8:nmP (nmC 8)=[nmC 8]:=by decide
 cases g with
 | openF=>exact⟨_,.yes h .nil,by dsimp only; rw [e0,e7]; simp⟩
 | openW=>exact⟨_,.body h .nil,by dsimp only; rw [e0,e8]; simp⟩
 | name hk =>
  refine⟨ps,h,?_⟩
  dsimp only
  rcases hk with rfl | rfl
  ·rw [e0,e7,List.append_nil]
  ·rw [e0,e8,List.append_nil]
 | @bar st pl =>
  cases st with
  | nil=>cases h
  | cons y st =>
   obtain⟨ps0,qs,rfl,k1,k2⟩:=WS.inv_yes h
   exact⟨_,.no k1 k2 .nil,by dsimp only; rw [e0]; simp⟩
 | @shutW r s st pl =>
  obtain⟨ps0,qs,rfl,k1,k2⟩:=WS.inv_body h
  exact⟨_,k1.add (wr_loopW k2),by dsimp only; rw [e0]; simp⟩
 | @shutF n y s st pl =>
  obtain⟨ps0,qs,rs,rfl,k1,k2,k3⟩:=WS.inv_no h
  exact⟨_,k1.add (wr_forkW k2 k3),by dsimp only; rw [e0]; simp⟩
 | @word w p s st pl ho=>exact⟨_,WS.add h (one_wr ho),by dsimp only; rw [e0]; simp⟩
theorem WS.steps {a b:Rst}{qs:List (List Nat)} (g:Stps a qs b):∀ {ps:List (List Nat)},WS a.st a.pl ps→∃ rs,WS b.st b.pl rs∧rs++nmP b.nm=ps++nmP a.nm++qs:=by
 induction g with
 | nil=>intro ps h; exact⟨ps,h,by rw [List.append_nil]⟩
 | @cons a b c p ps' h g ih =>
  intro ps hw
  obtain⟨rs,h1,h2⟩:=WS.step hw h
  obtain⟨ss,h3,h4⟩:=ih h1
  exact⟨ss,h3,by rw [h4,h2,List.append_assoc]; rfl⟩
theorem readF_back {ps:List (List Nat)}{ws:List T} (h:readF ps=some ws):Ts ws ps:=by
 obtain⟨rs,h1,h2⟩:=WS.steps (readF_stps h) (ps:=[]) (.text .nil)
 have e0:nmP []=[]:=rfl
 dsimp only at h1 h2
 rw [e0] at h2
 have h2:rs=ps:=by simpa using h2
 subst h2
 cases h1 with
 | text h=>exact h
end Sw
namespace Sw
def nxP (r c:Nat):Nat:=if c=40 then r+1 else if c=41 then r - 1 else 0
def finP:Nat→List Nat→Nat
 | r,[]=>r
 | r,c::l=>finP (nxP r c) l
def pkP:Nat→List Nat→Nat
 | r,[]=>r
 | r,c::l=>max r (pkP (nxP r c) l)
theorem nxP_mono {r s:Nat} (c:Nat) (h:r≤s):nxP r c≤nxP s c:=by unfold nxP; split <;> (try split) <;> lia
theorem nxP_sub (r s c:Nat):nxP (r+s) c≤r+nxP s c:=by unfold nxP; split <;> (try split) <;> lia
theorem pk_mono:∀ (l:List Nat) {r s:Nat},r≤s→pkP r l≤pkP s l
 | [],_,_,h=>h
 | c::l,r,s,h=>by have:=pk_mono l (nxP_mono c h); rw [pkP,pkP]; lia
theorem pk_sub:∀ (l:List Nat) (r s:Nat),pkP (r+s) l≤r+pkP s l
 | [],r,s=>Nat.le_refl _
 | c::l,r,s=>by
  have h1:=pk_mono l (nxP_sub r s c)
  have h2:=pk_sub l r (nxP s c)
  rw [pkP,pkP]
  lia
theorem pk_ge:∀ (l:List Nat) (r:Nat),r≤pkP r l
 | [],r=>Nat.le_refl _
 | c::l,r=>by rw [pkP]; lia
theorem fin_pk:∀ (l:List Nat) (r:Nat),finP r l≤pkP r l
 | [],r=>Nat.le_refl _
 | c::l,r=>by have:=fin_pk l (nxP r c); rw [finP,pkP]; lia
theorem fin_app:∀ (a b:List Nat) (r:Nat),finP r (a++b)=finP (finP r a) b
 | [],b,r=>rfl
 | c::a,b,r=>by rw [List.cons_append,finP,finP,fin_app a b]
theorem pk_app:∀ (a b:List Nat) (r:Nat),pkP r (a++b)=max (pkP r a) (pkP (finP r a) b)
 | [],b,r=>by have:=pk_ge b r; rw [List.nil_append,pkP,finP]; lia
 | c::a,b,r=>by rw [List.cons_append,pkP,pkP,finP,pk_app a b]; lia
theorem pk_add (a b:List Nat):pkP 0 (a++b)≤pkP 0 a+pkP 0 b:=by
 have h1:=fin_pk a 0
 have h2:=pk_sub b (finP 0 a) 0
 rw [pk_app]
 rw [Nat.add_zero] at h2
 lia
theorem pk_left (a b:List Nat):pkP 0 a≤pkP 0 (a++b):=by rw [pk_app]; lia
theorem pk_right (a b:List Nat):pkP 0 b≤pkP 0 (a++b):=by have:=pk_mono b (Nat.zero_le (finP 0 a)); rw [pk_app]; lia
theorem pk_cnt:∀ (l:List Nat) (r:Nat),pkP r l≤r+l.count 40
 | [],r=>by rw [pkP]; lia
 | c::l,r=>by
  have h:=pk_cnt l (nxP r c)
  rw [pkP,List.count_cons]
  unfold nxP at h ⊢
  by_cases h1:c=40
  ·subst h1
   rw [if_pos rfl] at h ⊢
   rw [if_pos (by decide)]
   lia
  ·rw [if_neg h1] at h ⊢
   split at h
   ·rename_i h2; rw [if_pos h2]; lia
   ·rename_i h2; rw [if_neg h2]; lia
theorem pk_len (l:List Nat):pkP 0 l≤l.length:=by have:=pk_cnt l 0; have:=List.count_le_length (a:=40) (l:=l); lia
mutual
theorem wr_pk:∀ (t:T) (r:Nat),finP r t.wr=r∧pkP r t.wr=r+1+t.deep
 | .node ts,r=>by
  obtain⟨h1,h2⟩:=wrL_pk ts (r+1)
  have e1:nxP r 40=r+1:=rfl
  have e2:nxP (r+1) 41=r:=by unfold nxP; rw [if_neg (by decide),if_pos rfl]; lia
  rw [T.wr_node,T.deep_node,finP,pkP,e1,fin_app,pk_app,h1,h2,finP,pkP,e2,finP,pkP]
  exact⟨rfl,by lia⟩
theorem wrL_pk:∀ (ts:List T) (r:Nat),finP r (T.wrL ts)=r∧pkP r (T.wrL ts)=r+T.deepL ts
 | [],r=>by rw [T.wrL_nil,T.deepL_nil,finP,pkP]; exact⟨rfl,rfl⟩
 | t::ts,r=>by
  obtain⟨h1,h2⟩:=wr_pk t r
  obtain⟨h3,h4⟩:=wrL_pk ts r
  rw [T.wrL_cons,T.deepL_cons,fin_app,pk_app,h1,h2,h3,h4]
  exact⟨rfl,by lia⟩
end
theorem flat_pk {f:Nat}{p:List Nat} (h:pkP 0 p≤f+1):FlatQ f p:=fun c l t e ht=>by
 subst e
 have e:=T.rd_wr_eq (treeP_rd ht)
 have h1:=(wr_pk t 0).2
 rw [e] at h1
 have h2:=pk_mono l (Nat.zero_le (nxP 0 c))
 rw [pkP] at h
 lia
mutual
theorem wr_only:∀ (t:T) (c:Nat),c∈t.wr→c=40∨c=41
 | .node ts,c,h=>by
  rw [T.wr_node] at h
  rcases List.mem_cons.mp h with z | z
  ·exact .inl z
  ·rcases List.mem_append.mp z with z | z
   ·exact wrL_only ts c z
   ·exact .inr (List.mem_singleton.mp z)
theorem wrL_only:∀ (ts:List T) (c:Nat),c∈T.wrL ts→c=40∨c=41
 | [],c,h=>by rw [T.wrL_nil] at h; cases h
 | t::ts,c,h=>by
  rw [T.wrL_cons] at h
  rcases List.mem_append.mp h with z | z
  ·exact wr_only t c z
  ·exact wrL_only ts c z
end
theorem wr_cnt (t:T) {c:Nat} (h1:c≠40) (h2:c≠41):t.wr.count c=0:=List.count_eq_zero.mpr fun z=>by rcases wr_only t c z with e | e; exact h1 e; exact h2 e
def splB:List Nat→List (List Nat)
 | []=>[[]]
 | c::l=>if c=32 then []::splB l else match splB l with
  | []=>[[c]]
  | p::ps=>(c::p)::ps
theorem splB_ne:∀ l:List Nat,splB l≠[]
 | []=>by rw [splB]; simp
 | c::l=>by
  rw [splB]
  split
  ·simp
  ·split <;> simp
theorem splB_join:∀ l:List Nat,joinL [32] (splB l)=l
 | []=>rfl
 | c::l=>by
  have ih:=splB_join l
  have hn:=splB_ne l
  rw [splB]
  split
  ·rename_i e
   rw [joinL_cons _ _ hn,ih,e]
   rfl
  ·split
   ·rename_i e
    exact absurd e hn
   ·rename_i p ps e
    rw [e] at ih
    cases ps with
    | nil=>rw [← ih]; rfl
    | cons q ps =>
     rw [joinL_cons _ _ (by simp)] at ih ⊢
     rw [← ih]
     rfl
theorem splB_no:∀ l:List Nat,∀ p∈splB l,32 ∉ p
 | [],p,h=>by
  rw [splB] at h
  rw [List.mem_singleton.mp h]
  simp
 | c::l,p,h=>by
  have ih:=splB_no l
  rw [splB] at h
  split at h
  ·rcases List.mem_cons.mp h with z | z
   ·rw [z]; simp
   ·exact ih p z
  ·rename_i hc
   split at h
   ·rw [List.mem_singleton.mp h]
    simp
    exact fun z=>hc z.symm
   ·rename_i q qs e
    rcases List.mem_cons.mp h with z | z
    ·rw [z]
     intro y
     rcases List.mem_cons.mp y with y | y
     ·exact hc y.symm
     ·exact ih q (by rw [e]; exact List.mem_cons_self) y
    ·exact ih p (by rw [e]; exact List.mem_cons_of_mem _ z)
theorem join_cons2 (p q:List Nat) (ps:List (List Nat)):joinL [32] (p::q::ps)=p++32::joinL [32] (q::ps):=by rw [joinL_cons _ _ (by simp)]; simp
theorem lenP_join:∀ {ps:List (List Nat)},ps≠[]→(∀ p∈ps,32 ∉ p)→lenP ps=(joinL [32] ps).length+11 * (joinL [32] ps).count 32+12
 | [],h,_=>absurd rfl h
 | [p],_,h=>by
  have e:p.count 32=0:=List.count_eq_zero.mpr (h p List.mem_cons_self)
  rw [lenP,lenP,joinL_one,e]
 | p::q::ps,_,h=>by
  have e:p.count 32=0:=List.count_eq_zero.mpr (h p List.mem_cons_self)
  have ih:=lenP_join (ps:=q::ps) (by simp) (fun r hr=>h r (List.mem_cons_of_mem _ hr))
  rw [lenP,ih,join_cons2,List.length_append,List.length_cons,List.count_append,e,List.count_cons,if_pos (by decide)]
  lia
theorem join_mem:∀ {ps:List (List Nat)}{p:List Nat},p∈ps→∃ a b,joinL [32] ps=a++p++b
 | [q],p,h=>by rw [List.mem_singleton.mp h]; exact⟨[],[],by simp [joinL_one]⟩
 | q::r::ps,p,h=>by
  rcases List.mem_cons.mp h with z | z
  ·subst z; exact⟨[],32::joinL [32] (r::ps),by rw [join_cons2]; simp⟩
  ·obtain⟨a,b,e⟩:=join_mem z
   exact⟨q++32::a,b,by rw [join_cons2,e]; simp⟩
theorem cnt_sep {c:Nat} (h:c≠32) (p J:List Nat):(p++32::J).count c=p.count c+J.count c:=by
 rw [List.count_append,List.count_cons,if_neg (by simpa using fun z=>h z.symm)]
 rfl
theorem nP_cnt:∀ ps:List (List Nat),nP [93] ps≤(joinL [32] ps).count 93
 | []=>Nat.zero_le _
 | [p]=>by
  rw [nP,nP,joinL_one]
  split
  ·rename_i e; rw [e]; decide
  ·lia
 | p::q::ps=>by
  have ih:=nP_cnt (q::ps)
  rw [nP,join_cons2,cnt_sep (by decide)]
  split
  ·rename_i e; rw [e]; have:([93]:List Nat).count 93=1:=rfl; lia
  ·lia
theorem nP_any:∀ {ps:List (List Nat)},ps≠[]→(joinL [32] ps).count 40+2 * nP [93] ps≤(joinL [32] ps).length+1
 | [],h=>absurd rfl h
 | [p],_=>by
  rw [nP,nP,joinL_one]
  have:=List.count_le_length (a:=40) (l:=p)
  split
  ·rename_i e; rw [e]; decide
  ·lia
 | p::q::ps,_=>by
  have ih:=nP_any (ps:=q::ps) (by simp)
  have:=List.count_le_length (a:=40) (l:=p)
  rw [nP,join_cons2,cnt_sep (by decide),List.length_append,List.length_cons]
  split
  ·rename_i e
   rw [e]
   have h1:([93]:List Nat).count 40=0:=rfl
   have h2:([93]:List Nat).length=1:=rfl
   lia
  ·lia
def RowQ (ps:List (List Nat)):Prop:=lenP ps≤90000∧∃ f,(∀ p∈ps,FlatQ f p)∧f+12+2 * nP [93] ps≤400
def RowZ (ps:List (List Nat)):Prop:=(∀ p∈ps,32 ∉ p)∧(ps=[]∨joinL [32] ps≠[])
def StrOk (X:List Nat):Prop:=∃ ps,joinL [32] ps=X∧RowZ ps∧RowQ ps
theorem strOk_of {X:List Nat}{f:Nat} (h1:X.length+11 * X.count 32+12≤90000) (h2:pkP 0 X≤f+1) (h3:∀ ps,ps≠[]→joinL [32] ps=X→f+12+2 * nP [93] ps≤400):StrOk X:=by
 by_cases h0:X=[]
 ·subst h0
  exact⟨[],rfl,⟨(fun p hp=>by cases hp),.inl rfl⟩,by decide,0,(fun p hp=>by cases hp),by decide⟩
 ·have hn:=splB_ne X
  have hj:=splB_join X
  have hb:=splB_no X
  have hl:=lenP_join hn hb
  rw [hj] at hl
  refine⟨splB X,hj,⟨hb,.inr (by rw [hj]; exact h0)⟩,by lia,f,fun p hp=>flat_pk ?_,h3 _ hn hj⟩
  obtain⟨a,b,e⟩:=join_mem hp
  rw [hj] at e
  have g1:=pk_left (a++p) b
  have g2:=pk_right a p
  rw [← e] at g1
  lia
theorem strOk_cnt {X:List Nat}{f:Nat} (h1:X.length+11 * X.count 32+12≤90000) (h2:pkP 0 X≤f+1) (h3:f+12+2 * X.count 93≤400):StrOk X :=
 strOk_of h1 h2 fun ps _ e=>by have:=nP_cnt ps; rw [e] at this; lia
theorem strOk_any {X:List Nat} (h:X.length≤300):StrOk X:=by
 have hc:=List.count_le_length (a:=32) (l:=X)
 have hp:=pk_cnt X 0
 exact strOk_of (f:=X.count 40) (by lia) (by lia) fun ps hn e=>by have:=nP_any hn; rw [e] at this; lia
theorem ts_all_of {n:Nat} (h:∀ w:T,w.parts≤n→∃ ps,Wr w ps):∀ ws:List T,T.partsL ws≤n→∃ ps,Ts ws ps
 | [],_=>⟨[],.nil⟩
 | w::ws,hn=>by
  rw [T.partsL_cons] at hn
  obtain⟨ps,h1⟩:=h w (by lia)
  obtain⟨qs,h2⟩:=ts_all_of h ws (by lia)
  exact⟨_,.cons h1 h2⟩
theorem wr_all:∀ (n:Nat) (w:T),w.parts≤n→∃ ps,Wr w ps
 | 0,w,h=>by have:=T.parts_pos w; lia
 | n+1,w,h=>by
  have ih:=ts_all_of (wr_all n)
  have h1:=load_lt w
  have h2:=two_lt (loadT w)
  cases ho:oddT w with
  | true=>exact⟨_,.odd ho⟩
  | false =>
   have h8:=odd_sort ho
   by_cases e0:sortT w=0
   ·exact⟨_,.lay ho e0⟩
   by_cases e7:sortT w=7
   ·obtain⟨ps,hy⟩:=ih (ats (loadT w).kids 0).kids (by lia)
    obtain⟨qs,hq⟩:=ih (loadT (loadT w)).kids (by lia)
    exact⟨_,.fork ho e7 hy hq⟩
   by_cases e8:sortT w=8
   ·obtain⟨ps,hb⟩:=ih (loadT w).kids (by lia)
    exact⟨_,.loop ho e8 hb⟩
   exact⟨_,.plain ho (by lia) (by lia)⟩
theorem ts_all (ws:List T):∃ ps,Ts ws ps:=ts_all_of (wr_all _) ws (Nat.le_refl _)
theorem flat_nm {f k:Nat} (h1:1≤k) (h6:k≤6):FlatQ f (nmC k):=by
 have hk:k=1∨k=2∨k=3∨k=4∨k=5∨k=6:=by lia
 rcases hk with rfl | rfl | rfl | rfl | rfl | rfl <;> exact flat_no (by decide +kernel)
theorem nm_93 {k:Nat} (h1:1≤k) (h6:k≤6):isN [93] (nmC k)=0∧(nmC k).count 93=0∧pkP 0 (nmC k)=0:=by
 have hk:k=1∨k=2∨k=3∨k=4∨k=5∨k=6:=by lia
 rcases hk with rfl | rfl | rfl | rfl | rfl | rfl <;> decide
theorem nP_one (p:List Nat):nP [93] [p]=isN [93] p:=by rw [nP,nP]; rfl
mutual
theorem wr_row {f:Nat}:∀ {w:T}{ps:List (List Nat)},Wr w ps→w.deep≤f→(∀ p∈ps,FlatQ f p)∧10 * nP [93] ps≤w.parts
 | w,_,.odd h,hd=>by
  refine⟨fun p hp=>?_,by rw [nP_one]; exact Nat.zero_le _⟩
  rw [List.mem_singleton.mp hp]
  exact flat_pk (by rw [pkP]; have:=(wr_pk w (nxP 0 33)).2; have e:nxP 0 33=0:=rfl; rw [e] at this ⊢; lia)
 | w,_,.lay h hs,hd=>by
  have hl:=load_deep w
  refine⟨fun p hp=>?_,by rw [nP_one]; exact Nat.zero_le _⟩
  rw [List.mem_singleton.mp hp]
  exact flat_pk (by rw [pkP]; have:=(wr_pk (loadT w) (nxP 0 39)).2; have e:nxP 0 39=0:=rfl; rw [e] at this ⊢; lia)
 | w,_,.plain h h1 h6,hd=>by
  refine⟨fun p hp=>?_,by rw [nP_one,(nm_93 h1 h6).1]; exact Nat.zero_le _⟩
  rw [List.mem_singleton.mp hp]
  exact flat_nm h1 h6
 | w,_,.fork (ps:=ps) (qs:=qs) h hs hy hn,hd=>by
  have e:=fork_of h hs
  have s:=fork_small (ats (loadT w).kids 0).kids (loadT (loadT w)).kids
  rw [← e] at s
  obtain⟨s1,s2⟩:=s
  obtain⟨a1,a2⟩:=ts_row (f:=f) hy (by lia)
  obtain⟨b1,b2⟩:=ts_row (f:=f) hn (by lia)
  obtain⟨f7,f8,f1,f2,f3,_⟩:=flat_marks (f:=f)
  refine⟨fun p hp=>?_,?_⟩
  ·simp only [List.mem_append,List.mem_cons,List.not_mem_nil,or_false] at hp
   rcases hp with ((((rfl | rfl) | z) | rfl) | z) | rfl
   ·exact f7
   ·exact f1
   ·exact a1 p z
   ·exact f2
   ·exact b1 p z
   ·exact f3
  ·have e1:nP [93] [nmC 7,[91]]=0:=by decide
   have e2:nP [93] [[93]]=1:=by decide
   have e3:nP [93] [[124]]=0:=by decide
   rw [nP_app,nP_app,nP_app,nP_app]
   lia
 | w,_,.loop (ps:=ps) h hs hb,hd=>by
  have e:=loop_of h hs
  have s:=loop_small (loadT w).kids
  rw [← e] at s
  obtain⟨s1,s2⟩:=s
  obtain⟨a1,a2⟩:=ts_row (f:=f) hb (by lia)
  obtain⟨f7,f8,f1,f2,f3,_⟩:=flat_marks (f:=f)
  refine⟨fun p hp=>?_,?_⟩
  ·simp only [List.mem_append,List.mem_cons,List.not_mem_nil,or_false] at hp
   rcases hp with ((rfl | rfl) | z) | rfl
   ·exact f8
   ·exact f1
   ·exact a1 p z
   ·exact f3
  ·have e1:nP [93] [nmC 8,[91]]=0:=by decide
   have e2:nP [93] [[93]]=1:=by decide
   rw [nP_app,nP_app]
   lia
theorem ts_row {f:Nat}:∀ {ws:List T}{ps:List (List Nat)},Ts ws ps→T.deepL ws≤f→(∀ p∈ps,FlatQ f p)∧10 * nP [93] ps≤T.partsL ws
 | _,_,.nil,_=>⟨(fun p hp=>by cases hp),by rw [nP]; lia⟩
 | _,_,.cons h g,hd=>by
  rw [T.deepL_cons] at hd
  obtain⟨a1,a2⟩:=wr_row (f:=f) h (by lia)
  obtain⟨b1,b2⟩:=ts_row (f:=f) g (by lia)
  rw [nP_app,T.partsL_cons]
  refine⟨fun p hp=>?_,by lia⟩
  rcases List.mem_append.mp hp with z | z
  ·exact a1 p z
  ·exact b1 p z
end
theorem szP_lenP:∀ ps:List (List Nat),lenP ps≤12 * szP ps
 | []=>Nat.zero_le _
 | p::ps=>by
  have ih:=szP_lenP ps
  unfold szP at ih ⊢
  rw [lenP,List.flatten_cons,List.length_append,List.length_cons]
  lia
theorem ts_rowQ {ws:List T}{ps:List (List Nat)} (h:Ts ws ps) (hd:T.deepL ws≤250) (hp:T.partsL ws≤300):RowZ ps∧RowQ ps:=by
 obtain⟨a1,a2⟩:=ts_row (f:=250) h hd
 have h1:=ts_sz h
 have h2:=szP_lenP ps
 have ok:=ts_ok h
 refine⟨⟨fun p hp=>(ok p hp).2,?_⟩,by lia,250,a1,by lia⟩
 by_cases z:ps=[]
 ·exact .inl z
 ·exact .inr fun y=>z (join_nil (fun p hp=>(ok p hp).1) y)
def PcQ (f:Nat) (p:List Nat):Prop:=p.count 93=isN [93] p∧pkP 0 p≤f+1
theorem pc_marks {f:Nat}:PcQ f (nmC 7)∧PcQ f (nmC 8)∧PcQ f [91]∧PcQ f [124]∧PcQ f [93]:=by
 have e:(nmC 7).count 93=isN [93] (nmC 7)∧(nmC 8).count 93=isN [93] (nmC 8)∧([91]:List Nat).count 93=isN [93] [91]∧([124]:List Nat).count 93=isN [93] [124]∧([93]:List Nat).count 93=isN [93] [93]∧pkP 0 (nmC 7)=0∧pkP 0 (nmC 8)=0∧pkP 0 [91]=0∧pkP 0 [124]=0∧pkP 0 [93]=0:=by decide
 obtain⟨e1,e2,e3,e4,e5,e6,e7,e8,e9,e10⟩:=e
 exact⟨⟨e1,by lia⟩,⟨e2,by lia⟩,⟨e3,by lia⟩,⟨e4,by lia⟩,⟨e5,by lia⟩⟩
theorem pc_tree {f c:Nat}{t:T} (h1:c≠40) (h2:c≠41) (h3:c≠93) (hd:t.deep≤f):PcQ f (c::t.wr):=by
 have e0:nxP 0 c=0:=by unfold nxP; rw [if_neg h1,if_neg h2]
 have:=(wr_pk t 0).2
 refine⟨?_,by rw [pkP,e0]; lia⟩
 rw [List.count_cons,wr_cnt t (by decide) (by decide),if_neg (by simpa using h3)]
 unfold isN
 rw [if_neg (fun z=>h3 (List.cons.inj z).1)]
mutual
theorem wr_pc {f:Nat}:∀ {w:T}{ps:List (List Nat)},Wr w ps→(∀ p∈ps,FlatQ f p)→∀ p∈ps,PcQ f p
 | w,_,.odd h,hf,p,hp=>by
  have e:=List.mem_singleton.mp hp
  have:=hf p hp 33 w.wr w e (treeP_wr w)
  rw [e]
  exact pc_tree (by decide) (by decide) (by decide) this
 | w,_,.lay h hs,hf,p,hp=>by
  have e:=List.mem_singleton.mp hp
  have:=hf p hp 39 (loadT w).wr (loadT w) e (treeP_wr _)
  rw [e]
  exact pc_tree (by decide) (by decide) (by decide) this
 | w,_,.plain h h1 h6,hf,p,hp=>by
  obtain⟨a1,a2,a3⟩:=nm_93 h1 h6
  rw [List.mem_singleton.mp hp]
  exact⟨by lia,by lia⟩
 | w,_,.fork (ps:=ps) (qs:=qs) h hs hy hn,hf,p,hp=>by
  have a1:=ts_pc hy (fun q hq=>hf q (by simp [hq]))
  have b1:=ts_pc hn (fun q hq=>hf q (by simp [hq]))
  obtain⟨f7,f8,f1,f2,f3⟩:=pc_marks (f:=f)
  simp only [List.mem_append,List.mem_cons,List.not_mem_nil,or_false] at hp
  rcases hp with ((((rfl | rfl) | z) | rfl) | z) | rfl
  ·exact f7
  ·exact f1
  ·exact a1 p z
  ·exact f2
  ·exact b1 p z
  ·exact f3
 | w,_,.loop (ps:=ps) h hs hb,hf,p,hp=>by
  have a1:=ts_pc hb (fun q hq=>hf q (by simp [hq]))
  obtain⟨f7,f8,f1,f2,f3⟩:=pc_marks (f:=f)
  simp only [List.mem_append,List.mem_cons,List.not_mem_nil,or_false] at hp
  rcases hp with ((rfl | rfl) | z) | rfl
  ·exact f8
  ·exact f1
  ·exact a1 p z
  ·exact f3
theorem ts_pc {f:Nat}:∀ {ws:List T}{ps:List (List Nat)},Ts ws ps→(∀ p∈ps,FlatQ f p)→∀ p∈ps,PcQ f p
 | _,_,.nil,_,p,hp=>by cases hp
 | _,_,.cons h g,hf,p,hp=>by
  rcases List.mem_append.mp hp with z | z
  ·exact wr_pc h (fun q hq=>hf q (List.mem_append.mpr (.inl hq))) p z
  ·exact ts_pc g (fun q hq=>hf q (List.mem_append.mpr (.inr hq))) p z
end
theorem pk_join {m:Nat}:∀ {ps:List (List Nat)},(∀ p∈ps,pkP 0 p≤m)→pkP 0 (joinL [32] ps)≤m
 | [],_=>Nat.zero_le _
 | [p],h=>h p List.mem_cons_self
 | p::q::ps,h=>by
  have ih:=pk_join (ps:=q::ps) (fun r hr=>h r (List.mem_cons_of_mem _ hr))
  have h1:=h p List.mem_cons_self
  have h2:=fin_pk p 0
  have e:nxP (finP 0 p) 32=0:=rfl
  rw [join_cons2,pk_app,pkP,e]
  lia
theorem cnt_join {c:Nat} (hc:c≠32) {m:Nat}:∀ {ps:List (List Nat)},(∀ p∈ps,p.count c≤m)→(joinL [32] ps).count c≤ps.length * m
 | [],_=>Nat.zero_le _
 | [p],h=>by have:=h p List.mem_cons_self; rw [joinL_one]; simpa using this
 | p::q::ps,h=>by
  have ih:=cnt_join hc (ps:=q::ps) (fun r hr=>h r (List.mem_cons_of_mem _ hr))
  have h1:=h p List.mem_cons_self
  rw [join_cons2,cnt_sep hc,List.length_cons,Nat.succ_mul]
  lia
theorem blank_join {m:Nat}:∀ {ps:List (List Nat)},(∀ p∈ps,p.count 32≤m)→(joinL [32] ps).count 32≤ps.length * (m+1)
 | [],_=>Nat.zero_le _
 | [p],h=>by have:=h p List.mem_cons_self; rw [joinL_one,List.length_singleton]; lia
 | p::q::ps,h=>by
  have ih:=blank_join (ps:=q::ps) (fun r hr=>h r (List.mem_cons_of_mem _ hr))
  have h1:=h p List.mem_cons_self
  rw [join_cons2,List.count_append,List.count_cons,if_pos (by decide),List.length_cons,Nat.succ_mul]
  lia
theorem len_join {m:Nat}:∀ {ps:List (List Nat)},(∀ p∈ps,p.length≤m)→(joinL [32] ps).length≤ps.length * (m+1)
 | [],_=>Nat.zero_le _
 | [p],h=>by have:=h p List.mem_cons_self; rw [joinL_one,List.length_singleton]; lia
 | p::q::ps,h=>by
  have ih:=len_join (ps:=q::ps) (fun r hr=>h r (List.mem_cons_of_mem _ hr))
  have h1:=h p List.mem_cons_self
  rw [join_cons2,List.length_append,List.length_cons,List.length_cons,Nat.succ_mul]
  lia
def PsQ (m f:Nat) (p:List Nat):Prop:=p.length≤m∧p.count 32≤1∧p.count 93≤1∧pkP 0 p≤f+1
theorem strOk_row {m f n:Nat}{ps:List (List Nat)} (h:∀ p∈ps,PsQ m f p) (hl:ps.length≤n) (h1:n * (m+1)+22 * n+12≤90000) (h2:f+12+2 * n≤400):StrOk (joinL [32] ps):=by
 have a1:=len_join (m:=m) fun p hp=>(h p hp).1
 have a2:=blank_join (m:=1) fun p hp=>(h p hp).2.1
 have a3:=cnt_join (c:=93) (by decide) (m:=1) fun p hp=>(h p hp).2.2.1
 have a4:=pk_join (m:=f+1) fun p hp=>(h p hp).2.2.2
 have a5:ps.length * (m+1)≤n * (m+1):=Nat.mul_le_mul_right _ hl
 exact strOk_cnt (f:=f) (by lia) a4 (by lia)
structure Chg (X:List Nat):Prop where
 len:X.length+11 * X.count 32+12≤80000
 br:X.count 93≤100
 pk:pkP 0 X≤31
theorem Chg.ok {A B:List Nat} (h:Chg (A++B)) {s:List Nat} (hs:s.length≤1) (k:Nat):StrOk (A++s++B.drop k):=by
 obtain⟨h1,h2,h3⟩:=h
 have eB:B.take k++B.drop k=B:=List.take_append_drop k B
 have c:∀ c:Nat,(A++s++B.drop k).count c≤(A++B).count c+1:=fun c=>by
  have:=List.count_le_length (a:=c) (l:=s)
  have e:=congrArg (List.count c) eB
  rw [List.count_append] at e
  rw [List.count_append,List.count_append,List.count_append]
  lia
 have l:(A++s++B.drop k).length≤(A++B).length+1:=by
  rw [List.length_append,List.length_append,List.length_append,List.length_drop]
  lia
 have c1:=c 32
 have c2:=c 93
 have p1:=pk_left A B
 have p2:=pk_right A B
 have p3:=pk_right (B.take k) (B.drop k)
 rw [eB] at p3
 have p4:=pk_add (A++s) (B.drop k)
 have p5:=pk_add A s
 have p6:=pk_len s
 exact strOk_cnt (f:=62) (by lia) (by lia) (by lia)
theorem cnt93:∀ {ps:List (List Nat)},(∀ p∈ps,PcQ 30 p)→(joinL [32] ps).count 93=nP [93] ps
 | [],_=>rfl
 | [p],h=>by rw [joinL_one,nP_one]; exact (h p List.mem_cons_self).1
 | p::q::ps,h=>by
  have ih:=cnt93 (ps:=q::ps) (fun r hr=>h r (List.mem_cons_of_mem _ hr))
  have h1:=(h p List.mem_cons_self).1
  rw [join_cons2,cnt_sep (by decide),ih,h1,nP]
  rfl
theorem dn_chg {ws:List T}{ps:List (List Nat)} (h:Dn ws 99) (ht:Ts ws ps):Chg (joinL [32] ps)∧RowZ ps∧RowQ ps:=by
 obtain⟨qs,k1,k2,k3,k4⟩:=h
 have e:=ts_fun ht k1
 subst e
 have ok:=ts_ok ht
 have pc:=ts_pc ht k2
 have rz:RowZ ps:=by
  refine⟨fun p hp=>(ok p hp).2,?_⟩
  by_cases z:ps=[]
  ·exact .inl z
  ·exact .inr fun y=>z (join_nil (fun p hp=>(ok p hp).1) y)
 refine⟨⟨?_,?_,pk_join fun p hp=>(pc p hp).2⟩,rz,by lia,30,k2,by lia⟩
 ·by_cases z:ps=[]
  ·subst z; decide
  ·rw [← lenP_join z (fun p hp=>(ok p hp).2)]
   lia
 ·rw [cnt93 pc]; lia
end Sw
namespace Sw
open PySem PySem.Spec PyProof.Rows L2
def pickZ (c t m:Int):Int:=(c % 1000003 * (48271+2 * t)+7919 * t) % 999983 % m
def atZ (ns:List Int) (k:Int):Int:=if k<(ns.length:Int) then ns.getD k.toNat 0 else (((ns.take 63).sum+769 * k+29) % 1000003) * (((ns.take 63).sum+769 * k+29) % 1000003) % 999983
def spPickD:Sp:=fun vs H Q _=>∃ c t m:Int,vs=[.int c,.int t,.int m]∧0<m∧∀ i,0≤i→i<m→i=pickZ c t m→Q (.int i) H
def spAtD (K:PySem.W.Frag):Sp:=fun vs H Q _=>∃ (l:Addr) (k:Int) (ns:List Int),vs=[.ref l,.int k]∧SqL K H l (ns.map V.int)∧0≤k∧∀ i H',Same H H'→i=atZ ns k→Q (.int i) H'
theorem at_tab {ns:List Int}{k:Int} (h0:0≤k) (h:k<((ns.map V.int).length:Int)):atI (ns.map V.int) k=some (.int (ns.getD k.toNat 0)):=by
 rw [List.length_map] at h
 have hk:k.toNat<ns.length:=by lia
 have e:(ns.map V.int)[k.toNat]?=some (.int (ns.getD k.toNat 0)):=by rw [List.getElem?_map,List.getElem?_eq_getElem hk,List.getD_eq_getElem?_getD,List.getElem?_eq_getElem hk]; rfl
 have:=atI_nat e
 rw [show ((k.toNat:Nat):Int)=k by lia] at this
 exact this
def nthT (ts:List T) (i:Int):T:=ts.getD i.toNat leaf
theorem all_pickD {R:T→V→Prop}{ts:List T}{xs:List V} (h:All2 R ts xs) {i:Int} (h0:0≤i) (h1:i<(xs.length:Int)):∃ x t,atI xs i=some x∧R t x∧t∈ts∧t=nthT ts i:=by
 have hk:i.toNat<xs.length:=by lia
 have e:xs[i.toNat]?=some xs[i.toNat]:=List.getElem?_eq_getElem hk
 obtain⟨t,et,ht⟩:=h.get e
 have:=atI_nat e
 rw [show ((i.toNat:Nat):Int)=i by lia] at this
 exact⟨_,t,this,ht,List.mem_of_getElem? et,by unfold nthT; rw [List.getD_eq_getElem?_getD,et]; rfl⟩
def plainF (c:Int):T:=wordT (1+pickZ c 21 6).toNat []
def spPlainZ (K:PySem.W.Frag):Sp:=fun vs H Q _=>∃ c:Int,vs=[.int c]∧∀ r t H',Same H H'→WRd K H' t r→B 2 8 t→t=plainF c→Q r H'
def tabG (j:Int):Int:=([0,0,1,2,3,4,7,0]:List Int).getD j.toNat 0
def gStep (held:List T) (c:Int):List T:=held.take ((held.length:Int) - (if tabG (pickZ c 1 8)<(held.length:Int) then tabG (pickZ c 1 8) else (held.length:Int))).toNat++[.node (held.drop ((held.length:Int) - (if tabG (pickZ c 1 8)<(held.length:Int) then tabG (pickZ c 1 8) else (held.length:Int))).toNat)]
def grownN (ns:List Int):Nat→List T
 | 0=>[]
 | i+1=>gStep (grownN ns i) (ns.getD i 0)
def kids1 (c way:Int) (t1:T):List T:=if way=1 then [leavesT (9+pickZ c 25 5).toNat,t1] else []
def kids2 (c way:Int) (t1 t2:T):List T:=if way=2 then [leavesT (1+pickZ c 25 6).toNat,t1,t2] else kids1 c way t1
def kids3 (c way:Int) (t1 t2:T):List T:=if way=3 then [leavesT 7] else kids2 c way t1 t2
def kids4 (c way:Int) (t1 t2:T):List T:=if way=4 then [.node (List.replicate (pickZ c 26 (((pickZ c 25 12).toNat:Int)+1)).toNat leaf++[.node [t1]]++List.replicate ((pickZ c 25 12).toNat - (pickZ c 26 (((pickZ c 25 12).toNat:Int)+1)).toNat) leaf),t2] else kids3 c way t1 t2
def kids5 (c way:Int) (t1 t2:T):List T:=if (way=1∨way=4)∧pickZ c 32 2=1 then (kids4 c way t1 t2).take 1 else kids4 c way t1 t2
def oddF (c:Int) (ts:List T):T:=.node (kids5 c (pickZ c 22 5) (nthT ts (pickZ c 23 (ts.length:Int))) (nthT ts (pickZ c 24 (ts.length:Int))))
def wordF (c way:Int) (ts ws:List T):T:=if way<2 then plainF c else if way<4 then wordT 0 (nthT ts (pickZ c 28 (ts.length:Int))).kids else if way=4 then oddF c ts else if way=5 then loopW ws else forkW (ws.take (pickZ c 29 ((ws.length:Int)+1)).toNat) (ws.drop (pickZ c 29 ((ws.length:Int)+1)).toNat)
def wayF (i:Nat) (c:Int):Int:=if 55<i then pickZ c 27 8 % 5 else pickZ c 27 8
def manyF (n:Nat) (c:Int):Nat:=(if pickZ c 30 5<(n:Int) then pickZ c 30 5 else (n:Int)).toNat
def wStep (ts:List T) (i:Nat) (held:List T) (c:Int):List T:=(if 4<wayF i c then held.take (held.length - manyF held.length c) else held)++[wordF c (wayF i c) ts (held.drop (held.length - manyF held.length c))]
def wordsN (ts:List T) (ns:List Int):Nat→List T
 | 0=>[]
 | i+1=>wStep ts i (wordsN ts ns i) (ns.getD i 0)
def cellsF (ns:List Int):List Int:=if atZ ns 0 % 6=1 then (List.range (atZ ns 0 / 6 % 100).toNat).map (fun k:Nat=>pickZ (atZ ns 1+(k:Int)) 31 999983) else (ns.drop (min 2 ns.length)).take (min 58 ns.length - min 2 ns.length)
def drawnF (ns:List Int):List T:=wordsN (leaf::grownN ((List.range 9).map fun k:Nat=>atZ ns (2+(k:Int))+(k:Int)) 9) (cellsF ns) (cellsF ns).length
theorem getD_of {ns:List Int}{i:Nat}{c:Int} (h:ns[i]?=some c):ns.getD i 0=c:=by rw [List.getD_eq_getElem?_getD,h]; rfl
theorem lc_numsD {H1:Hp}{n:Nat}{lo:Int}{σ:Sg}{js:List Nat}{te:TE}{Q:VK} (g:Nat→Int) (hn:n≤sizeLine)
  (hte:∀ (i:Nat) H' (R:VK),i<n→Same H1 H'→(∀ H3,Same H' H3→R (.int (g i)) H3)→te (some (.int (lo+i))::frv σ js) H' R)
  (q:∀ D H',Same H1 H'→H' D=some (.lst (((List.range n).map g).map V.int))→Q (.ref D) H'):LcRun (Itr lo n) js te σ Q H1:=by
 refine lc_rangeI (fun D i ys H'=>H1 D=none∧Same H1 H'∧H' D=some (.lst ys)∧ys=((List.range i).map g).map V.int) hn (fun D hD=>?_) (fun D i ys H' j=>⟨j.2.2.1,by rw [j.2.2.2,List.length_map,List.length_map,List.length_range]⟩) (fun D i ys H' R hi j hR=>?_) (fun D ys H' j=>?_)
 ·exact⟨hD,same_new hD _,upd_same,rfl⟩
 ·obtain⟨hD,S,h1,rfl⟩:=j
  refine hte i H' R hi S fun H3 S3=>?_
  have h3:=S3 _ _ h1
  exact hR (.int (g i)) H3 h3 ⟨hD,same_upd (S.trans S3) hD,upd_same,by rw [List.range_succ,List.map_append,List.map_append]; rfl⟩
 ·obtain⟨hD,S,h1,rfl⟩:=j
  exact q D H' S h1
theorem cut258 (ns:List Int):cutV (ns.map V.int) (some 2) (some 58)=((ns.drop (min 2 ns.length)).take (min 58 ns.length - min 2 ns.length)).map V.int:=by
 rw [show (some (2:Int))=some ((2:Nat):Int) from rfl,show (some (58:Int))=some ((58:Nat):Int) from rfl]
 unfold cutV
 rw [HT.sIx_nat,HT.sIx_nat,List.length_map,List.map_take,List.map_drop]
end Sw
namespace Sw25
open PySem PySem.Spec PyProof.Rows L2 Sw
def top (i:Nat):Stmt:=PySem.Challenge.pw_selfword_k25_whole_what_is_read.main.body.getD i (.Pass ⟨0,0,0,0⟩)
abbrev s_show_tree:Stmt:=top 5
abbrev s_read_tree:Stmt:=top 6
abbrev s_first:Stmt:=top 8
abbrev s_rest:Stmt:=top 9
abbrev s_sort_of:Stmt:=top 18
abbrev s_load_of:Stmt:=top 19
abbrev s_lay:Stmt:=top 20
abbrev s_plain:Stmt:=top 21
abbrev s_fork:Stmt:=top 22
abbrev s_loop:Stmt:=top 23
abbrev s_show:Stmt:=top 25
abbrev s_spelled:Stmt:=top 26
abbrev s_odd:Stmt:=top 27
abbrev s_read:Stmt:=top 29
abbrev s_pieces_of:Stmt:=top 30
abbrev s_word_of:Stmt:=top 31
abbrev s_tree_of:Stmt:=top 32
abbrev s__law_at:Stmt:=top 35
abbrev s__law_pick:Stmt:=top 36
abbrev s__law_joined:Stmt:=top 37
abbrev s__law_grown:Stmt:=top 38
abbrev s__law_digits:Stmt:=top 39
abbrev s__law_is_tree:Stmt:=top 40
abbrev s__law_leaves:Stmt:=top 41
abbrev s__law_plain:Stmt:=top 42
abbrev s__law_odd:Stmt:=top 43
abbrev s__law_text:Stmt:=top 44
abbrev s__law_between:Stmt:=top 45
abbrev s__law_word:Stmt:=top 46
abbrev s__law_words:Stmt:=top 47
abbrev s__law_drawn:Stmt:=top 48
abbrev s__law_brackets:Stmt:=top 49
abbrev s__law_is_plain:Stmt:=top 50
abbrev s__law_written_word:Stmt:=top 51
abbrev s__law_written:Stmt:=top 52
abbrev s__law_piece:Stmt:=top 53
abbrev s__law_changed:Stmt:=top 54
abbrev s__law_right:Stmt:=top 55
abbrev s__law_tree_by:Stmt:=top 56
abbrev s__law_any:Stmt:=top 57
abbrev s__law_piece_by:Stmt:=top 58
abbrev s__law_all_right:Stmt:=top 59
abbrev s_law:Stmt:=top 60
theorem sc_show_tree:FnScope ["tree","signs","waiting","part"] ["tree"] (defScope s_show_tree):=⟨rfl,rfl,rfl,by decide +kernel,rfl,by decide +kernel,by decide +kernel⟩
theorem sc_read_tree:FnScope ["text","rows","sign","items"] ["text"] (defScope s_read_tree):=⟨rfl,rfl,rfl,by decide +kernel,rfl,by decide +kernel,by decide +kernel⟩
theorem sc_first:FnScope ["tree"] ["tree"] (defScope s_first):=⟨rfl,rfl,rfl,by decide +kernel,rfl,by decide +kernel,by decide +kernel⟩
theorem sc_rest:FnScope ["tree"] ["tree"] (defScope s_rest):=⟨rfl,rfl,rfl,by decide +kernel,rfl,by decide +kernel,by decide +kernel⟩
theorem sc_sort_of:FnScope ["word"] ["word"] (defScope s_sort_of):=⟨rfl,rfl,rfl,by decide +kernel,rfl,by decide +kernel,by decide +kernel⟩
theorem sc_load_of:FnScope ["word"] ["word"] (defScope s_load_of):=⟨rfl,rfl,rfl,by decide +kernel,rfl,by decide +kernel,by decide +kernel⟩
theorem sc_lay:FnScope ["tree"] ["tree"] (defScope s_lay):=⟨rfl,rfl,rfl,by decide +kernel,rfl,by decide +kernel,by decide +kernel⟩
theorem sc_plain:FnScope ["sort"] ["sort"] (defScope s_plain):=⟨rfl,rfl,rfl,by decide +kernel,rfl,by decide +kernel,by decide +kernel⟩
theorem sc_fork:FnScope ["yes","no"] ["yes","no"] (defScope s_fork):=⟨rfl,rfl,rfl,by decide +kernel,rfl,by decide +kernel,by decide +kernel⟩
theorem sc_loop:FnScope ["body"] ["body"] (defScope s_loop):=⟨rfl,rfl,rfl,by decide +kernel,rfl,by decide +kernel,by decide +kernel⟩
theorem sc_show:FnScope ["text","pieces","waiting","part"] ["text"] (defScope s_show):=⟨rfl,rfl,rfl,by decide +kernel,rfl,by decide +kernel,by decide +kernel⟩
theorem sc_spelled:FnScope ["word","sort","load"] ["word"] (defScope s_spelled):=⟨rfl,rfl,rfl,by decide +kernel,rfl,by decide +kernel,by decide +kernel⟩
theorem sc_odd:FnScope ["word","sort"] ["word"] (defScope s_odd):=⟨rfl,rfl,rfl,by decide +kernel,rfl,by decide +kernel,by decide +kernel⟩
theorem sc_read:FnScope ["signs","reading","piece"] ["signs"] (defScope s_read):=⟨rfl,rfl,rfl,by decide +kernel,rfl,by decide +kernel,by decide +kernel⟩
theorem sc_pieces_of:FnScope ["signs"] ["signs"] (defScope s_pieces_of):=⟨rfl,rfl,rfl,by decide +kernel,rfl,by decide +kernel,by decide +kernel⟩
theorem sc_word_of:FnScope ["piece","word"] ["piece"] (defScope s_word_of):=⟨rfl,rfl,rfl,by decide +kernel,rfl,by decide +kernel,by decide +kernel⟩
theorem sc_tree_of:FnScope ["signs"] ["signs"] (defScope s_tree_of):=⟨rfl,rfl,rfl,by decide +kernel,rfl,by decide +kernel,by decide +kernel⟩
theorem sc__law_at:FnScope ["_law_script","_law_k","_law_number"] ["_law_script","_law_k"] (defScope s__law_at):=⟨rfl,rfl,rfl,by decide +kernel,rfl,by decide +kernel,by decide +kernel⟩
theorem sc__law_pick:FnScope ["_law_cell","_law_turn","_law_many"] ["_law_cell","_law_turn","_law_many"] (defScope s__law_pick):=⟨rfl,rfl,rfl,by decide +kernel,rfl,by decide +kernel,by decide +kernel⟩
theorem sc__law_joined:FnScope ["_law_kids"] ["_law_kids"] (defScope s__law_joined):=⟨rfl,rfl,rfl,by decide +kernel,rfl,by decide +kernel,by decide +kernel⟩
theorem sc__law_grown:FnScope ["_law_cells","_law_held","_law_cell","_law_many"] ["_law_cells"] (defScope s__law_grown):=⟨rfl,rfl,rfl,by decide +kernel,rfl,by decide +kernel,by decide +kernel⟩
theorem sc__law_digits:FnScope ["_law_script","_law_span","_law_most","_law_row","_law_cell","_law_number","_law_k"] ["_law_script","_law_span","_law_most"] (defScope s__law_digits):=⟨rfl,rfl,rfl,by decide +kernel,rfl,by decide +kernel,by decide +kernel⟩
theorem sc__law_is_tree:FnScope ["_law_found","_law_todo","_law_one"] ["_law_found"] (defScope s__law_is_tree):=⟨rfl,rfl,rfl,by decide +kernel,rfl,by decide +kernel,by decide +kernel⟩
theorem sc__law_leaves:FnScope ["_law_many"] ["_law_many"] (defScope s__law_leaves):=⟨rfl,rfl,rfl,by decide +kernel,rfl,by decide +kernel,by decide +kernel⟩
theorem sc__law_plain:FnScope ["_law_cell","_law_sort"] ["_law_cell"] (defScope s__law_plain):=⟨rfl,rfl,rfl,by decide +kernel,rfl,by decide +kernel,by decide +kernel⟩
theorem sc__law_odd:FnScope ["_law_cell","_law_trees","_law_way","_law_one","_law_other","_law_kids","_law_many","_law_at_here","_law_inner","_law_word_here"] ["_law_cell","_law_trees"] (defScope s__law_odd):=⟨rfl,rfl,rfl,by decide +kernel,rfl,by decide +kernel,by decide +kernel⟩
theorem sc__law_text:FnScope ["_law_words_here"] ["_law_words_here"] (defScope s__law_text):=⟨rfl,rfl,rfl,by decide +kernel,rfl,by decide +kernel,by decide +kernel⟩
theorem sc__law_between:FnScope ["_law_some"] ["_law_some"] (defScope s__law_between):=⟨rfl,rfl,rfl,by decide +kernel,rfl,by decide +kernel,by decide +kernel⟩
theorem sc__law_word:FnScope ["_law_cell","_law_way","_law_trees","_law_held","_law_one","_law_cut","_law_body","_law_yes","_law_no"] ["_law_cell","_law_way","_law_trees","_law_held"] (defScope s__law_word):=⟨rfl,rfl,rfl,by decide +kernel,rfl,by decide +kernel,by decide +kernel⟩
theorem sc__law_words:FnScope ["_law_cells","_law_trees","_law_held","_law_k","_law_cell","_law_many","_law_way","_law_word_here"] ["_law_cells","_law_trees"] (defScope s__law_words):=⟨rfl,rfl,rfl,by decide +kernel,rfl,by decide +kernel,by decide +kernel⟩
theorem sc__law_drawn:FnScope ["_law_script","_law_start","_law_cells","_law_trees"] ["_law_script","_law_start"] (defScope s__law_drawn):=⟨rfl,rfl,rfl,by decide +kernel,rfl,by decide +kernel,by decide +kernel⟩
theorem sc__law_brackets:FnScope ["_law_tree"] ["_law_tree"] (defScope s__law_brackets):=⟨rfl,rfl,rfl,by decide +kernel,rfl,by decide +kernel,by decide +kernel⟩
theorem sc__law_is_plain:FnScope ["_law_word_here"] ["_law_word_here"] (defScope s__law_is_plain):=⟨rfl,rfl,rfl,by decide +kernel,rfl,by decide +kernel,by decide +kernel⟩
theorem sc__law_written_word:FnScope ["_law_word_here","_law_sort","_law_load"] ["_law_word_here"] (defScope s__law_written_word):=⟨rfl,rfl,rfl,by decide +kernel,rfl,by decide +kernel,by decide +kernel⟩
theorem sc__law_written:FnScope ["_law_text_here"] ["_law_text_here"] (defScope s__law_written):=⟨rfl,rfl,rfl,by decide +kernel,rfl,by decide +kernel,by decide +kernel⟩
theorem sc__law_piece:FnScope ["_law_cell","_law_trees","_law_some","_law_way","_law_text_here","_law_at_here"] ["_law_cell","_law_trees"] (defScope s__law_piece):=⟨rfl,rfl,rfl,by decide +kernel,rfl,by decide +kernel,by decide +kernel⟩
theorem sc__law_changed:FnScope ["_law_cell","_law_text_here","_law_signs","_law_at_here","_law_sign","_law_way"] ["_law_cell","_law_text_here"] (defScope s__law_changed):=⟨rfl,rfl,rfl,by decide +kernel,rfl,by decide +kernel,by decide +kernel⟩
theorem sc__law_right:FnScope ["_law_signs","_law_found"] ["_law_signs"] (defScope s__law_right):=⟨rfl,rfl,rfl,by decide +kernel,rfl,by decide +kernel,by decide +kernel⟩
theorem sc__law_tree_by:FnScope ["_law_digits_here","_law_held","_law_digit","_law_many"] ["_law_digits_here"] (defScope s__law_tree_by):=⟨rfl,rfl,rfl,by decide +kernel,rfl,by decide +kernel,by decide +kernel⟩
theorem sc__law_any:FnScope ["_law_script","_law_signs","_law_text_here","_law_tree","_law_trees","_law_pieces"] ["_law_script"] (defScope s__law_any):=⟨rfl,rfl,rfl,by decide +kernel,rfl,by decide +kernel,by decide +kernel⟩
theorem sc__law_piece_by:FnScope ["_law_digit","_law_trees","_law_some"] ["_law_digit","_law_trees"] (defScope s__law_piece_by):=⟨rfl,rfl,rfl,by decide +kernel,rfl,by decide +kernel,by decide +kernel⟩
theorem sc__law_all_right:FnScope ["_law_script","_law_text_here","_law_tree","_law_pieces","_law_signs"] ["_law_script"] (defScope s__law_all_right):=⟨rfl,rfl,rfl,by decide +kernel,rfl,by decide +kernel,by decide +kernel⟩
theorem sc_law:FnScope ["_law_script","_law_trees","_law_tree","_law_good","_law_rows","_law_k","_law_turn","_law_signs"] ["_law_script"] (defScope s_law):=⟨rfl,rfl,rfl,by decide +kernel,rfl,by decide +kernel,by decide +kernel⟩
end Sw25
namespace Sw25
open PySem PySem.Spec PyProof.Rows L2 Sw
section
variable {P:Program}{w:World}{K:PySem.W.Frag}{mg:Str→Option Value}{base:Heap}{f:Addr}{fd:FuncData}
theorem ok_odd (m_any:mg "any"=none) {u_WHILE:Value} (m_WHILE:mg "WHILE"=some u_WHILE) (r_WHILE:RelV (.int 8) u_WHILE) {u_LAY:Value} (m_LAY:mg "LAY"=some u_LAY) (r_LAY:RelV (.int 0) u_LAY) {u_FORK:Value} (m_FORK:mg "FORK"=some u_FORK) (r_FORK:RelV (.int 7) u_FORK) {u_NAMELESS:Value} (m_NAMELESS:mg "NAMELESS"=some u_NAMELESS) (r_NAMELESS:RelV (.int 9) u_NAMELESS)
  {a_first:Addr}{d_first:FuncData} (F_first:Fun K "first" "first" s_first a_first d_first) (G_first:FnOk P w K mg base CX0 32 a_first d_first ["tree"] (spFirst K)) (b_first:Binds K d_first ["tree"] []) (m_first:mg "first"=some (.ref a_first))
  {a_sort_of:Addr}{d_sort_of:FuncData} (F_sort_of:Fun K "sort_of" "sort_of" s_sort_of a_sort_of d_sort_of) (G_sort_of:FnOk P w K mg base CX0 32 a_sort_of d_sort_of ["word"] (spSortL K)) (b_sort_of:Binds K d_sort_of ["word"] []) (m_sort_of:mg "sort_of"=some (.ref a_sort_of))
  {a_load_of:Addr}{d_load_of:FuncData} (F_load_of:Fun K "load_of" "load_of" s_load_of a_load_of d_load_of) (G_load_of:FnOk P w K mg base CX0 32 a_load_of d_load_of ["word"] (spRest K)) (b_load_of:Binds K d_load_of ["word"] []) (m_load_of:mg "load_of"=some (.ref a_load_of))
  (F:Fun K "odd" "odd" s_odd f fd):FnOk P w K mg base CX0 33 f fd ["word"] (spOdd K):=by
 refine okQ F sc_odd (fun vs H Q E h=>?_) (fun cdv A outer s H vs Q E hr h=>?_)
 ·obtain⟨x,w,rfl,_⟩:=h
  rfl
 obtain⟨x,w,rfl,ht,hb,q⟩:=h
 have hE:=hr.un
 have hE:(A.deeper (envOfC "odd" (defScope s_odd) s.heap.objs.size f cdv)).units+401<cLine:=by lia
 refine⟨_,(qss_cons (qs_if (QW.pt (qw_or (qt_cmpR (op_eqTr hE) (qv 0) (qe_tup qa_nil) (nomark _)) (qw_or1 (qt_val (qe_callB (call_any rfl) rfl m_any bt_any (qa_cons (qe_lc rfl (lc_free (fr:=[]) (js:=[]) (sc:=defScope s_odd) rfl rfl rfl (by decide +kernel) (by decide +kernel) (by decide +kernel) (by decide +kernel) (by exact trivial) (by decide +kernel) (fun y hy=>cell_has hy)) (qi_tup (qe_call G_first hr rfl m_first F_first.kp b_first .nil pass0 (qa_cons (qv 0) qa_nil))) (fun _ _ _ _ _=>(qe_cmpR (op_neTrK (K:=K) rfl rfl hE) (qv 0) (qe_tup qa_nil) (nomark _)))) qa_nil)))))) (qss_one (qs_ret qe_bl)) qss_nil)
   (qss_cons (qs_set (i:=1) sc_odd.nd rfl (Or.inl rfl) (qe_call G_sort_of hr rfl m_sort_of F_sort_of.kp b_sort_of .nil pass0 (qa_cons (qv 0) qa_nil)))
   (qss_cons (qs_if (qt_cmpR op_in_seq (qv 1) (qe_tup (qa_cons (qe_glob (v:=.int 0) rfl m_LAY r_LAY) (qa_cons (qe_glob (v:=.int 8) rfl m_WHILE r_WHILE) qa_nil))) rfl) (qss_one (qs_ret qe_bl)) qss_nil)
   (qss_cons (qs_if (qt_cmpR op_eq (qv 1) (qe_glob (v:=.int 7) rfl m_FORK r_FORK) (nomark _)) (qss_one (qs_ret (qe_cmpR (op_eqTr hE) (qe_call G_load_of hr rfl m_load_of F_load_of.kp b_load_of .nil pass0 (qa_cons (qv 0) qa_nil)) (qe_tup qa_nil) (nomark _)))) qss_nil)
   (qss_one (qs_ret (qe_or (qe_cmpR op_eq (qv 1) (qe_glob (v:=.int 9) rfl m_NAMELESS r_NAMELESS) (nomark _)) (qe_one (qe_cmpR (op_neTr hE) (qe_call G_load_of hr rfl m_load_of F_load_of.kp b_load_of .nil pass0 (qa_cons (qv 0) qa_nil)) (qe_tup qa_nil) (nomark _)))))))))),?_⟩
 have hd:=hb.1
 have hp:=hb.2
 have beqO:∀ t:T,t∈(ats w.kids 0).kids→t.deep≤400:=fun t ht=>by
  have h1:=T.mem_deep ht
  rw [← deep_eq] at h1
  have h2:=first_deep w
  lia
 have kl:(ats w.kids 0).kids.length≤100000:=by
  have:=(B_kids (B_ats (B_kids hb) 0)).len
  lia
 have hl400:(loadT w).deep≤400:=Nat.le_trans (load_deep w) hd
 have hs9:sortT w≤9:=by unfold sortT; split <;> lia
 refine⟨_,rfl,Nat.zero_le _,fun p1 g1=>⟨w,leaf,ht.mono (.new g1),leaf_tr upd_same,by lia,_,rfl,ite2 (fun h1=>?_) (fun h1=>?_)⟩⟩
 ·have e:oddT w=true:=by unfold oddT headOdd; rw [h1]; rfl
  rw [e] at q
  exact iteT (q _ (same_new g1 _))
 have h1:T.beq w leaf=false:=Bool.eq_false_iff.mpr h1
 have S1:=same_new g1 (.tup [])
 refine⟨_,rfl,x,w,rfl,ht.mono (.of S1),hd,fun y H2 S2 t2=>?_⟩
 obtain⟨a2,xs2,rfl,q2,r2⟩:=TR_node.mp (TR_kids t2)
 refine⟨a2,rfl,⟨_,q2⟩,lc_mapT (fun t=>.bl (!T.beq t leaf)) q2 r2 (small (by rw [r2.length]; lia)) (fun t z H' R hm S tz hR=>⟨_,rfl,Nat.zero_le _,fun p3 g3=>⟨t,leaf,tz.mono (.new g3),leaf_tr upd_same,by have:=beqO t hm; lia,hR _ (same_new g3 _)⟩⟩) (fun D H3 S3 h3=>?_)⟩
 refine⟨D,(ats w.kids 0).kids.map fun t=>!T.beq t leaf,rfl,SqL.of (by rw [h3,List.map_map]; rfl),_,rfl,?_⟩
 have S13:=S1.trans (S2.trans S3)
 have eh:headOdd w=((ats w.kids 0).kids.map fun t=>!T.beq t leaf).any id:=by unfold headOdd; rw [h1,List.any_map]; rfl
 rw [← eh]
 refine ite2 (fun h2=>?_) (fun h2=>?_)
 ·have e:oddT w=true:=by unfold oddT; rw [h2]; rfl
  rw [e] at q
  exact q _ S13
 have eo:oddT w=if sortT w=0∨sortT w=8 then false else if sortT w=7 then T.beq (loadT w) leaf else (decide (sortT w=9) || !T.beq (loadT w) leaf):=by unfold oddT; rw [if_neg h2]
 dsimp only [tNext]
 refine setQ (fun v=>[some x,some v]) (fun _=>rfl) (fun v H'=>v=.int (sortT w:Nat)∧Same H H') (fun R r=>⟨_,rfl,x,w,rfl,ht.mono (.of S13),hd,fun H4 S4=>r _ _ ⟨rfl,S13.trans S4⟩⟩) (fun v4 H4 h4=>?_)
 obtain⟨rfl,S4⟩:=h4
 refine⟨_,rfl,(by show 2≤sizeLine; decide),fun p5 g5=>⟨p5,_,rfl,.inr (SqT.of upd_same),rfl,rfl,_,rfl,?_⟩⟩
 have S5:=S4.trans (same_new g5 (.tup [.int 0,.int 8]))
 have ei:(if false=true then !inV (.int ((sortT w:Nat):Int)) [.int 0,.int 8] else inV (.int ((sortT w:Nat):Int)) [.int 0,.int 8])=decide (sortT w=0∨sortT w=8):=by
  rw [if_neg (by decide)]
  unfold inV
  rw [List.any_cons,List.any_cons,List.any_nil,Bool.or_false]
  show (((0:Int) == ((sortT w:Nat):Int)) || ((8:Int) == ((sortT w:Nat):Int)))=_
  rw [Bool.eq_iff_iff,Bool.or_eq_true,beq_iff_eq,beq_iff_eq,decide_eq_true_iff]
  lia
 rw [ei]
 refine ite2 (fun h3=>?_) (fun h3=>?_)
 ·rw [eo,if_pos (of_decide_eq_true h3)] at q
  exact q _ S5
 rw [eo,if_neg (fun z=>h3 (decide_eq_true z))] at q
 refine⟨_,rfl,rfl,_,rfl,ite2 (fun h7=>?_) (fun h7=>?_)⟩
 ·have e7:sortT w=7:=by have:=V.int.inj (of_decide_eq_true h7); lia
  rw [if_pos e7] at q
  exact⟨_,rfl,x,w,rfl,ht.mono (.of S5),fun y H6 S6 t6=>⟨Nat.zero_le _,fun p7 g7=>⟨loadT w,leaf,t6.mono (.new g7),leaf_tr upd_same,by lia,q _ (S5.trans (S6.trans (same_new g7 _)))⟩⟩⟩
 ·have e7:sortT w≠7:=fun z=>h7 (by rw [z]; exact decide_eq_true rfl)
  rw [if_neg e7] at q
  refine⟨_,rfl,rfl,_,rfl,ite2 (fun h9=>?_) (fun h9=>?_)⟩
  ·have e9:sortT w=9:=by have:=V.int.inj (of_decide_eq_true h9); lia
   rw [decide_eq_true e9,Bool.true_or] at q
   exact q _ S5
  ·have e9:sortT w≠9:=fun z=>h9 (by rw [z]; exact decide_eq_true rfl)
   rw [decide_eq_false e9,Bool.false_or] at q
   exact⟨_,rfl,x,w,rfl,ht.mono (.of S5),fun y H6 S6 t6=>⟨Nat.zero_le _,fun p7 g7=>⟨loadT w,leaf,t6.mono (.new g7),leaf_tr upd_same,by lia,q _ (S5.trans (S6.trans (same_new g7 _)))⟩⟩⟩
theorem ok_spelled {u_LAY:Value} (m_LAY:mg "LAY"=some u_LAY) (r_LAY:RelV (.int 0) u_LAY) {u_FORK:Value} (m_FORK:mg "FORK"=some u_FORK) (r_FORK:RelV (.int 7) u_FORK) {a_NAMES:Addr} (m_NAMES:mg "NAMES"=some (.ref a_NAMES)) (q_NAMES:∀ H,SqT K H a_NAMES [.str (PySem.Str.ofString "lay"),.str (PySem.Str.ofString "drop"),.str (PySem.Str.ofString "twin"),.str (PySem.Str.ofString "swap"),.str (PySem.Str.ofString "front"),.str (PySem.Str.ofString "part"),.str (PySem.Str.ofString "turn"),.str (PySem.Str.ofString "fork"),.str (PySem.Str.ofString "while")]) {u_WHILE:Value} (m_WHILE:mg "WHILE"=some u_WHILE) (r_WHILE:RelV (.int 8) u_WHILE)
  {a_odd:Addr}{d_odd:FuncData} (F_odd:Fun K "odd" "odd" s_odd a_odd d_odd) (G_odd:FnOk P w K mg base CX0 33 a_odd d_odd ["word"] (spOdd K)) (b_odd:Binds K d_odd ["word"] []) (m_odd:mg "odd"=some (.ref a_odd))
  {a_show_tree:Addr}{d_show_tree:FuncData} (F_show_tree:Fun K "show_tree" "show_tree" s_show_tree a_show_tree d_show_tree) (G_show_tree:FnOk P w K mg base CX0 33 a_show_tree d_show_tree ["tree"] (spShowT K)) (b_show_tree:Binds K d_show_tree ["tree"] []) (m_show_tree:mg "show_tree"=some (.ref a_show_tree))
  {a_sort_of:Addr}{d_sort_of:FuncData} (F_sort_of:Fun K "sort_of" "sort_of" s_sort_of a_sort_of d_sort_of) (G_sort_of:FnOk P w K mg base CX0 33 a_sort_of d_sort_of ["word"] (spSortL K)) (b_sort_of:Binds K d_sort_of ["word"] []) (m_sort_of:mg "sort_of"=some (.ref a_sort_of))
  {a_load_of:Addr}{d_load_of:FuncData} (F_load_of:Fun K "load_of" "load_of" s_load_of a_load_of d_load_of) (G_load_of:FnOk P w K mg base CX0 33 a_load_of d_load_of ["word"] (spRest K)) (b_load_of:Binds K d_load_of ["word"] []) (m_load_of:mg "load_of"=some (.ref a_load_of))
  {a_first:Addr}{d_first:FuncData} (F_first:Fun K "first" "first" s_first a_first d_first) (G_first:FnOk P w K mg base CX0 33 a_first d_first ["tree"] (spFirst K)) (b_first:Binds K d_first ["tree"] []) (m_first:mg "first"=some (.ref a_first))
  {a_rest:Addr}{d_rest:FuncData} (F_rest:Fun K "rest" "rest" s_rest a_rest d_rest) (G_rest:FnOk P w K mg base CX0 33 a_rest d_rest ["tree"] (spRest K)) (b_rest:Binds K d_rest ["tree"] []) (m_rest:mg "rest"=some (.ref a_rest))
  (F:Fun K "spelled" "spelled" s_spelled f fd):FnOk P w K mg base CX0 34 f fd ["word"] (spSpelled K):=by
 refine okQ F sc_spelled (fun vs H Q E h=>?_) (fun cdv A outer s H vs Q E hr h=>?_)
 ·obtain⟨x,w,rfl,_⟩:=h
  rfl
 obtain⟨x,w,rfl,ht,hb,q⟩:=h
 refine⟨_,(qss_cons (qs_if (qt_val (qe_call G_odd hr rfl m_odd F_odd.kp b_odd .nil pass0 (qa_cons (qv 0) qa_nil))) (qss_one (qs_ret (qe_tup (qa_cons (qe_op op_add_str qe_str (qe_call G_show_tree hr rfl m_show_tree F_show_tree.kp b_show_tree .nil pass0 (qa_cons (qv 0) qa_nil))) qa_nil)))) qss_nil)
   (qss_cons (qs_set (i:=1) sc_spelled.nd rfl (Or.inl rfl) (qe_call G_sort_of hr rfl m_sort_of F_sort_of.kp b_sort_of .nil pass0 (qa_cons (qv 0) qa_nil)))
   (qss_cons (qs_set (i:=2) sc_spelled.nd rfl (Or.inl rfl) (qe_call G_load_of hr rfl m_load_of F_load_of.kp b_load_of .nil pass0 (qa_cons (qv 0) qa_nil)))
   (qss_cons (qs_if (qt_cmpR op_eq (qv 1) (qe_glob (v:=.int 0) rfl m_LAY r_LAY) (nomark _)) (qss_one (qs_ret (qe_tup (qa_cons (qe_op op_add_str qe_str (qe_call G_show_tree hr rfl m_show_tree F_show_tree.kp b_show_tree .nil pass0 (qa_cons (qv 2) qa_nil))) qa_nil)))) qss_nil)
   (qss_cons (qs_if (qt_cmpR op_eq (qv 1) (qe_glob (v:=.int 7) rfl m_FORK r_FORK) (nomark _)) (qss_one (qs_ret (qe_op op_catTA (qe_op op_catTA (qe_op op_catTA (qe_op op_catTA (qe_tup (qa_cons (qe_ix ix_tup (qe_glob (v:=.ref a_NAMES) rfl m_NAMES rfl) (qe_glob (v:=.int 7) rfl m_FORK r_FORK) (fun _ _=>rfl)) (qa_cons qe_str qa_nil))) (qe_call G_first hr rfl m_first F_first.kp b_first .nil pass0 (qa_cons (qv 2) qa_nil))) (qe_tup (qa_cons qe_str qa_nil))) (qe_call G_rest hr rfl m_rest F_rest.kp b_rest .nil pass0 (qa_cons (qv 2) qa_nil))) (qe_tup (qa_cons qe_str qa_nil))))) qss_nil)
   (qss_cons (qs_if (qt_cmpR op_eq (qv 1) (qe_glob (v:=.int 8) rfl m_WHILE r_WHILE) (nomark _)) (qss_one (qs_ret (qe_op op_catTA (qe_op op_catTA (qe_tup (qa_cons (qe_ix ix_tup (qe_glob (v:=.ref a_NAMES) rfl m_NAMES rfl) (qe_glob (v:=.int 8) rfl m_WHILE r_WHILE) (fun _ _=>rfl)) (qa_cons qe_str qa_nil))) (qv 2)) (qe_tup (qa_cons qe_str qa_nil))))) qss_nil)
   (qss_one (qs_ret (qe_tup (qa_cons (qe_ix ix_tup (qe_glob (v:=.ref a_NAMES) rfl m_NAMES rfl) (qv 1) (fun _ _=>rfl)) qa_nil)))))))))),?_⟩
 have hd:=hb.1
 have hp:=hb.2
 have nmq:∀ H,SqT K H a_NAMES namesV:=fun H=>by rw [← names_tx]; exact q_NAMES H
 have hlp:(loadT w).parts≤100000:=by
  have:=load_lt w
  have:=T.parts_kids (loadT w)
  lia
 have hld:=load_deep w
 have hbl:B 400 100000 (loadT w):=⟨by lia,hlp⟩
 have kl:=(B_kids hbl).len
 have ky:=(B_kids (B_ats (B_kids hbl) 0)).len
 have kn:=(B_kids (B_loadT hbl)).len
 refine⟨_,rfl,x,w,rfl,ht,hb,fun H1 S1=>⟨_,rfl,ite2 (fun ho=>?_) (fun ho=>?_)⟩⟩
 ·have e:spelledT w=[.inr (33::w.wr)]:=by unfold spelledT; rw [if_pos ho]
  rw [e] at q
  refine⟨_,rfl,x,w,rfl,ht.mono (.of S1),hp,fun H2 S2=>⟨_,_,rfl,rfl,?_,(by show 1≤sizeLine; decide),fun p3 g3=>?_⟩⟩
  ·rw [tx_bang,tx_len,tx_len,T.wr_len]
   exact small (by show 1+_≤_; lia)
  ·obtain⟨S3,t3⟩:=itN (K:=K) g3 (All2.one (show IR K _ (.inr (33::w.wr)) (.str (PySem.Str.ofString "!"++tx w.wr)) from congrArg V.str (by rw [tx_bang,tx_append]; rfl)))
   exact q _ _ (S1.trans (S2.trans S3)) t3
 have ho:oddT w=false:=Bool.eq_false_iff.mpr ho
 have h8:=odd_sort ho
 dsimp only [tNext]
 refine setQ (fun v=>[some x,some v,none]) (fun _=>rfl) (fun v H'=>v=.int (sortT w:Nat)∧Same H H') (fun R r=>⟨_,rfl,x,w,rfl,ht.mono (.of S1),hd,fun H4 S4=>r _ _ ⟨rfl,S1.trans S4⟩⟩) (fun v4 H4 h4=>?_)
 obtain⟨rfl,S4⟩:=h4
 refine setQ (fun v=>[some x,some (.int (sortT w:Nat)),some v]) (fun _=>rfl) (fun v H'=>TR K H' (loadT w) v∧Same H H') (fun R r=>⟨_,rfl,x,w,rfl,ht.mono (.of S4),fun y H5 S5 t5=>r _ _ ⟨t5,S4.trans S5⟩⟩) (fun v5 H5 h5=>?_)
 obtain⟨t5,S5⟩:=h5
 refine⟨_,rfl,rfl,_,rfl,ite2 (fun h0=>?_) (fun h0=>?_)⟩
 ·have e0:sortT w=0:=by have:=V.int.inj (of_decide_eq_true h0); lia
  have e:spelledT w=[.inr (39::(loadT w).wr)]:=by unfold spelledT; rw [if_neg (by rw [ho]; decide),if_pos e0]
  rw [e] at q
  refine⟨_,rfl,v5,loadT w,rfl,t5,hlp,fun H6 S6=>⟨_,_,rfl,rfl,?_,(by show 1≤sizeLine; decide),fun p7 g7=>?_⟩⟩
  ·rw [tx_tick,tx_len,tx_len,T.wr_len]
   exact small (by show 1+_≤_; lia)
  ·obtain⟨S7,t7⟩:=itN (K:=K) g7 (All2.one (show IR K _ (.inr (39::(loadT w).wr)) (.str (PySem.Str.ofString "'"++tx (loadT w).wr)) from congrArg V.str (by rw [tx_tick,tx_append]; rfl)))
   exact q _ _ (S5.trans (S6.trans S7)) t7
 have e0:sortT w≠0:=fun z=>h0 (by rw [z]; exact decide_eq_true rfl)
 refine⟨_,rfl,rfl,_,rfl,ite2 (fun h7=>?_) (fun h7=>?_)⟩
 ·have e7:sortT w=7:=by have:=V.int.inj (of_decide_eq_true h7); lia
  have e:spelledT w=[.inr (nmC 7),.inr [91]]++(ats (loadT w).kids 0).kids.map .inl++[.inr [124]]++(loadT (loadT w)).kids.map .inl++[.inr [93]]:=by unfold spelledT; rw [if_neg (by rw [ho]; decide),if_neg (by lia),if_pos e7]
  rw [e] at q
  refine⟨a_NAMES,_,7,_,rfl,rfl,nmq _,name_at (k:=7) (by decide),(by show 2≤sizeLine; decide),fun p6 g6=>?_⟩
  obtain⟨S6,t6⟩:=itN (K:=K) g6 (xs:=[.str (tx (nmC 7)),.str (PySem.Str.ofString "[")]) (its:=[.inr (nmC 7),.inr [91]]) (.cons rfl (.cons (congrArg V.str tx_lb) .nil))
  refine⟨_,rfl,v5,loadT w,rfl,t5.mono (.of S6),by lia,fun y7 H7 S7 t7=>nCatI (t6.mono (.of S7)) (TR.it (TR_kids t7)) (small (by rw [List.length_map]; show 2+_≤_; lia)) (fun z8 H8 S8 t8=>⟨(by show 1≤sizeLine; decide),fun p9 g9=>?_⟩)⟩
  obtain⟨S9,t9⟩:=itN (K:=K) g9 (xs:=[.str (PySem.Str.ofString "|")]) (its:=[.inr [124]]) (.cons (congrArg V.str tx_bar) .nil)
  have S69:=S6.trans (S7.trans (S8.trans S9))
  refine nCatI (t8.mono (.of S9)) t9 (small (by rw [List.length_append,List.length_map]; show 2+_+1≤_; lia)) (fun z10 H10 S10 t10=>⟨_,rfl,v5,loadT w,rfl,t5.mono (.of (S69.trans S10)),fun y11 H11 S11 t11=>nCatI (t10.mono (.of S11)) (TR.it (TR_kids t11)) (small (by rw [List.length_append,List.length_append,List.length_map,List.length_map]; show 2+_+1+_≤_; lia)) (fun z12 H12 S12 t12=>⟨(by show 1≤sizeLine; decide),fun p13 g13=>?_⟩)⟩)
  obtain⟨S13,t13⟩:=itN (K:=K) g13 (xs:=[.str (PySem.Str.ofString "]")]) (its:=[.inr [93]]) (.cons (congrArg V.str tx_rb) .nil)
  exact nCatI (t12.mono (.of S13)) t13 (small (by rw [List.length_append,List.length_append,List.length_append,List.length_map,List.length_map]; show 2+_+1+_+1≤_; lia)) (fun z14 H14 S14 t14=>q _ _ (S5.trans (S69.trans (S10.trans (S11.trans (S12.trans (S13.trans S14)))))) t14)
 have e7:sortT w≠7:=fun z=>h7 (by rw [z]; exact decide_eq_true rfl)
 refine⟨_,rfl,rfl,_,rfl,ite2 (fun h8'=>?_) (fun h8'=>?_)⟩
 ·have e8:sortT w=8:=by have:=V.int.inj (of_decide_eq_true h8'); lia
  have e:spelledT w=[.inr (nmC 8),.inr [91]]++(loadT w).kids.map .inl++[.inr [93]]:=by unfold spelledT; rw [if_neg (by rw [ho]; decide),if_neg (by lia),if_neg (by lia),if_pos e8]
  rw [e] at q
  refine⟨a_NAMES,_,8,_,rfl,rfl,nmq _,name_at (k:=8) (by decide),(by show 2≤sizeLine; decide),fun p6 g6=>?_⟩
  obtain⟨S6,t6⟩:=itN (K:=K) g6 (xs:=[.str (tx (nmC 8)),.str (PySem.Str.ofString "[")]) (its:=[.inr (nmC 8),.inr [91]]) (.cons rfl (.cons (congrArg V.str tx_lb) .nil))
  refine⟨_,rfl,nCatI t6 (TR.it (TR_kids (t5.mono (.of S6)))) (small (by rw [List.length_map]; show 2+_≤_; lia)) (fun z8 H8 S8 t8=>⟨(by show 1≤sizeLine; decide),fun p9 g9=>?_⟩)⟩
  obtain⟨S9,t9⟩:=itN (K:=K) g9 (xs:=[.str (PySem.Str.ofString "]")]) (its:=[.inr [93]]) (.cons (congrArg V.str tx_rb) .nil)
  exact nCatI (t8.mono (.of S9)) t9 (small (by rw [List.length_append,List.length_map]; show 2+_+1≤_; lia)) (fun z10 H10 S10 t10=>q _ _ (S5.trans (S6.trans (S8.trans (S9.trans S10)))) t10)
 have e8:sortT w≠8:=fun z=>h8' (by rw [z]; exact decide_eq_true rfl)
 have e:spelledT w=[.inr (nmC (sortT w))]:=by unfold spelledT; rw [if_neg (by rw [ho]; decide),if_neg e0,if_neg e7,if_neg e8]
 rw [e] at q
 refine⟨_,rfl,a_NAMES,_,_,_,rfl,rfl,nmq _,name_at (k:=sortT w) (by lia),(by show 1≤sizeLine; decide),fun p6 g6=>?_⟩
 obtain⟨S6,t6⟩:=itN (K:=K) g6 (its:=[.inr (nmC (sortT w))]) (.cons rfl .nil)
 exact q _ _ (S5.trans S6) t6
end
end Sw25
namespace Sw25
open PySem PySem.Spec PyProof.Rows L2 Sw
abbrev s___init__:Stmt:=inClass (top 33) 0
abbrev s_take:Stmt:=inClass (top 33) 1
abbrev s_enter:Stmt:=inClass (top 33) 2
abbrev s_leave:Stmt:=inClass (top 33) 3
abbrev s_bracketed:Stmt:=inClass (top 33) 4
abbrev s_add_word:Stmt:=inClass (top 33) 5
abbrev s_whole:Stmt:=inClass (top 33) 6
theorem sc___init__:FnScope ["self"] ["self"] (defScope s___init__):=⟨rfl,rfl,rfl,by decide +kernel,rfl,by decide +kernel,by decide +kernel⟩
theorem sc_take:FnScope ["self","piece"] ["self","piece"] (defScope s_take):=⟨rfl,rfl,rfl,by decide +kernel,rfl,by decide +kernel,by decide +kernel⟩
theorem sc_enter:FnScope ["self","place"] ["self","place"] (defScope s_enter):=⟨rfl,rfl,rfl,by decide +kernel,rfl,by decide +kernel,by decide +kernel⟩
theorem sc_leave:FnScope ["self"] ["self"] (defScope s_leave):=⟨rfl,rfl,rfl,by decide +kernel,rfl,by decide +kernel,by decide +kernel⟩
theorem sc_bracketed:FnScope ["self","no"] ["self"] (defScope s_bracketed):=⟨rfl,rfl,rfl,by decide +kernel,rfl,by decide +kernel,by decide +kernel⟩
theorem sc_add_word:FnScope ["self","word"] ["self","word"] (defScope s_add_word):=⟨rfl,rfl,rfl,by decide +kernel,rfl,by decide +kernel,by decide +kernel⟩
theorem sc_whole:FnScope ["self"] ["self"] (defScope s_whole):=⟨rfl,rfl,rfl,by decide +kernel,rfl,by decide +kernel,by decide +kernel⟩
end Sw25
namespace Sw25
open PySem PySem.Spec PyProof.Rows L2 Sw
section
variable {P:Program}{w:World}{K:PySem.W.Frag}{mg:Str→Option Value}{base:Heap}{f:Addr}{fd:FuncData}
abbrev bmV:List Value:=[.type "ValueError",.type "Exception",.type "BaseException",.type "object"]
section
variable {P:Program}{w:World}{K:PySem.W.Frag}{mg:Str→Option Value}{base:Heap}{N:List Str}{qual:Str}{scope:Scope}{f:Addr}{cd:Value}{A:Around}{outer:List Env}{s₀:Shared}{H₀:Hp}{E:XK}
theorem qs_tryTurn {xB x2:Str}{D0 C2:Addr}{B newId initId:String}{bmB:List Value}{body:List Stmt}{ts:TS}{np np2 cpos cp rpos hp pos3:Pos}{kk:Nat}
  (hb:∀ EE,Passes (CXC P w) ((cxOf (CXE P w) P w K mg base N qual scope f cd A outer s₀ H₀ E).wish EE) (ETurn K D0 C2 E)→QSs ((cxOf (CXE P w) P w K mg base N qual scope f cd A outer s₀ H₀ E).wish EE) body ts)
  (hgB:Gl (cxOf (CXE P w) P w K mg base N qual scope f cd A outer s₀ H₀ E) xB) (hmB:mg xB=some (.ref D0)) (h1:PySem.W.typeIn K (.ref D0)=some (.type "type")) (h2:PySem.W.subIn K (.ref D0) (.type "BaseException")=some true) (hD:∃ cd,PySem.W.clsIn K D0=some cd)
  (FB:ExcBaseFacts B newId initId bmB) (q:PySem.W.excIn K C2 bmB newId=true) (hk:PySem.W.keepIn K (.ref C2)=true) (hg:Gl (cxOf (CXE P w) P w K mg base N qual scope f cd A outer s₀ H₀ E) x2) (hm:mg x2=some (.ref C2))
  (hdB:(xB == ("__debug__":Str))=false:=by decide) (hd2:(x2 == ("__debug__":Str))=false:=by decide) :
  QS (cxOf (CXE P w) P w K mg base N qual scope f cd A outer s₀ H₀ E) (.Try body [.ExceptHandler (some (.Name xB np)) none [.Raise (some (.Call (.Name x2 np2) [] [] cpos)) (some (.Constant .none kk cp)) rpos] hp] [] [] pos3) ts:=⟨ps_tryTurn hb hgB hmB h1 h2 hD FB q hk hg hm hdB hd2⟩
end
def NoStr (K:PySem.W.Frag) (H:Hp) (x:V):Prop:=∃ ty,TyOf K H x ty∧PySem.W.kitOne K ty (.type "str")=some false
def spReadTree (K:PySem.W.Frag) (cT:Addr):Sp:=fun vs H Q E=>∃ l,vs=[.str (tx l)]∧l.length≤400000∧(∀ t,treeP l=some t→∀ y H',Same H H'→TR K H' t y→Q y H')∧(treeP l=none→∀ H',Same H H'→E (.ref cT) none H')
def spTreeOfX (K:PySem.W.Frag) (cX:Addr):Sp:=fun vs H Q E=>∃ l,vs=[.str (tx l)]∧l.length≤400000∧(∀ t,treeP l=some t→∀ y H',Same H H'→TR K H' t y→Q y H')∧(treeP l=none→∀ H',Same H H'→E (.ref cX) none H')
def spWofX (K:PySem.W.Frag) (cX:Addr):Sp:=fun vs H Q E=>∃ p,vs=[.str (tx p)]∧p.length≤90000∧FlatQ 390 p∧(∀ w,wordP p=some w→∀ y H',Same H H'→TR K H' w y→Q y H')∧(wordP p=none→∀ H',Same H H'→E (.ref cX) none H')
def spBrackX (K:PySem.W.Frag) (C cX:Addr):Sp:=fun vs H Q E=>∃ (o:Addr) (H₀:Hp) (st:List (List T)) (pl:List (List Nat)) (nm:List Nat),vs=[.ref o]∧RdAt K C H₀ H o st pl nm ∧
 ((∃ st2 pl2 t,((∃ r,st=r::st2∧pl=bodyC::pl2∧t=loopW r∧B 400 1000000 (.node r))∨(∃ n y,st=n::y::st2∧pl=noC::yesC::pl2∧t=forkW y n∧B 400 1000000 (.node n)∧B 400 1000000 (.node y)))∧∀ x H',Kt H H'→RdAt K C H₀ H' o st2 pl2 nm→TR K H' t x→Q x H') ∨ (∃ c pl2,pl=c::pl2∧c≠bodyC∧c≠noC∧∀ H',Same H₀ H'→E (.ref cX) none H'))
def spWholeX (K:PySem.W.Frag) (C cX:Addr):Sp:=fun vs H Q E=>∃ (o:Addr) (H₀:Hp) (st:List (List T)) (pl:List (List Nat)) (nm:List Nat),vs=[.ref o]∧RdAt K C H₀ H o st pl nm∧(∀ r,st=[r]→nm=[]→∀ y H',Same H₀ H'→TR K H' (.node r) y→Q y H')∧((nm≠[]∨st.length≠1)→∀ H',Same H₀ H'→E (.ref cX) none H')
def spTakeX (K:PySem.W.Frag) (C cX:Addr):Sp:=fun vs H Q E=>∃ (o:Addr) (p:List Nat) (H₀:Hp) (a:Rst),vs=[.ref o,.str (tx p)]∧RdAt K C H₀ H o a.st a.pl a.nm∧WF a∧Sz a∧p.length≤90000∧FlatQ 390 p∧(∀ b H',stpF a p=some b→Kt H H'→RdAt K C H₀ H' o b.st b.pl b.nm→Q .non H')∧(stpF a p=none→∀ H',Same H₀ H'→E (.ref cX) none H')
def spPiecesX (K:PySem.W.Frag):Sp:=fun vs H Q _=>∃ ps:List (List Nat),vs=[.str (tx (joinL [32] ps))]∧RowZ ps∧(joinL [32] ps).length≤8000000∧∀ D,H D=none→Q (.ref D) (upd H D (.lst (ps.map fun p=>V.str (tx p))))
def RowOk (ps:List (List Nat)):Prop:=RowZ ps∧RowQ ps
def spReadAny (K:PySem.W.Frag) (cX:Addr):Sp:=fun vs H Q E=>∃ x,vs=[x]∧((∃ ps,x=.str (tx (joinL [32] ps))∧RowOk ps∧(∀ r,readF ps=some r→∀ y H',Same H H'→TR K H' (.node r) y→Q y H')∧(readF ps=none→∀ H',Same H H'→E (.ref cX) none H'))∨(NoStr K H x∧E (.ref cX) none H))
theorem ok___init__ {C:Addr} (cC:Cls K C) (nR:NoAttr K C "rows") (nP:NoAttr K C "places") (nN:NoAttr K C "named")
  (F:Fun K "__init__" "Reading.__init__" s___init__ f fd):FnOk P w K mg base CX0 31 f fd ["self"] (spInit K C):=by
 refine okQ F sc___init__ (fun vs H Q E h=>?_) (fun cdv A outer s H vs Q E hr h=>?_)
 ·obtain⟨o,dx,H₀,rfl,_⟩:=h
  rfl
 obtain⟨o,dx,H₀,rfl,S0,o0,ho,q⟩:=h
 refine⟨_,(qss_cons (qs_fld (qv 0) (qe_lst (qa_cons (qe_lst qa_nil) qa_nil)) rfl)
   (qss_cons (qs_fld (qv 0) (qe_lst (qa_cons qe_str qa_nil)) rfl)
   (qss_one (qs_fld (qv 0) qe_str rfl)))),?_⟩
 refine⟨Nat.zero_le _,fun q1 g1=>⟨(by show 1≤sizeLine; decide),fun q2 g2=>?_⟩⟩
 have S1:=same_new g1 (.lst [])
 have S2:=same_new g2 (.lst [.ref q1])
 have n21:q1≠q2:=fun z=>by rw [← z,upd_same] at g2; cases g2
 have o1:o≠q1:=ne_of_none ho g1
 have o2:o≠q2:=ne_of_none (S1 _ _ ho) g2
 have ho2:=S2 _ _ (S1 _ _ ho)
 have h1a:=S2 _ _ (upd_same (H:=H) (a:=q1) (o:=.lst []))
 have h2a:upd (upd H q1 (.lst [])) q2 (.lst [.ref q1]) q2=some (.lst [.ref q1]):=upd_same
 have S12:=S1.trans S2
 generalize upd (upd H q1 (.lst [])) q2 (.lst [.ref q1])=Ha at ho2 h1a h2a S12
 refine⟨_,rfl,o,C,dx,_,rfl,ho2,cC,nR,(by show 0<1000; decide),(by show 1≤sizeLine; decide),fun q3 g3=>?_⟩
 have k1:=Kt.ins (x:=.ins C dx (putF "rows" (.ref q2) [])) ho2
 have hb0:upd Ha o (.ins C dx (putF "rows" (.ref q2) [])) o=some (.ins C dx (putF "rows" (.ref q2) [])):=upd_same
 have hb1:upd Ha o (.ins C dx (putF "rows" (.ref q2) [])) q1=some (.lst []):=by rw [upd_ne (Ne.symm o1)]; exact h1a
 have hb2:upd Ha o (.ins C dx (putF "rows" (.ref q2) [])) q2=some (.lst [.ref q1]):=by rw [upd_ne (Ne.symm o2)]; exact h2a
 have Sb:Same H₀ (upd Ha o (.ins C dx (putF "rows" (.ref q2) []))):=same_upd (S0.trans S12) o0
 generalize upd Ha o (.ins C dx (putF "rows" (.ref q2) []))=Hb at g3 k1 hb0 hb1 hb2 Sb ⊢
 have S3:=same_new g3 (.lst [.str (PySem.Str.ofString "text")])
 have o3:o≠q3:=ne_of_none hb0 g3
 have n13:q1≠q3:=ne_of_none hb1 g3
 have n23:q2≠q3:=ne_of_none hb2 g3
 have hl1:(putF "rows" (.ref q2) []).length≤1:=putF_len _ _ _
 have hl2:=putF_len "places" (.ref q3) (putF "rows" (.ref q2) [])
 refine⟨_,rfl,o,C,dx,_,rfl,S3 _ _ hb0,cC,nP,by lia,?_⟩
 refine⟨_,rfl,o,C,dx,_,rfl,upd_same,cC,nN,by lia,?_⟩
 have kc0:=S3 _ _ hb0
 have hc1:=S3 _ _ hb1
 have hc2:=S3 _ _ hb2
 have hc3:upd Hb q3 (.lst [.str (PySem.Str.ofString "text")]) q3=some (.lst [.str (PySem.Str.ofString "text")]):=upd_same
 have Sc:=Sb.trans S3
 have q30:H₀ q3=none:=Sb.free g3
 have q20:H₀ q2=none:=(S0.trans S1).free g2
 have q10:H₀ q1=none:=S0.free g1
 have kc:=(Kt.of S12).trans (k1.trans (Kt.of S3))
 generalize upd Hb q3 (.lst [.str (PySem.Str.ofString "text")])=Hc at kc0 hc1 hc2 hc3 Sc kc ⊢
 have k3:=Kt.ins (x:=.ins C dx (putF "places" (.ref q3) (putF "rows" (.ref q2) []))) kc0
 have hd0:upd Hc o (.ins C dx (putF "places" (.ref q3) (putF "rows" (.ref q2) []))) o=some (.ins C dx (putF "places" (.ref q3) (putF "rows" (.ref q2) []))):=upd_same
 have k4:=Kt.ins (x:=.ins C dx (putF "named" (.str (PySem.Str.ofString "")) (putF "places" (.ref q3) (putF "rows" (.ref q2) [])))) hd0
 have at4:∀ {b:Addr}{z:HO},b≠o→Hc b=some z→upd (upd Hc o (.ins C dx (putF "places" (.ref q3) (putF "rows" (.ref q2) [])))) o (.ins C dx (putF "named" (.str (PySem.Str.ofString "")) (putF "places" (.ref q3) (putF "rows" (.ref q2) [])))) b=some z:=fun hb e=>by rw [upd_ne hb,upd_ne hb]; exact e
 refine q _ (kc.trans (k3.trans k4)) ⟨dx,q2,q3,[.ref q1],?_,o0,q30,⟨q20,same_upd (same_upd Sc o0) o0,at4 (Ne.symm o2) hc2,All2.one ⟨q1,[],rfl,q10,at4 (Ne.symm o1) hc1,TRs_nil.mpr rfl⟩,?_⟩,?_,?_⟩
 ·rw [upd_same,tx_nil]
  rfl
 ·refine List.nodup_cons.mpr ⟨fun z=>n21 (V.ref.inj (List.mem_singleton.mp z)).symm,by simp⟩
 ·rw [at4 (Ne.symm o3) hc3,tx_text]
  rfl
 ·intro z
  rcases List.mem_cons.mp z with z | z
  ·exact n23 (V.ref.inj z).symm
  ·exact n13 (V.ref.inj (List.mem_singleton.mp z)).symm
theorem ok_enter {C:Addr} (cC:Cls K C) (nR:NoAttr K C "rows") (nP:NoAttr K C "places") (nN:NoAttr K C "named")
  (F:Fun K "enter" "Reading.enter" s_enter f fd):FnOk P w K mg base CX0 31 f fd ["self","place"] (spEnter K C):=by
 refine okQ F sc_enter (fun vs H Q E h=>?_) (fun cdv A outer s H vs Q E hr h=>?_)
 ·obtain⟨o,c,H₀,st,pl,nm,rfl,_⟩:=h
  rfl
 obtain⟨o,c,H₀,st,pl,nm,rfl,h,hst,hpl,q⟩:=h
 refine⟨_,(qss_cons (qs_expr (qe_bm PySem.F.plainAttrs_list PySem.F.slot_list_append PySem.F.type_list_append mt_append (qe_fld (qv 0) rfl) (qa_cons (qe_lst qa_nil) qa_nil)))
   (qss_one (qs_expr (qe_bm PySem.F.plainAttrs_list PySem.F.slot_list_append PySem.F.type_list_append mt_append (qe_fld (qv 0) rfl) (qa_cons (qv 1) qa_nil))))),?_⟩
 obtain⟨dx,R,P,ys,h⟩:=h
 have hyl:ys.length=st.length:=by rw [h.rows.rows.length,List.length_reverse]
 refine⟨_,rfl,o,C,dx,_,_,rfl,h.ob,cC,nR,fl_rows,.inl ⟨rfl,_,SqL.of h.rows.at_⟩,Nat.zero_le _,fun q1 g1=>⟨R,ys,_,rfl,rfl,(same_new g1 _) _ _ h.rows.at_,smallL (by lia),?_⟩⟩
 have h2:=h.enter g1
 have k1:Kt H (upd (upd H q1 (.lst [])) R (.lst (ys++[.ref q1]))):=(Kt.new g1).trans (Kt.lst ((same_new g1 _) _ _ h.rows.at_))
 refine⟨_,rfl,o,C,dx,_,_,rfl,h2.ob,cC,nP,fl_places,.inl ⟨rfl,_,SqL.of h2.at_⟩,_,rfl,P,_,_,rfl,rfl,h2.at_,smallL (by rw [plV_len]; lia),?_⟩
 exact q _ (k1.trans (Kt.lst h2.at_)) ⟨dx,R,P,_,h2.place (plV_cons c pl).symm⟩
theorem ok_leave {C:Addr} (cC:Cls K C) (nR:NoAttr K C "rows") (nP:NoAttr K C "places") (nN:NoAttr K C "named") (m_tuple:mg "tuple"=none)
  (F:Fun K "leave" "Reading.leave" s_leave f fd):FnOk P w K mg base CX0 31 f fd ["self"] (spLeave K C):=by
 refine okQ F sc_leave (fun vs H Q E h=>?_) (fun cdv A outer s H vs Q E hr h=>?_)
 ·obtain⟨o,c,H₀,r,st,pl,nm,rfl,_⟩:=h
  rfl
 obtain⟨o,c,H₀,r,st,pl,nm,rfl,h,q⟩:=h
 refine⟨_,(qss_cons (qs_expr (qe_bm0 PySem.F.plainAttrs_list PySem.F.slot_list_pop PySem.F.type_list_pop mt_pop (qe_fld (qv 0) rfl)))
   (qss_one (qs_ret (qe_callTy call_tuple_of rfl m_tuple bt_tuple (qa_cons (qe_bm0 PySem.F.plainAttrs_list PySem.F.slot_list_pop PySem.F.type_list_pop mt_pop (qe_fld (qv 0) rfl)) qa_nil))))),?_⟩
 obtain⟨dx,R,P,ys,h⟩:=h
 refine⟨_,rfl,o,C,dx,_,_,rfl,h.ob,cC,nP,fl_places,.inl ⟨rfl,_,SqL.of h.at_⟩,P,_,_,rfl,rfl,h.at_,(by rw [plV_cons]; exact snoc_last _ _),?_⟩
 have h2:RdX K C H₀ _ o dx R P ys (r::st) pl nm:=h.place (zs:=(plV (c::pl)).dropLast) (by rw [plV_cons,snoc_drop])
 obtain⟨ys0,a,xs,rfl,nRa,ha,hr,h3⟩:=h2.shut
 have k1:=Kt.lst (o:=.lst (plV (c::pl)).dropLast) h.at_
 have k2:=Kt.lst (o:=.lst (ys0++[V.ref a]).dropLast) h2.rows.at_
 refine⟨_,rfl,o,C,dx,_,_,rfl,h2.ob,cC,nR,fl_rows,.inl ⟨rfl,_,SqL.of h2.rows.at_⟩,R,_,_,rfl,rfl,h2.rows.at_,snoc_last _ _,?_⟩
 rw [snoc_drop] at k2 ⊢
 refine⟨a,xs,rfl,.inl ⟨SqL.of (by rw [upd_ne (Ne.symm nRa)]; exact ha),fun l gl=>q _ _ (k1.trans (k2.trans (Kt.new gl))) ⟨dx,R,P,_,h3.grow (same_new gl _)⟩ (TR_mk (SqT.of upd_same) ((hr.mono k2).mono (Kt.new gl)))⟩⟩
theorem ok_add_word {C:Addr} (cC:Cls K C) (nR:NoAttr K C "rows") (nP:NoAttr K C "places") (nN:NoAttr K C "named")
  (F:Fun K "add_word" "Reading.add_word" s_add_word f fd):FnOk P w K mg base CX0 31 f fd ["self","word"] (spAddW K C):=by
 refine okQ F sc_add_word (fun vs H Q E h=>?_) (fun cdv A outer s H vs Q E hr h=>?_)
 ·obtain⟨o,x,t,H₀,r,st,pl,nm,rfl,_⟩:=h
  rfl
 obtain⟨o,x,t,H₀,r,st,pl,nm,rfl,ht,h,hrl,q⟩:=h
 refine⟨_,(qss_one (qs_expr (qe_bm PySem.F.plainAttrs_list PySem.F.slot_list_append PySem.F.type_list_append mt_append (qe_ix ix_list (qe_fld (qv 0) rfl) (qe_un un_neg qe_int) (fun _ _=>rfl)) (qa_cons (qv 1) qa_nil)))),?_⟩
 obtain⟨dx,R,P,ys,h⟩:=h
 obtain⟨ys0,a,xs,rfl,ha,hxl,h2⟩:=h.add ht
 exact⟨_,rfl,o,C,dx,_,_,rfl,h.ob,cC,nR,fl_rows,1,rfl,R,_,_,_,rfl,rfl,SqL.of h.rows.at_,at_last,.inl ⟨rfl,_,SqL.of ha⟩,_,rfl,a,_,_,rfl,rfl,ha,smallL (by lia),q _ (Kt.lst ha) ⟨dx,R,P,_,h2⟩⟩
theorem ok_bracketed {C:Addr} (cC:Cls K C) (nR:NoAttr K C "rows") (nP:NoAttr K C "places") (nN:NoAttr K C "named") {cX:Addr} (x_NoText:PySem.W.excIn K cX bmV "ValueError.__new__"=true) (m_NoText:mg "NoText"=some (.ref cX))
  {a_loop:Addr}{d_loop:FuncData} (F_loop:Fun K "loop" "loop" s_loop a_loop d_loop) (G_loop:FnOk P w K mg base CX0 32 a_loop d_loop ["body"] (spLoop K)) (b_loop:Binds K d_loop ["body"] []) (m_loop:mg "loop"=some (.ref a_loop))
  {a_fork:Addr}{d_fork:FuncData} (F_fork:Fun K "fork" "fork" s_fork a_fork d_fork) (G_fork:FnOk P w K mg base CX0 32 a_fork d_fork ["yes","no"] (spFork K)) (b_fork:Binds K d_fork ["yes","no"] []) (m_fork:mg "fork"=some (.ref a_fork))
  {a_leave:Addr}{d_leave:FuncData} (M_leave:Meth K C "leave" a_leave) (G_leave:FnOk P w K mg base CX0 32 a_leave d_leave ["self"] (spLeave K C)) (b_leave:Binds K d_leave ["self"] [])
  (F:Fun K "bracketed" "Reading.bracketed" s_bracketed f fd):FnOk P w K mg base (CXE P w) 33 f fd ["self"] (spBrackX K C cX):=by
 refine okXQ F sc_bracketed (fun vs H Q E h=>?_) (fun cdv A outer s H vs Q E hr h=>?_)
 ·obtain⟨o,H₀,st,pl,nm,rfl,_⟩:=h
  rfl
 obtain⟨o,H₀,st,pl,nm,rfl,h,hc⟩:=h
 refine⟨_,(qss_cons (qs_if (qt_cmpR op_eq (qe_ix ix_list (qe_fld (qv 0) rfl) (qe_un un_neg qe_int) (fun _ _=>rfl)) qe_str (nomark _)) (qss_one (qs_ret (qe_call G_loop hr rfl m_loop F_loop.kp b_loop .nil pass0 (qa_cons (qe_meth0 (qv 0) cC M_leave G_leave hr b_leave .nil pass0) qa_nil)))) qss_nil)
   (qss_cons (qs_if (qt_cmpR op_ne (qe_ix ix_list (qe_fld (qv 0) rfl) (qe_un un_neg qe_int) (fun _ _=>rfl)) qe_str (nomark _)) (qss_one (qs_raise PySem.F.excBase_ValueError x_NoText rfl m_NoText)) qss_nil)
   (qss_cons (qs_set (i:=1) sc_bracketed.nd rfl (Or.inl rfl) (qe_meth0 (qv 0) cC M_leave G_leave hr b_leave .nil pass0))
   (qss_one (qs_ret (qe_call G_fork hr rfl m_fork F_fork.kp b_fork .nil pass0 (qa_cons (qe_meth0 (qv 0) cC M_leave G_leave hr b_leave .nil pass0) (qa_cons (qv 1) qa_nil)))))))),?_⟩
 have hsame:=h.same
 obtain⟨dx,R,P,ys,h⟩:=h
 have noL:∀ {R P:Addr}{nm:List Nat},(fl R P nm).lookup ("leave":Str)=none:=fl_no (by decide +kernel) (by decide +kernel) (by decide +kernel)
 rcases hc with⟨st2,pl2,t,hc,q⟩ | ⟨c,pl2,rfl,hb,hn,qe⟩
 rotate_left
 ·refine⟨_,rfl,o,C,dx,_,_,rfl,h.ob,cC,nP,fl_places,1,rfl,P,_,_,_,rfl,rfl,SqL.of h.at_,(by rw [plV_cons]; exact at_last),rfl,_,rfl,?_⟩
  refine iteFb (by rw [dec_txs _ bodyC tx_body]; exact decide_eq_false hb) ?_
  refine⟨_,rfl,o,C,dx,_,_,rfl,h.ob,cC,nP,fl_places,1,rfl,P,_,_,_,rfl,rfl,SqL.of h.at_,(by rw [plV_cons]; exact at_last),rfl,_,rfl,?_⟩
  refine iteTb (by rw [dec_txs _ noC tx_no,decide_eq_false hn]; rfl) (qe _ hsame)
 rcases hc with⟨r,rfl,rfl,rfl,hb⟩ | ⟨n,y,rfl,rfl,rfl,hn,hy⟩
 ·refine⟨_,rfl,o,C,dx,_,_,rfl,h.ob,cC,nP,fl_places,1,rfl,P,_,_,_,rfl,rfl,SqL.of h.at_,(by rw [plV_cons]; exact at_last),rfl,_,rfl,?_⟩
  rw [decide_eq_true (congrArg V.str tx_body.symm)]
  refine iteT ⟨_,rfl,o,dx,_,rfl,h.ob,noL,o,bodyC,H₀,r,st2,pl2,nm,rfl,⟨dx,R,P,ys,h⟩,fun y H' k1 h1 t1=>⟨y,.node r,rfl,t1,hb.1,hb.2,fun z H2 S2 t2=>q _ _ (k1.trans (.of S2)) (h1.grow S2) t2⟩⟩
 ·refine⟨_,rfl,o,C,dx,_,_,rfl,h.ob,cC,nP,fl_places,1,rfl,P,_,_,_,rfl,rfl,SqL.of h.at_,(by rw [plV_cons]; exact at_last),rfl,_,rfl,?_⟩
  rw [decide_eq_false (fun z=>absurd (tx_inj.mp ((V.str.inj z).trans tx_body)) (by decide))]
  refine iteF ?_
  refine⟨_,rfl,o,C,dx,_,_,rfl,h.ob,cC,nP,fl_places,1,rfl,P,_,_,_,rfl,rfl,SqL.of h.at_,(by rw [plV_cons]; exact at_last),rfl,_,rfl,?_⟩
  rw [decide_eq_true (congrArg V.str tx_no.symm)]
  refine iteF ?_
  refine⟨_,rfl,o,dx,_,rfl,h.ob,noL,o,noC,H₀,n,y::st2,yesC::pl2,nm,rfl,⟨dx,R,P,ys,h⟩,fun vn H1 k1 h1 t1=>?_⟩
  obtain⟨dx1,R1,P1,ys1,h1⟩:=h1
  refine⟨_,rfl,o,dx1,_,rfl,h1.ob,noL,o,yesC,H₀,y,st2,pl2,nm,rfl,⟨dx1,R1,P1,ys1,h1⟩,fun vy H2 k2 h2 t2=>⟨_,rfl,vy,.node y,vn,.node n,rfl,t2,t1.mono k2,⟨hy.1,hy.2⟩,⟨hn.1,hn.2⟩,fun z H3 S3 t3=>q _ _ (k1.trans (k2.trans (.of S3))) (h2.grow S3) t3⟩⟩
theorem ok_whole {C:Addr} (cC:Cls K C) (nR:NoAttr K C "rows") (nP:NoAttr K C "places") (nN:NoAttr K C "named") {cX:Addr} (x_NoText:PySem.W.excIn K cX bmV "ValueError.__new__"=true) (m_NoText:mg "NoText"=some (.ref cX)) (m_len:mg "len"=none) (m_tuple:mg "tuple"=none)
  (F:Fun K "whole" "Reading.whole" s_whole f fd):FnOk P w K mg base (CXE P w) 31 f fd ["self"] (spWholeX K C cX):=by
 refine okXQ F sc_whole (fun vs H Q E h=>?_) (fun cdv A outer s H vs Q E hr h=>?_)
 ·obtain⟨o,H₀,st,pl,nm,rfl,_⟩:=h
  rfl
 obtain⟨o,H₀,st,pl,nm,rfl,h,q,qe⟩:=h
 refine⟨_,(qss_cons (qs_if (QW.pt (qw_or (qt_cmpR op_ne (qe_fld (qv 0) rfl) qe_str (nomark _)) (qw_or1 (qt_cmpR op_ne (qe_callB call_len_seq rfl m_len bt_len (qa_cons (qe_fld (qv 0) rfl) qa_nil)) qe_int (nomark _))))) (qss_one (qs_raise PySem.F.excBase_ValueError x_NoText rfl m_NoText)) qss_nil)
   (qss_one (qs_ret (qe_callTy call_tuple_of rfl m_tuple bt_tuple (qa_cons (qe_ix ix_list (qe_fld (qv 0) rfl) qe_int (fun _ _=>rfl)) qa_nil))))),?_⟩
 have hsame:=h.same
 obtain⟨dx,R,P,ys,h⟩:=h
 have hyl:ys.length=st.length:=by rw [h.rows.rows.length,List.length_reverse]
 refine⟨_,rfl,o,C,dx,_,_,rfl,h.ob,cC,nN,fl_named,rfl,_,rfl,?_⟩
 rw [dec_txs _ [] tx_nil]
 by_cases hnm:nm=[]
 rotate_left
 ·exact iteTb (by rw [decide_eq_false hnm]; rfl) (qe (.inl hnm) _ hsame)
 refine iteFb (by rw [decide_eq_true hnm]; rfl) ⟨_,rfl,o,C,dx,_,_,rfl,h.ob,cC,nR,fl_rows,R,_,rfl,.inl (SqL.of h.rows.at_),rfl,_,rfl,?_⟩
 by_cases hl1:st.length=1
 rotate_left
 ·exact iteTb (by rw [decide_eq_false (fun z=>hl1 (by have:=V.int.inj z; lia))]; rfl) (qe (.inr hl1) _ hsame)
 refine iteFb (by rw [hyl,hl1]; rfl) ?_
 obtain⟨r,rfl⟩:∃ r,st=[r]:=by
  match st,hl1 with
  | [r],_=>exact⟨r,rfl⟩
 obtain⟨ys0,a,xs,rfl,nRa,ha,hr,_⟩:=h.shut
 have e0:ys0=[]:=List.length_eq_zero_iff.mp (by have h5:(ys0++[V.ref a]).length=1:=hyl; rw [List.length_append] at h5; have h5:ys0.length+1=1:=h5; lia)
 subst e0
 refine⟨_,rfl,o,C,dx,_,_,rfl,h.ob,cC,nR,fl_rows,R,_,0,_,rfl,rfl,SqL.of h.rows.at_,atI_nat (j:=0) rfl,a,xs,rfl,.inl ⟨SqL.of ha,fun l gl=>q r rfl hnm _ _ (h.rows.same.trans (same_new gl _)) (TR_mk (SqT.of upd_same) (hr.mono (Kt.new gl)))⟩⟩
theorem ok_pieces_of
  (F:Fun K "pieces_of" "pieces_of" s_pieces_of f fd):FnOk P w K mg base CX0 31 f fd ["signs"] (spPiecesX K):=by
 refine okQ F sc_pieces_of (fun vs H Q E h=>?_) (fun cdv A outer s H vs Q E hr h=>?_)
 ·obtain⟨ps,rfl,_⟩:=h
  rfl
 obtain⟨ps,rfl,hok,hlen,q⟩:=h
 refine⟨_,(qss_cons (qs_if (qt_cmpR op_eq (qv 0) qe_str (nomark _)) (qss_one (qs_ret (qe_lst qa_nil))) qss_nil)
   (qss_one (qs_ret (qe_bm PySem.F.plainAttrs_str PySem.F.slot_str_split PySem.F.type_str_split mt_split (qv 0) (qa_cons qe_str qa_nil))))),?_⟩
 obtain⟨h32,hne⟩:=hok
 refine⟨_,rfl,rfl,_,rfl,?_⟩
 rw [dec_txs _ [] tx_nil]
 refine ite2 (fun e=>?_) (fun e=>?_)
 ·have e0:ps=[]:=hne.elim id fun z=>absurd (of_decide_eq_true e) z
  subst e0
  exact⟨Nat.zero_le _,fun D gD=>q D gD⟩
 ·have hne:ps≠[]:=fun z=>e (by rw [z]; rfl)
  refine⟨_,rfl,rfl,_,32,rfl,(by rw [tx_blank]),hlen,fun D ls gD hj hl hc=>?_⟩
  rw [join_uniq hl hne hc h32 hj]
  exact q D gD
theorem ok_tree_of {cT:Addr}{cX:Addr} (m_NoTree:mg "NoTree"=some (.ref cT)) (t1_NoTree:PySem.W.typeIn K (.ref cT)=some (.type "type")) (t2_NoTree:PySem.W.subIn K (.ref cT) (.type "BaseException")=some true) (t3_NoTree:∃ cd,PySem.W.clsIn K cT=some cd) (sTT:PySem.W.subIn K (.ref cT) (.ref cT)=some true) (k_NoText:PySem.W.keepIn K (.ref cX)=true) (x_NoText:PySem.W.excIn K cX bmV "ValueError.__new__"=true) (m_NoText:mg "NoText"=some (.ref cX))
  {a_read_tree:Addr}{d_read_tree:FuncData} (F_read_tree:Fun K "read_tree" "read_tree" s_read_tree a_read_tree d_read_tree) (G_read_tree:FnOk P w K mg base (CXC P w) 32 a_read_tree d_read_tree ["text"] (spReadTree K cT)) (b_read_tree:Binds K d_read_tree ["text"] []) (m_read_tree:mg "read_tree"=some (.ref a_read_tree))
  (F:Fun K "tree_of" "tree_of" s_tree_of f fd):FnOk P w K mg base (CXE P w) 33 f fd ["signs"] (spTreeOfX K cX):=by
 refine okXQ F sc_tree_of (fun vs H Q E h=>?_) (fun cdv A outer s H vs Q E hr h=>?_)
 ·obtain⟨l,rfl,_⟩:=h
  rfl
 obtain⟨l,rfl,hz,q,qe⟩:=h
 refine⟨_,(qss_one (qs_tryTurn (fun EE hP=>(qss_one (qs_ret (qe_call G_read_tree hr rfl m_read_tree F_read_tree.kp b_read_tree .nil hP (qa_cons (qv 0) qa_nil))))) rfl m_NoTree t1_NoTree t2_NoTree t3_NoTree PySem.F.excBase_ValueError x_NoText k_NoText rfl m_NoText)),?_⟩
 exact⟨_,rfl,l,rfl,hz,fun t ht y H' S ty=>q t ht y H' S ty,fun hn H' S=>⟨cT,rfl,sTT,fun a ha=>qe hn _ (S.trans (same_new ha _))⟩⟩
theorem ok_word_of {cX:Addr} (x_NoText:PySem.W.excIn K cX bmV "ValueError.__new__"=true) (m_NoText:mg "NoText"=some (.ref cX)) {a_NAMES:Addr} (m_NAMES:mg "NAMES"=some (.ref a_NAMES)) (q_NAMES:∀ H,SqT K H a_NAMES [.str (PySem.Str.ofString "lay"),.str (PySem.Str.ofString "drop"),.str (PySem.Str.ofString "twin"),.str (PySem.Str.ofString "swap"),.str (PySem.Str.ofString "front"),.str (PySem.Str.ofString "part"),.str (PySem.Str.ofString "turn"),.str (PySem.Str.ofString "fork"),.str (PySem.Str.ofString "while")]) {u_DROP:Value} (m_DROP:mg "DROP"=some u_DROP) (r_DROP:RelV (.int 1) u_DROP) {u_TURN:Value} (m_TURN:mg "TURN"=some u_TURN) (r_TURN:RelV (.int 6) u_TURN)
  {a_plain:Addr}{d_plain:FuncData} (F_plain:Fun K "plain" "plain" s_plain a_plain d_plain) (G_plain:FnOk P w K mg base CX0 35 a_plain d_plain ["sort"] (spPlain K)) (b_plain:Binds K d_plain ["sort"] []) (m_plain:mg "plain"=some (.ref a_plain))
  {a_lay:Addr}{d_lay:FuncData} (F_lay:Fun K "lay" "lay" s_lay a_lay d_lay) (G_lay:FnOk P w K mg base CX0 35 a_lay d_lay ["tree"] (spLay K)) (b_lay:Binds K d_lay ["tree"] []) (m_lay:mg "lay"=some (.ref a_lay))
  {a_tree_of:Addr}{d_tree_of:FuncData} (F_tree_of:Fun K "tree_of" "tree_of" s_tree_of a_tree_of d_tree_of) (G_tree_of:FnOk P w K mg base (CXE P w) 35 a_tree_of d_tree_of ["signs"] (spTreeOfX K cX)) (b_tree_of:Binds K d_tree_of ["signs"] []) (m_tree_of:mg "tree_of"=some (.ref a_tree_of))
  {a_odd:Addr}{d_odd:FuncData} (F_odd:Fun K "odd" "odd" s_odd a_odd d_odd) (G_odd:FnOk P w K mg base CX0 35 a_odd d_odd ["word"] (spOdd K)) (b_odd:Binds K d_odd ["word"] []) (m_odd:mg "odd"=some (.ref a_odd))
  (t_NAMES:∃ ob,K.lookup a_NAMES=some ob∧ob.cls=.type "tuple"∧ob.dict=none)
  (F:Fun K "word_of" "word_of" s_word_of f fd):FnOk P w K mg base (CXE P w) 36 f fd ["piece"] (spWofX K cX):=by
 refine okXQ F sc_word_of (fun vs H Q E h=>?_) (fun cdv A outer s H vs Q E hr h=>?_)
 ·obtain⟨p,rfl,_⟩:=h
  rfl
 obtain⟨p,rfl,hz,hf,q,qe⟩:=h
 refine⟨_,(qss_cons (qs_if (qt_cmpR op_in_seq (qv 0) (qe_slice sl_tupA (qe_glob (v:=.ref a_NAMES) rfl m_NAMES rfl) (qo_some (qe_glob (v:=.int 1) rfl m_DROP r_DROP)) (qo_some (qe_op op_add (qe_glob (v:=.int 6) rfl m_TURN r_TURN) qe_int))) rfl) (qss_one (qs_ret (qe_call G_plain hr rfl m_plain F_plain.kp b_plain .nil pass0 (qa_cons (qe_bm PySem.F.plainAttrs_tuple PySem.F.slot_tuple_index PySem.F.type_tuple_index mt_index (qe_glob (v:=.ref a_NAMES) rfl m_NAMES rfl) (qa_cons (qv 0) qa_nil)) qa_nil)))) qss_nil)
   (qss_cons (qs_if (qt_val (qe_bm PySem.F.plainAttrs_str PySem.F.slot_str_startswith PySem.F.type_str_startswith mt_starts (qv 0) (qa_cons qe_str qa_nil))) (qss_one (qs_ret (qe_call G_lay hr rfl m_lay F_lay.kp b_lay .nil pass0 (qa_cons (qe_call G_tree_of hr rfl m_tree_of F_tree_of.kp b_tree_of .nil passX (qa_cons (qe_slice sl_str (qv 0) (qo_some qe_int) qo_none) qa_nil)) qa_nil)))) qss_nil)
   (qss_cons (qs_if (qt_val (qe_bm PySem.F.plainAttrs_str PySem.F.slot_str_startswith PySem.F.type_str_startswith mt_starts (qv 0) (qa_cons qe_str qa_nil))) (qss_cons (qs_set (i:=1) sc_word_of.nd rfl (Or.inl rfl) (qe_call G_tree_of hr rfl m_tree_of F_tree_of.kp b_tree_of .nil passX (qa_cons (qe_slice sl_str (qv 0) (qo_some qe_int) qo_none) qa_nil)))
   (qss_one (qs_if (qt_val (qe_call G_odd hr rfl m_odd F_odd.kp b_odd .nil pass0 (qa_cons (qv 1) qa_nil))) (qss_one (qs_ret (qv 1))) qss_nil))) qss_nil)
   (qss_one (qs_raise PySem.F.excBase_ValueError x_NoText rfl m_NoText))))),?_⟩
 have nmq:∀ H,SqT K H a_NAMES namesV:=fun H=>by rw [← names_tx]; exact q_NAMES H
 refine⟨_,rfl,1,rfl,_,_,rfl,rfl,7,rfl,a_NAMES,_,rfl,nmq _,fun p1 H1 S1 q1=>?_⟩
 rw [cut17] at q1
 refine⟨p1,_,rfl,.inr q1,rfl,rfl,_,rfl,?_⟩
 rw [show (if false=true then !inV (.str (tx p)) sixV else inV (.str (tx p)) sixV)=[1,2,3,4,5,6].any fun k=>decide (nmC k=p) from in_six p,six_any]
 by_cases h6:sixK p≠0
 ·refine iteTb (decide_eq_true h6) ?_
  have e6:=sixK_of h6
  have hle:=sixK_le p
  have q:=q _ (wordP_plain h6)
  obtain⟨f1,f2⟩:=nm_first (k:=sixK p) (by lia)
  refine⟨.inr (.inl ⟨rfl,t_NAMES⟩),_,rfl,a_NAMES,_,p,sixK p,rfl,rfl,(by rw [← names_map]; exact nmq _),(by rw [f1,← e6]),(fun m hm z=>f2 m hm (by rw [z,← e6])),sixK p,rfl,by lia,by lia,fun y H2 S2 t2=>q _ _ (S1.trans S2) t2⟩
 refine iteFb (decide_eq_false h6) ?_
 have h0:sixK p=0:=Decidable.not_not.mp h6
 cases p with
 | nil =>
  have e:=wordP_no (p:=[]) h0 (by decide) (by decide)
  refine⟨_,rfl,rfl,[],39,rfl,(by rw [tx_tick]),_,rfl,iteFb rfl ?_⟩
  exact⟨_,rfl,rfl,[],33,rfl,(by rw [tx_bang]),_,rfl,iteFb rfl (qe e _ S1)⟩
 | cons c l =>
  rw [List.length_cons] at hz
  by_cases c39:c=39
  ·subst c39
   rw [wordP_lay] at q qe
   refine⟨_,rfl,rfl,_,39,rfl,(by rw [tx_tick]),_,rfl,iteTb rfl ?_⟩
   refine⟨_,rfl,1,rfl,_,rfl,small (by rw [List.length_cons]; lia),l,(by rw [cut_tail]; rfl),by lia,fun t ht y H2 S2 t2=>?_,fun hn H2 S2=>qe (by rw [hn]; rfl) _ (S1.trans S2)⟩
   have hd:=hf 39 l t rfl ht
   have hp:t.parts≤90000:=by have:=T.wr_len t; rw [T.rd_wr_eq (treeP_rd ht)] at this; lia
   exact⟨y,t,rfl,t2,by lia,by lia,fun z H3 S3 t3=>q _ (by rw [ht]; rfl) _ _ (S1.trans (S2.trans S3)) t3⟩
  ·have e1:(c::l).head?≠some 39:=by simpa using c39
   refine⟨_,rfl,rfl,_,39,rfl,(by rw [tx_tick]),_,rfl,iteFb (by simpa using c39) ?_⟩
   by_cases c33:c=33
   ·subst c33
    rw [wordP_bang] at q qe
    refine⟨_,rfl,rfl,_,33,rfl,(by rw [tx_bang]),_,rfl,iteTb rfl ?_⟩
    refine⟨_,rfl,1,rfl,_,rfl,small (by rw [List.length_cons]; lia),l,(by rw [cut_tail]; rfl),by lia,fun t ht y H2 S2 t2=>?_,fun hn H2 S2=>qe (by rw [hn]; rfl) _ (S1.trans S2)⟩
    have hd:=hf 33 l t rfl ht
    have hp:t.parts≤90000:=by have:=T.wr_len t; rw [T.rd_wr_eq (treeP_rd ht)] at this; lia
    refine⟨_,rfl,y,t,rfl,t2,⟨by lia,by lia⟩,fun H3 S3=>⟨_,rfl,ite2 (fun ho=>?_) (fun ho=>?_)⟩⟩
    ·exact⟨_,rfl,q t (by rw [ht,Option.bind_some,if_pos ho]) _ _ (S1.trans (S2.trans S3)) (t2.mono (.of S3))⟩
    ·exact qe (by rw [ht,Option.bind_some,if_neg ho]) _ (S1.trans (S2.trans S3))
   ·have e2:(c::l).head?≠some 33:=by simpa using c33
    exact⟨_,rfl,rfl,_,33,rfl,(by rw [tx_bang]),_,rfl,iteFb (by simpa using c33) (qe (wordP_no h0 e1 e2) _ S1)⟩
end
end Sw25
namespace Sw25
open PySem PySem.Spec PyProof.Rows L2 Sw
section
variable {P:Program}{w:World}{K:PySem.W.Frag}{mg:Str→Option Value}{base:Heap}{f:Addr}{fd:FuncData}
theorem pl_body {n:Nat}{pl:List (List Nat)} (h:Pl n (bodyC::pl)):∃ m,n=m+2:=by
 generalize hq:bodyC::pl=q at h
 cases h with
 | text=>exact absurd (List.cons.inj hq).1 (by decide)
 | @body m _ z=>have:=z.pos; exact⟨m - 1,by lia⟩
 | yes z=>exact absurd (List.cons.inj hq).1 (by decide)
 | no z=>exact absurd (List.cons.inj hq).1 (by decide)
theorem pl_no {n:Nat}{pl:List (List Nat)} (h:Pl n (noC::pl)):∃ m pl',n=m+3∧pl=yesC::pl':=by
 generalize hq:noC::pl=q at h
 cases h with
 | text=>exact absurd (List.cons.inj hq).1 (by decide)
 | body z=>exact absurd (List.cons.inj hq).1 (by decide)
 | yes z=>exact absurd (List.cons.inj hq).1 (by decide)
 | @no m pl' z=>have:=z.pos; exact⟨m - 1,pl',by lia,(List.cons.inj hq).2⟩
theorem pl_ne {n:Nat}{pl:List (List Nat)} (h:Pl n pl):pl≠[]:=by cases h <;> simp
theorem stpF_word {st:List (List T)}{pl:List (List Nat)}{p:List Nat} (c1:p≠[91]) (c3:¬ (p=nmC 7∨p=nmC 8)) (c4:p≠[124]) (c5:p≠[93]):stpF ⟨st,pl,[]⟩ p=addF (wordP p) st pl:=by
 unfold stpF
 rw [if_neg c1,if_neg (fun z=>z rfl),if_neg c3,if_neg c4,if_neg c5]
theorem stpF_shut {st:List (List T)}{pl:List (List Nat)}:stpF ⟨st,pl,[]⟩ [93]=shutR st pl:=by
 unfold stpF
 rw [if_neg (by decide),if_neg (fun z=>z rfl),if_neg (by decide),if_neg (by decide),if_pos rfl]
theorem stpF_bar {st:List (List T)}{pl:List (List Nat)}{c:List Nat} (h:c≠yesC):stpF ⟨st,c::pl,[]⟩ [124]=none:=by
 unfold stpF
 rw [if_neg (by decide),if_neg (fun z=>z rfl),if_neg (by decide),if_pos rfl]
 exact if_neg (fun z=>h (Option.some.inj z))
theorem word_bar:wordP [124]=none:=by decide +kernel
theorem ok_take {C:Addr} (cC:Cls K C) (nR:NoAttr K C "rows") (nP:NoAttr K C "places") (nN:NoAttr K C "named") {cX:Addr} (x_NoText:PySem.W.excIn K cX bmV "ValueError.__new__"=true) (m_NoText:mg "NoText"=some (.ref cX)) {a_NAMES:Addr} (m_NAMES:mg "NAMES"=some (.ref a_NAMES)) (q_NAMES:∀ H,SqT K H a_NAMES [.str (PySem.Str.ofString "lay"),.str (PySem.Str.ofString "drop"),.str (PySem.Str.ofString "twin"),.str (PySem.Str.ofString "swap"),.str (PySem.Str.ofString "front"),.str (PySem.Str.ofString "part"),.str (PySem.Str.ofString "turn"),.str (PySem.Str.ofString "fork"),.str (PySem.Str.ofString "while")]) {u_FORK:Value} (m_FORK:mg "FORK"=some u_FORK) (r_FORK:RelV (.int 7) u_FORK) {u_WHILE:Value} (m_WHILE:mg "WHILE"=some u_WHILE) (r_WHILE:RelV (.int 8) u_WHILE)
  {a_word_of:Addr}{d_word_of:FuncData} (F_word_of:Fun K "word_of" "word_of" s_word_of a_word_of d_word_of) (G_word_of:FnOk P w K mg base (CXE P w) 41 a_word_of d_word_of ["piece"] (spWofX K cX)) (b_word_of:Binds K d_word_of ["piece"] []) (m_word_of:mg "word_of"=some (.ref a_word_of))
  {a_enter:Addr}{d_enter:FuncData} (M_enter:Meth K C "enter" a_enter) (G_enter:FnOk P w K mg base CX0 41 a_enter d_enter ["self","place"] (spEnter K C)) (b_enter:Binds K d_enter ["self","place"] [])
  {a_add_word:Addr}{d_add_word:FuncData} (M_add_word:Meth K C "add_word" a_add_word) (G_add_word:FnOk P w K mg base CX0 41 a_add_word d_add_word ["self","word"] (spAddW K C)) (b_add_word:Binds K d_add_word ["self","word"] [])
  {a_bracketed:Addr}{d_bracketed:FuncData} (M_bracketed:Meth K C "bracketed" a_bracketed) (G_bracketed:FnOk P w K mg base (CXE P w) 41 a_bracketed d_bracketed ["self"] (spBrackX K C cX)) (b_bracketed:Binds K d_bracketed ["self"] [])
  (F:Fun K "take" "Reading.take" s_take f fd):FnOk P w K mg base (CXE P w) 42 f fd ["self","piece"] (spTakeX K C cX):=by
 refine okXQ F sc_take (fun vs H Q E h=>?_) (fun cdv A outer s H vs Q E hr h=>?_)
 ·obtain⟨o,p,H₀,sa,rfl,_⟩:=h
  rfl
 obtain⟨o,p,H₀,sa,rfl,h,wf,za,hz,hf,q,qe⟩:=h
 refine⟨_,(qss_cons (qs_if (qt_cmpR op_ne (qe_cmpR op_eq (qv 1) qe_str (nomark _)) (qe_cmpR op_ne (qe_fld (qv 0) rfl) qe_str (nomark _)) (nomark _)) (qss_one (qs_raise PySem.F.excBase_ValueError x_NoText rfl m_NoText)) qss_nil)
   (qss_one (qs_if (qt_cmpR op_eq (qv 1) qe_str (nomark _)) (qss_cons (qs_expr (qe_meth (qv 0) cC M_enter G_enter hr b_enter .nil pass0 (qa_cons (qe_ifExp (qt_cmpR op_eq (qe_fld (qv 0) rfl) (qe_ix ix_tup (qe_glob (v:=.ref a_NAMES) rfl m_NAMES rfl) (qe_glob (v:=.int 7) rfl m_FORK r_FORK) (fun _ _=>rfl)) (nomark _)) qe_str qe_str) qa_nil)))
   (qss_one (qs_fld (qv 0) qe_str rfl))) (qss_one (qs_if (qt_cmpR op_in_seq (qv 1) (qe_tup (qa_cons (qe_ix ix_tup (qe_glob (v:=.ref a_NAMES) rfl m_NAMES rfl) (qe_glob (v:=.int 7) rfl m_FORK r_FORK) (fun _ _=>rfl)) (qa_cons (qe_ix ix_tup (qe_glob (v:=.ref a_NAMES) rfl m_NAMES rfl) (qe_glob (v:=.int 8) rfl m_WHILE r_WHILE) (fun _ _=>rfl)) qa_nil))) rfl) (qss_one (qs_fld (qv 0) (qv 1) rfl)) (qss_one (qs_if (QW.pt (qw_and (qt_cmpR op_eq (qv 1) qe_str (nomark _)) (qw_and1 (qt_cmpR op_eq (qe_ix ix_list (qe_fld (qv 0) rfl) (qe_un un_neg qe_int) (fun _ _=>rfl)) qe_str (nomark _))))) (qss_one (qs_expr (qe_meth (qv 0) cC M_enter G_enter hr b_enter .nil pass0 (qa_cons qe_str qa_nil)))) (qss_one (qs_if (qt_cmpR op_eq (qv 1) qe_str (nomark _)) (qss_one (qs_expr (qe_meth (qv 0) cC M_add_word G_add_word hr b_add_word .nil pass0 (qa_cons (qe_meth0 (qv 0) cC M_bracketed G_bracketed hr b_bracketed .nil passX) qa_nil)))) (qss_one (qs_expr (qe_meth (qv 0) cC M_add_word G_add_word hr b_add_word .nil pass0 (qa_cons (qe_call G_word_of hr rfl m_word_of F_word_of.kp b_word_of .nil passX (qa_cons (qv 1) qa_nil)) qa_nil))))))))))))),?_⟩
 have nmq:∀ H,SqT K H a_NAMES namesV:=fun H=>by rw [← names_tx]; exact q_NAMES H
 have noE:∀ {R P:Addr}{nm:List Nat},(fl R P nm).lookup ("enter":Str)=none:=fl_no (by decide +kernel) (by decide +kernel) (by decide +kernel)
 have noA:∀ {R P:Addr}{nm:List Nat},(fl R P nm).lookup ("add_word":Str)=none:=fl_no (by decide +kernel) (by decide +kernel) (by decide +kernel)
 have noB:∀ {R P:Addr}{nm:List Nat},(fl R P nm).lookup ("bracketed":Str)=none:=fl_no (by decide +kernel) (by decide +kernel) (by decide +kernel)
 have hsame:=h.same
 obtain⟨dx,R,P,ys,h⟩:=h
 obtain⟨st,pl,nm⟩:=sa
 obtain⟨w1,w2⟩:=wf
 dsimp only at h w1 w2
 refine⟨_,rfl,rfl,_,rfl,o,C,dx,_,_,rfl,h.ob,cC,nN,fl_named,rfl,rfl,_,rfl,?_⟩
 rw [dec_txs _ [91] tx_lb,dec_txs _ [] tx_nil]
 by_cases c1:p=[91]
 ·subst c1
  rcases w2 with z | z | z
  ·subst z
   refine iteTb (by decide) (qe ?_ _ hsame)
   unfold stpF
   rw [if_pos rfl,if_neg (show ¬ ([]:List Nat)=nmC 7 by decide),if_neg (show ¬ ([]:List Nat)=nmC 8 by decide)]
  ·subst z
   refine iteFb (by decide) ?_
   refine⟨_,rfl,rfl,_,rfl,?_⟩
   rw [dec_txs _ [91] tx_lb]
   refine iteTb (by decide) ?_
   refine⟨_,rfl,o,dx,_,rfl,h.ob,noE,_,rfl,o,C,dx,_,_,rfl,h.ob,cC,nN,fl_named,a_NAMES,_,7,_,rfl,rfl,nmq _,name_at (k:=7) (by decide),rfl,_,rfl,?_⟩
   rw [dec_txs _ (nmC 7) rfl]
   refine iteTb (by decide) ⟨o,yesC,H₀,st,pl,_,(by show [V.ref o,V.str (PySem.Str.ofString "yes")]=_; rw [tx_yes]),⟨dx,R,P,ys,h⟩,za.st,za.pl,fun H1 k1 h1=>?_⟩
   obtain⟨dx1,R1,P1,ys1,h1⟩:=h1
   refine⟨_,rfl,o,C,dx1,_,rfl,h1.ob,cC,nN,fl_len,?_⟩
   exact q _ _ (stp_stpF .openF) (k1.trans (Kt.ins h1.ob)) ⟨dx1,R1,P1,ys1,by rw [tx_nil,fl_put]; exact h1.name []⟩
  ·subst z
   refine iteFb (by decide) ?_
   refine⟨_,rfl,rfl,_,rfl,?_⟩
   rw [dec_txs _ [91] tx_lb]
   refine iteTb (by decide) ?_
   refine⟨_,rfl,o,dx,_,rfl,h.ob,noE,_,rfl,o,C,dx,_,_,rfl,h.ob,cC,nN,fl_named,a_NAMES,_,7,_,rfl,rfl,nmq _,name_at (k:=7) (by decide),rfl,_,rfl,?_⟩
   rw [dec_txs _ (nmC 7) rfl]
   refine iteFb (by decide) ⟨o,bodyC,H₀,st,pl,_,(by show [V.ref o,V.str (PySem.Str.ofString "body")]=_; rw [tx_body]),⟨dx,R,P,ys,h⟩,za.st,za.pl,fun H1 k1 h1=>?_⟩
   obtain⟨dx1,R1,P1,ys1,h1⟩:=h1
   refine⟨_,rfl,o,C,dx1,_,rfl,h1.ob,cC,nN,fl_len,?_⟩
   exact q _ _ (stp_stpF .openW) (k1.trans (Kt.ins h1.ob)) ⟨dx1,R1,P1,ys1,by rw [tx_nil,fl_put]; exact h1.name []⟩
 by_cases c2:nm=[]
 rotate_left
 ·refine iteTb (by rw [decide_eq_false c1,decide_eq_false c2]; decide) (qe ?_ _ hsame)
  unfold stpF
  rw [if_neg c1,if_pos c2]
 subst c2
 refine iteFb (by rw [decide_eq_false c1]; decide) ?_
 refine⟨_,rfl,rfl,_,rfl,?_⟩
 rw [dec_txs _ [91] tx_lb]
 refine iteFb (decide_eq_false c1) ?_
 refine⟨_,rfl,a_NAMES,_,7,_,rfl,rfl,nmq _,name_at (k:=7) (by decide),a_NAMES,_,8,_,rfl,rfl,nmq _,name_at (k:=8) (by decide),(by show 2≤sizeLine; decide),fun q1 g1=>⟨q1,_,rfl,.inr (SqT.of upd_same),rfl,rfl,_,rfl,?_⟩⟩
 rw [show (if false=true then !inV (.str (tx p)) [.str (tx (nmC 7)),.str (tx (nmC 8))] else inV (.str (tx p)) [.str (tx (nmC 7)),.str (tx (nmC 8))])=(decide (nmC 7=p) || decide (nmC 8=p)) from in_two _ _ _]
 have S1:=same_new g1 (.tup [.str (tx (nmC 7)),.str (tx (nmC 8))])
 have h':=h.grow S1
 have hsame1:=hsame.trans S1
 by_cases c3:p=nmC 7∨p=nmC 8
 ·refine iteTb (by rcases c3 with rfl | rfl <;> decide) ?_
  refine⟨_,rfl,_,rfl,o,C,dx,_,rfl,h'.ob,cC,nN,fl_len,?_⟩
  refine q ⟨st,pl,p⟩ _ ?_ ((Kt.of S1).trans (Kt.ins h'.ob)) ⟨dx,R,P,ys,by rw [fl_put]; exact h'.name _⟩
  unfold stpF
  rw [if_neg c1,if_neg (fun z=>z rfl),if_pos c3]
 refine iteFb (by rw [decide_eq_false (fun z=>c3 (.inl z.symm)),decide_eq_false (fun z=>c3 (.inr z.symm))]; rfl) ?_
 refine⟨_,rfl,rfl,_,rfl,?_⟩
 rw [dec_txs _ [124] tx_bar]
 obtain⟨s',st',est⟩:∃ s' st',st=s'::st':=by
  cases st with
  | nil=>have:=w1.pos; exact absurd this (by decide)
  | cons a b=>exact⟨a,b,rfl⟩
 obtain⟨c,pl',epl⟩:∃ c pl',pl=c::pl':=by
  cases pl with
  | nil=>exact absurd rfl (pl_ne w1)
  | cons a b=>exact⟨a,b,rfl⟩
 by_cases c4:p=[124]
 ·subst c4
  subst epl
  refine iteTb (by decide) ⟨_,rfl,o,C,dx,_,_,rfl,h'.ob,cC,nP,fl_places,1,rfl,P,_,_,_,rfl,rfl,SqL.of h'.at_,(by rw [plV_cons]; exact at_last),rfl,_,rfl,?_⟩
  rw [dec_txs _ yesC tx_yes]
  by_cases cy:c=yesC
  ·subst cy
   refine iteTb (by decide) ?_
   exact⟨_,rfl,o,dx,_,rfl,h'.ob,noE,o,noC,H₀,st,yesC::pl',_,(by show [V.ref o,V.str (PySem.Str.ofString "no")]=_; rw [tx_no]),⟨dx,R,P,ys,h'⟩,za.st,za.pl,fun H1 k1 h1=>q _ _ (stp_stpF .bar) ((Kt.of S1).trans k1) h1⟩
  ·refine iteFb (decide_eq_false cy) ?_
   refine⟨_,rfl,rfl,_,rfl,?_⟩
   rw [dec_txs _ [93] tx_rb]
   refine iteFb (by decide) ?_
   exact⟨_,rfl,o,dx,_,rfl,h'.ob,noA,_,rfl,[124],rfl,hz,hf,fun w hw=>absurd (word_bar.symm.trans hw) (by simp),fun _ H2 S2=>qe (stpF_bar cy) _ (hsame1.trans S2)⟩
 refine iteFb (decide_eq_false c4) (iteF ?_)
 refine⟨_,rfl,rfl,_,rfl,?_⟩
 rw [dec_txs _ [93] tx_rb]
 by_cases c5:p=[93]
 ·subst c5
  rw [stpF_shut] at q qe
  refine iteTb (by decide) ?_
  refine⟨_,rfl,o,dx,_,rfl,h'.ob,noA,_,rfl,o,dx,_,rfl,h'.ob,noB,o,H₀,st,pl,[],rfl,⟨dx,R,P,ys,h'⟩,?_⟩
  by_cases cb:c=bodyC
  ·subst cb
   subst epl
   obtain⟨m,em⟩:=pl_body w1
   match st,em with
   | r::u::st2,_ =>
    exact .inl ⟨u::st2,pl',loopW r,.inl ⟨r,rfl,rfl,rfl,(za.each r List.mem_cons_self).le (by lia) (by lia)⟩,fun x H2 k2 h2 t2=>⟨o,x,_,H₀,u,st2,pl',[],rfl,t2,h2,(by have:=(za.each u (by simp)).len; lia),fun H3 k3 h3=>q ⟨(u++[loopW r])::st2,pl',[]⟩ _ (by unfold shutR; exact if_pos rfl) ((Kt.of S1).trans (k2.trans k3)) h3⟩⟩
  ·by_cases cn:c=noC
   ·subst cn
    subst epl
    obtain⟨m,pl2,em,rfl⟩:=pl_no w1
    match st,em with
    | r::y::u::st2,_ =>
     exact .inl ⟨u::st2,pl2,forkW y r,.inr ⟨r,y,rfl,rfl,rfl,(za.each r List.mem_cons_self).le (by lia) (by lia),(za.each y (by simp)).le (by lia) (by lia)⟩,fun x H2 k2 h2 t2=>⟨o,x,_,H₀,u,st2,pl2,[],rfl,t2,h2,(by have:=(za.each u (by simp)).len; lia),fun H3 k3 h3=>q ⟨(u++[forkW y r])::st2,pl2,[]⟩ _ (by unfold shutR; dsimp only; rw [if_neg (by decide),if_pos rfl]; rfl) ((Kt.of S1).trans (k2.trans k3)) h3⟩⟩
   ·refine .inr ⟨c,pl',epl,cb,cn,fun H2 S2=>qe ?_ _ S2⟩
    rw [epl]
    unfold shutR
    match st with
    | []=>rfl
    | [_]=>rfl
    | r::u::st2=>dsimp only; rw [if_neg cb,if_neg cn]
 refine iteFb (decide_eq_false c5) ?_
 rw [stpF_word c1 c3 c4 c5] at q qe
 subst est
 exact⟨_,rfl,o,dx,_,rfl,h'.ob,noA,_,rfl,p,rfl,hz,hf,fun w hw x H2 S2 t2=>⟨o,x,w,H₀,s',st',pl,[],rfl,t2,⟨dx,R,P,ys,h'.grow S2⟩,(by have:=(za.each s' List.mem_cons_self).len; lia),fun H3 k3 h3=>q ⟨(s'++[w])::st',pl,[]⟩ _ (by rw [hw]; rfl) ((Kt.of (S1.trans S2)).trans k3) h3⟩,fun hn H2 S2=>qe (by rw [hn]; rfl) _ (hsame1.trans S2)⟩
theorem ok_read {C:Addr} (cC:Cls K C) (nR:NoAttr K C "rows") (nP:NoAttr K C "places") (nN:NoAttr K C "named") {cX:Addr} (x_NoText:PySem.W.excIn K cX bmV "ValueError.__new__"=true) (m_NoText:mg "NoText"=some (.ref cX)) (m_isinstance:mg "isinstance"=none) (m_str:mg "str"=none)
  {a_pieces_of:Addr}{d_pieces_of:FuncData} (F_pieces_of:Fun K "pieces_of" "pieces_of" s_pieces_of a_pieces_of d_pieces_of) (G_pieces_of:FnOk P w K mg base CX0 44 a_pieces_of d_pieces_of ["signs"] (spPiecesX K)) (b_pieces_of:Binds K d_pieces_of ["signs"] []) (m_pieces_of:mg "pieces_of"=some (.ref a_pieces_of))
  {a___init__:Addr}{d___init__:FuncData} (MK:Mk K C a___init__) (G___init__:FnOk P w K mg base CX0 43 a___init__ d___init__ ["self"] (spInit K C)) (b___init__:Binds K d___init__ ["self"] []) (m_Reading:mg "Reading"=some (.ref C))
  {a_take:Addr}{d_take:FuncData} (M_take:Meth K C "take" a_take) (G_take:FnOk P w K mg base (CXE P w) 44 a_take d_take ["self","piece"] (spTakeX K C cX)) (b_take:Binds K d_take ["self","piece"] [])
  {a_whole:Addr}{d_whole:FuncData} (M_whole:Meth K C "whole" a_whole) (G_whole:FnOk P w K mg base (CXE P w) 44 a_whole d_whole ["self"] (spWholeX K C cX)) (b_whole:Binds K d_whole ["self"] [])
  (F:Fun K "read" "read" s_read f fd):FnOk P w K mg base (CXE P w) 45 f fd ["signs"] (spReadAny K cX):=by
 refine okXQ F sc_read (fun vs H Q E h=>?_) (fun cdv A outer s H vs Q E hr h=>?_)
 ·obtain⟨x,rfl,_⟩:=h
  rfl
 obtain⟨x,rfl,hx⟩:=h
 refine⟨_,(qss_cons (qs_if (qt_not (qt_val (qe_callB call_isinst rfl m_isinstance bt_isinstance (qa_cons (qv 0) (qa_cons (qe_bltn (v:=.ty "str") rfl m_str bt_str rfl) qa_nil))))) (qss_one (qs_raise PySem.F.excBase_ValueError x_NoText rfl m_NoText)) qss_nil)
   (qss_cons (qs_set (i:=1) sc_read.nd rfl (Or.inl rfl) (qe_make0 MK G___init__ hr rfl m_Reading b___init__ .nil pass0))
   (qss_cons (qs_for PassesOwn.leaving rfl (qi_list (qe_call G_pieces_of hr rfl m_pieces_of F_pieces_of.kp b_pieces_of .nil pass0 (qa_cons (qv 0) qa_nil))) (qg_name (i:=2) sc_read.nd rfl (Or.inl rfl)) (qss_one (qs_expr (qe_meth (qv 1) cC M_take G_take hr b_take .nil passX (qa_cons (qv 2) qa_nil)))))
   (qss_one (qs_ret (qe_meth0 (qv 1) cC M_whole G_whole hr b_whole .nil passX)))))),?_⟩
 rcases hx with⟨ps,rfl,hrow,q,qe⟩ | ⟨⟨ty,hty,hk⟩,qe⟩
 rotate_left
 ·exact⟨_,rfl,x,"str",ty,false,rfl,hty,hk,_,rfl,iteT qe⟩
 obtain⟨hrp,hlen,fb,hfl,hsh⟩:=hrow
 have hjl:(joinL [32] ps).length≤8000000:=by
  have h1:=joinL_len [32] ps
  have h2:∀ l:List (List Nat),l.flatten.length+l.length≤lenP l:=by
   intro l
   induction l with
   | nil=>exact Nat.zero_le _
   | cons p l ih=>rw [List.flatten_cons,List.length_append,List.length_cons,lenP]; lia
  have h3:=h2 ps
  simp only [List.length_singleton,Nat.mul_one] at h1
  lia
 have noT:∀ {R P:Addr}{nm:List Nat},(fl R P nm).lookup ("take":Str)=none:=fl_no (by decide +kernel) (by decide +kernel) (by decide +kernel)
 have noW:∀ {R P:Addr}{nm:List Nat},(fl R P nm).lookup ("whole":Str)=none:=fl_no (by decide +kernel) (by decide +kernel) (by decide +kernel)
 refine⟨_,rfl,.str _,"str",.type "str",true,rfl,TyOf.str _,by rfl,_,rfl,iteF ?_⟩
 refine fun o dx no ndx nex=>⟨o,dx,H,rfl,(same_new ndx _).trans (same_new (by rw [upd_ne (Ne.symm nex)]; exact no) _),no,upd_same,fun H1 k1 h1=>⟨rfl,?_⟩⟩
 obtain⟨dx1,R1,P1,ys1,h1⟩:=h1
 refine⟨_,rfl,ps,rfl,hrp,hjl,fun D gD=>⟨D,rfl,⟨_,SqL.of upd_same⟩,?_⟩⟩
 have hD:H D=none:=h1.rows.same.free gD
 refine for_list (xs:=ps.map fun p=>V.str (tx p)) (fun i σ' H'=>∃ (o2:Option V) (sa:Rst),σ'=[some (.str (tx (joinL [32] ps))),some (.ref o),o2]∧RdAt K C (upd H D (.lst (ps.map fun p=>V.str (tx p)))) H' o sa.st sa.pl sa.nm∧stF ⟨[[]],[textC],[]⟩ (ps.take i)=some sa∧WF sa∧SzI sa (1+i) (fb+10+2 * Sw.nP [93] (ps.take i)) (lenP (ps.take i))) ?_ ?_ ?_ ?_
 ·exact⟨_,⟨[[]],[textC],[]⟩,rfl,⟨dx1,R1,P1,ys1,h1.base gD _⟩,rfl,WF.start,SzI.startQ _⟩
 ·rintro i σ' H' _ ⟨o2,sa,rfl,h,_⟩
  exact SqL.of (h.same _ _ upd_same)
 ·rintro i x σ' H' hx ⟨o2,sa,rfl,h,hst,hwf,hsz⟩
  rw [List.getElem?_map] at hx
  cases hi:ps[i]? with
  | none=>rw [hi] at hx; cases hx
  | some p =>
   rw [hi] at hx
   have hx:V.str (tx p)=x:=Option.some.inj hx
   subst hx
   have hlt:i<ps.length:=(List.getElem?_eq_some_iff.mp hi).1
   have hmem:=List.mem_of_getElem? hi
   have et:ps.take (i+1)=ps.take i++[p]:=by rw [List.take_add_one,hi]; rfl
   have ed:ps=ps.take (i+1)++ps.drop (i+1):=(List.take_append_drop _ _).symm
   have l1:lenP (ps.take i)+(p.length+12)≤90000:=by
    have z:=congrArg lenP ed
    rw [lenP_app,et,lenP_app] at z
    have e1:lenP [p]=p.length+12:=by rw [lenP,lenP]
    lia
   have l2:fb+12+2 * Sw.nP [93] (ps.take i)≤400:=by
    have z:=congrArg (Sw.nP [93]) ed
    rw [nP_app,et,nP_app] at z
    lia
   have l3:=lenP_len ps
   have h0:=h
   obtain⟨dx2,R2,P2,ys2,h2⟩:=h
   refine⟨_,rfl,o,dx2,_,rfl,h2.ob,noT,_,rfl,o,p,_,sa,rfl,h0,hwf,hsz.sz (by lia) (by lia) (by lia),by lia,(hfl p hmem).mono (by lia),fun sb H3 hsb k3 h3=>?_,fun hno H3 S3=>qe ?_ _ ((same_new hD _).trans S3)⟩
   ·have hstp:=stpF_stp hwf hsb
    have hsz2:=hsz.stepQ (f:=fb) (by lia) hstp (hfl p hmem)
    refine⟨_,sb,rfl,h3,?_,hwf.step hstp,?_⟩
    ·rw [et,stF_app,hst,Option.bind_some,stF,hsb,Option.bind_some,stF]
    ·rw [et,nP_app,lenP_app]
     have e1:lenP [p]=p.length+12:=by rw [lenP,lenP]
     have e2:Sw.nP [93] [p]=isN [93] p:=by rw [Sw.nP,Sw.nP]; rfl
     rw [e1,e2,show fb+10+2 * (Sw.nP [93] (ps.take i)+isN [93] p)=fb+10+2 * Sw.nP [93] (ps.take i)+2 * isN [93] p by lia,show 1+(i+1)=1+i+1 by lia]
     exact hsz2
   ·unfold readF
    rw [ed,stF_app,et,stF_app,hst,Option.bind_some,stF,hno]
    rfl
 ·rintro σ' H' ⟨o2,sa,rfl,h,hst,hwf,hsz⟩
  rw [List.length_map,List.take_length] at hst
  have h0:=h
  obtain⟨dx2,R2,P2,ys2,h2⟩:=h
  refine⟨_,rfl,o,dx2,_,rfl,h2.ob,noW,o,_,sa.st,sa.pl,sa.nm,rfl,h0,fun r e1 e2 y H2 S2 t2=>?_,fun hbad H2 S2=>?_⟩
  ·refine q r ?_ _ _ ((same_new hD _).trans S2) t2
   unfold readF
   rw [hst]
   obtain⟨st,pl,nm⟩:=sa
   dsimp only at e1 e2
   subst e1 e2
   rfl
  ·refine qe ?_ _ ((same_new hD _).trans S2)
   unfold readF
   rw [hst]
   obtain⟨st,pl,nm⟩:=sa
   dsimp only at hbad
   match st,nm,hbad with
   | [r],[],hb=>exact absurd hb (by simp)
   | [],_,_=>rfl
   | [_],_::_,_=>rfl
   | _::_::_,_,_=>rfl
end
end Sw25
namespace Sw
open PySem PySem.Spec PyProof.Rows L2
theorem T.rd_fail {l:List Nat}{st:List (List T)}{i c:Nat} (hi:T.rd [[]] (l.take i)=some st) (hc:l[i]?=some c) (h:T.rd1 st c=none):T.rd [[]] l=none:=by
 have hlt:i<l.length:=(List.getElem?_eq_some_iff.mp hc).1
 have e1:l.take (i+1)=l.take i++[c]:=by rw [List.take_add_one,hc]; rfl
 have e2:l=l.take (i+1)++l.drop (i+1):=(List.take_append_drop _ _).symm
 have h3:T.rd [[]] (l.take (i+1))=none:=by
  rw [e1,T.rd_append,hi,Option.bind_some,T.rd_cons,h]
  rfl
 rw [e2,T.rd_append,h3]
 rfl
theorem T.rd_next {l:List Nat}{st st2:List (List T)}{i c:Nat} (hi:T.rd [[]] (l.take i)=some st) (hc:l[i]?=some c) (h:T.rd1 st c=some st2):T.rd [[]] (l.take (i+1))=some st2:=by
 have e1:l.take (i+1)=l.take i++[c]:=by rw [List.take_add_one,hc]; rfl
 rw [e1,T.rd_append,hi,Option.bind_some,T.rd_cons,h]
 rfl
theorem treeP_no {l:List Nat} (h:∀ t,T.rd [[]] l≠some [[t]]):treeP l=none:=by
 unfold treeP
 split
 ·rename_i t e
  exact absurd e (h t)
 ·rfl
end Sw
namespace Sw25
open PySem PySem.Spec PyProof.Rows L2 Sw
section
variable {P:Program}{w:World}{K:PySem.W.Frag}{mg:Str→Option Value}{base:Heap}{f:Addr}{fd:FuncData}{cT:Addr}
def PvRead (K:PySem.W.Frag) (H:Hp) (l:List Nat) (p:Addr) (i:Nat) (σ:Sg) (H':Hp):Prop:=∃ (st:List (List T)) (ys:List V) (o2 o3:Option V),
 σ=[some (.str (tx l)),some (.ref p),o2,o3]∧T.rd [[]] (l.take i)=some st∧st≠[]∧RowsR K H H' p st ys∧T.partsL st.flatten+st.length≤i+1
theorem ok_read_tree (m_isinstance:mg "isinstance"=none) (m_str:mg "str"=none) (m_len:mg "len"=none) (m_tuple:mg "tuple"=none) (x_NoTree:PySem.W.excIn K cT bmV "ValueError.__new__"=true) (m_NoTree:mg "NoTree"=some (.ref cT))
  (F:Fun K "read_tree" "read_tree" s_read_tree f fd):FnOk P w K mg base (CXC P w) 31 f fd ["text"] (spReadTree K cT):=by
 refine okC F sc_read_tree (fun vs H Q E h=>?_) (fun cdv A outer s H vs Q E hr h=>?_)
 ·obtain⟨l,rfl,_⟩:=h
  rfl
 obtain⟨l,rfl,hz,q,qe⟩:=h
 have q:=fun t ht=>q t (treeP_of ht)
 have qe:=fun (hh:∀ t,T.rd [[]] l≠some [[t]])=>qe (treeP_no hh)
 refine⟨_,(pss_cons (ps_if (pt_not (pt_val (pe_callB call_isinst rfl m_isinstance bt_isinstance (pa_cons (pv 0) (pa_cons (pe_bltn (v:=.ty "str") rfl m_str bt_str rfl) pa_nil))))) (pss_one (ps_raiseC PySem.F.excBase_ValueError x_NoTree rfl m_NoTree)) pss_nil)
   (pss_cons (ps_set (i:=1) sc_read_tree.nd rfl (Or.inl rfl) (pe_lst (pa_cons (pe_lst pa_nil) pa_nil)))
   (pss_cons (ps_for PassesOwn.leaving rfl (pi_str (pv 0)) (pg_name (i:=2) sc_read_tree.nd rfl (Or.inl rfl)) (pss_one (ps_if (pt_cmpR op_eq (pv 2) pe_str (nomark _)) (pss_one (ps_expr (pe_bm PySem.F.plainAttrs_list PySem.F.slot_list_append PySem.F.type_list_append mt_append (pv 1) (pa_cons (pe_lst pa_nil) pa_nil)))) (pss_one (ps_if (PW.pt (pw_and (pt_cmpR op_eq (pv 2) pe_str (nomark _)) (pw_and1 (pt_cmpR op_gt (pe_callB call_len_seq rfl m_len bt_len (pa_cons (pv 1) pa_nil)) pe_int (nomark _))))) (pss_cons (ps_set (i:=3) sc_read_tree.nd rfl (Or.inl rfl) (pe_bm0 PySem.F.plainAttrs_list PySem.F.slot_list_pop PySem.F.type_list_pop mt_pop (pv 1)))
   (pss_one (ps_expr (pe_bm PySem.F.plainAttrs_list PySem.F.slot_list_append PySem.F.type_list_append mt_append (pe_ix ix_list (pv 1) (pe_un un_neg pe_int) (fun _ _=>rfl)) (pa_cons (pe_callTy call_tuple_of rfl m_tuple bt_tuple (pa_cons (pv 3) pa_nil)) pa_nil))))) (pss_one (ps_raiseC PySem.F.excBase_ValueError x_NoTree rfl m_NoTree)))))))
   (pss_cons (ps_if (PW.pt (pw_or (pt_cmpR op_ne (pe_callB call_len_seq rfl m_len bt_len (pa_cons (pv 1) pa_nil)) pe_int (nomark _)) (pw_or1 (pt_cmpR op_ne (pe_callB call_len_seq rfl m_len bt_len (pa_cons (pe_ix ix_list (pv 1) pe_int (fun _ _=>rfl)) pa_nil)) pe_int (nomark _))))) (pss_one (ps_raiseC PySem.F.excBase_ValueError x_NoTree rfl m_NoTree)) pss_nil)
   (pss_one (ps_ret (pe_ix ix_list (pe_ix ix_list (pv 1) pe_int (fun _ _=>rfl)) pe_int (fun _ _=>rfl)))))))),?_⟩
 refine⟨_,rfl,.str (tx l),"str",.type "str",true,rfl,TyOf.str _,by rfl,_,rfl,iteF ?_⟩
 refine⟨Nat.zero_le _,fun q0 hq0=>⟨(by show 1≤sizeLine; decide),fun p hp=>?_⟩⟩
 have npq:p≠q0:=fun z=>by rw [z,upd_same] at hp; cases hp
 have hpH:H p=none:=by rw [upd_ne npq] at hp; exact hp
 refine⟨_,rfl,_,rfl,?_⟩
 refine for_str (l:=l) (PvRead K H l p) ?_ ?_ ?_
 ·refine⟨[[]],[.ref q0],_,_,rfl,rfl,by simp,⟨hpH,(same_new hq0 _).trans (same_new hp _),upd_same,?_,?_⟩,by rw [List.flatten_cons,List.flatten_nil,List.append_nil,T.partsL_nil]; simp⟩
  ·exact All2.one ⟨q0,[],rfl,hq0,(same_new hp _) _ _ upd_same,TRs_nil.mpr rfl⟩
  ·simp [npq]
 ·rintro i c σ' H' hc ⟨st,ys,o2,o3,rfl,hi,hne,R,hsz⟩
  have hlt:i<l.length:=(List.getElem?_eq_some_iff.mp hc).1
  have hyl:ys.length=st.length:=by rw [R.rows.length,List.length_reverse]
  have bad:T.rd1 st c=none→E (.ref cT) none H':=fun hb=>qe (fun t ht=>by rw [T.rd_fail hi hc hb] at ht; cases ht) _ R.same
  by_cases h40:c=40
  ·
   subst h40
   refine⟨_,rfl,rfl,_,rfl,ite2 (fun _=>?_) (fun hb=>absurd (by rw [tx_lp]; exact decide_eq_true rfl) hb)⟩
   refine⟨_,rfl,.inl ⟨rfl,_,SqL.of R.at_⟩,Nat.zero_le _,fun q2 hq2=>?_⟩
   have npq2:p≠q2:=ne_of_none R.at_ hq2
   refine⟨p,ys,.ref q2,rfl,rfl,by rw [upd_ne npq2]; exact R.at_,smallL (by lia),?_⟩
   cases st with
   | nil=>exact absurd rfl hne
   | cons r rs =>
    refine⟨[]::r::rs,ys++[.ref q2],_,_,rfl,T.rd_next hi hc (T.rd1_open r rs),by simp,rows_open R hq2,?_⟩
    rw [List.flatten_cons,List.nil_append,List.length_cons]
    lia
  ·have e1:decide (V.str (tx [c])=V.str (Str.ofString "("))=false:=by rw [tx_lp,dec_tx]; exact decide_eq_false (by simpa using h40)
   refine⟨_,rfl,rfl,_,rfl,ite2 (fun hb=>absurd (e1.symm.trans hb) Bool.false_ne_true) (fun _=>?_)⟩
   by_cases h41:c=41
   ·subst h41
    refine⟨_,rfl,rfl,_,rfl,ite2 (fun _=>?_) (fun hb=>absurd (by rw [tx_rp]; exact decide_eq_true rfl) hb)⟩
    refine⟨_,rfl,p,ys,rfl,.inl (SqL.of R.at_),_,_,rfl,rfl,_,rfl,?_⟩
    cases st with
    | nil=>exact absurd rfl hne
    | cons r rs =>
     cases rs with
     | nil=>exact ite2 (fun hb=>absurd (of_decide_eq_true hb) (by rw [hyl]; simp)) (fun _=>bad rfl)
     | cons r' rs =>
      refine ite2 (fun _=>?_) (fun hb=>absurd (decide_eq_true (by rw [hyl]; simp only [List.length_cons]; lia)) hb)
      obtain⟨ys0,a',a,xs',xs,rfl,ha,ha',npa,npa',lx,lx',next⟩:=rows_shut R
      refine⟨_,rfl,.inl ⟨rfl,_,SqL.of R.at_⟩,p,_,.ref a,rfl,rfl,R.at_,by simp,?_⟩
      rw [List.dropLast_concat]
      refine⟨_,rfl,_,rfl,p,_,-1,.ref a',rfl,rfl,SqL.of upd_same,at_last,.inl ⟨rfl,xs',SqL.of (by rw [upd_ne (Ne.symm npa')]; exact ha')⟩,?_⟩
      refine⟨_,rfl,a,xs,rfl,.inl ⟨SqL.of (by rw [upd_ne (Ne.symm npa)]; exact ha),fun b hb=>?_⟩⟩
      have nab:a'≠b:=fun z=>by
       rw [← z,upd_ne (Ne.symm npa'),ha'] at hb
       cases hb
      have hpr:T.partsL r'≤T.partsL (r::r'::rs).flatten:=by
       rw [List.flatten_cons,List.flatten_cons,T.partsL_append,T.partsL_append]
       lia
      have hlr:=T.len_le_parts r'
      refine⟨a',xs',.ref b,rfl,rfl,by rw [upd_ne nab,upd_ne (Ne.symm npa')]; exact ha',smallL (by lia),?_⟩
      refine⟨(r'++[.node r])::rs,ys0++[.ref a'],_,_,rfl,T.rd_next hi hc (T.rd1_shut r r' rs),by simp,next b hb,?_⟩
      rw [List.flatten_cons,List.flatten_cons,T.partsL_append,T.partsL_append,List.length_cons,List.length_cons] at hsz
      rw [List.flatten_cons,T.partsL_append,T.partsL_append,T.partsL_cons,T.partsL_nil,T.parts_node,List.length_cons]
      lia
   ·have e2:decide (V.str (tx [c])=V.str (Str.ofString ")"))=false:=by rw [tx_rp,dec_tx]; exact decide_eq_false (by simpa using h41)
    refine⟨_,rfl,rfl,_,rfl,ite2 (fun hb=>absurd (e2.symm.trans hb) Bool.false_ne_true) (fun _=>?_)⟩
    exact iteF (bad (T.rd1_bad h40 h41))
 ·rintro σ' H' ⟨st,ys,o2,o3,rfl,hi,hne,R,hsz⟩
  rw [List.take_of_length_le (Nat.le_refl _)] at hi
  have hyl:ys.length=st.length:=by rw [R.rows.length,List.length_reverse]
  refine⟨_,rfl,p,_,rfl,.inl (SqL.of R.at_),rfl,_,rfl,?_⟩
  by_cases hlen:st.length=1
  ·refine ite2 (fun hb=>absurd hb (by rw [hyl,hlen]; simp)) (fun _=>?_)
   match st,hlen,R,hi with
   | [r],_,R,hi =>
    have hr':=R.rows
    cases hr' with
    | cons r0 r1 =>
     cases r1
     obtain⟨a,xs,rfl,_,ha,hta⟩:=r0
     have hxl:=hta.length
     refine⟨_,rfl,p,_,0,.ref a,rfl,rfl,SqL.of R.at_,atI_nat (j:=0) rfl,a,xs,rfl,.inl (SqL.of ha),rfl,_,rfl,?_⟩
     by_cases h1:r.length=1
     ·refine ite2 (fun hb=>absurd hb (by rw [hxl,h1]; simp)) (fun _=>?_)
      match r,h1,hta,hi with
      | [t],_,hta,hi =>
       obtain⟨y,r2,rfl,hy,hnil⟩:=TRs_cons.mp hta
       rw [TRs_nil] at hnil
       subst hnil
       exact⟨_,rfl,p,_,0,.ref a,rfl,rfl,SqL.of R.at_,atI_nat (j:=0) rfl,a,[y],0,y,rfl,rfl,SqL.of ha,atI_nat (j:=0) rfl,q t hi y _ R.same hy⟩
     ·refine ite2 (fun _=>?_) (fun hb=>absurd ?_ hb)
      ·exact qe (fun t ht=>h1 (by rw [hi] at ht; have:=Option.some.inj ht; simp at this; rw [this]; rfl)) _ R.same
      ·rw [hxl]
       simp
       lia
  ·refine ite2 (fun _=>?_) (fun hb=>absurd ?_ hb)
   ·exact qe (fun t ht=>hlen (by rw [hi] at ht; rw [Option.some.inj ht]; rfl)) _ R.same
   ·rw [hyl]
    simp
    lia
end
end Sw25
namespace Sw25
open PySem PySem.Spec PyProof.Rows L2 Sw
section
variable {P:Program}{w:World}{K:PySem.W.Frag}{mg:Str→Option Value}{base:Heap}{f:Addr}{fd:FuncData}
theorem spell_b {a b:Nat}{w:T} (h:B a b w):∀ t:T,(.inl t:Itm)∈spelledT w→B a b t:=by
 have h1:=B_kids (B_loadT h)
 have h2:=B_kids (B_loadT (B_loadT h))
 have hy:B a b (.node (ats (loadT w).kids 0).kids):=by
  cases hk:(loadT w).kids with
  | nil=>exact B_nil.le (Nat.zero_le _) (by have:=h.2; have:=T.parts_pos w; lia)
  | cons y r=>exact B_kids (B_mem h1 (by rw [hk]; exact List.mem_cons_self))
 have wds:∀ ts:List T,B a b (.node ts)→∀ t:T,(.inl t:Itm)∈ts.map (.inl:T→Itm)→B a b t:=fun ts hb t ht=>by
  obtain⟨u,hu,e⟩:=List.mem_map.mp ht
  cases e
  exact B_mem hb hu
 have no:∀ (t:T) (l:List Nat),¬ (.inl t:Itm)∈[(.inr l:Itm)]:=fun t l z=>by simp at z
 have no2:∀ (t:T) (l m:List Nat),¬ (.inl t:Itm)∈[(.inr l:Itm),.inr m]:=fun t l m z=>by simp at z
 intro t ht
 unfold spelledT at ht
 split at ht
 ·exact absurd ht (no _ _)
 split at ht
 ·exact absurd ht (no _ _)
 split at ht
 ·rcases List.mem_append.mp ht with ht | ht
  ·rcases List.mem_append.mp ht with ht | ht
   ·rcases List.mem_append.mp ht with ht | ht
    ·rcases List.mem_append.mp ht with ht | ht
     ·exact absurd ht (no2 _ _ _)
     ·exact wds _ hy t ht
    ·exact absurd ht (no _ _)
   ·exact wds _ h2 t ht
  ·exact absurd ht (no _ _)
 split at ht
 ·rcases List.mem_append.mp ht with ht | ht
  ·rcases List.mem_append.mp ht with ht | ht
   ·exact absurd ht (no2 _ _ _)
   ·exact wds _ h1 t ht
  ·exact absurd ht (no _ _)
 ·exact absurd ht (no _ _)
def WSx (K:PySem.W.Frag) (H:Hp) (x:V) (w:List (List Nat)) (p1 p2:Addr):Nat→Sg→Hp→Prop:=fun m σ H'=>∃ (ys:List V) (its:List Itm) (ds qs:List (List Nat)) (o:Option V),
 σ=[some x,some (.ref p1),some (.ref p2),o]∧Same H H'∧H' p1=some (.lst (ds.map fun c=>V.str (tx c)))∧H' p2=some (.lst ys)∧All2 (IR K H') its ys.reverse∧Outs its qs∧ds++qs=w∧(∀ t:T,(.inl t:Itm)∈its→B 400 100000 t)∧wtL its≤500000∧m=wtL its
theorem ok_show (m_list:mg "list"=none) (m_reversed:mg "reversed"=none) (m_isinstance:mg "isinstance"=none) (m_str:mg "str"=none)
  {a_spelled:Addr}{d_spelled:FuncData} (F_spelled:Fun K "spelled" "spelled" s_spelled a_spelled d_spelled) (G_spelled:FnOk P w K mg base CX0 34 a_spelled d_spelled ["word"] (spSpelled K)) (b_spelled:Binds K d_spelled ["word"] []) (m_spelled:mg "spelled"=some (.ref a_spelled))
  (F:Fun K "show" "show" s_show f fd):FnOk P w K mg base CX0 35 f fd ["text"] (spShowX K):=by
 refine okQ F sc_show (fun vs H Q E h=>?_) (fun cdv A outer s H vs Q E hr h=>?_)
 ·obtain⟨x,ts,ps,rfl,_⟩:=h
  rfl
 obtain⟨x,ts,ps,rfl,ht,hts,hb,q⟩:=h
 refine⟨_,(qss_cons (qs_set (i:=1) sc_show.nd rfl (Or.inl rfl) (qe_lst qa_nil))
   (qss_cons (qs_set (i:=2) sc_show.nd rfl (Or.inl rfl) (qe_listRev rfl rfl m_list m_reversed rfl (qv 0)))
   (qss_cons (qs_while PassesOwn.never (qt_truth (qv 2) (fun _=>rfl)) (qss_cons (qs_set (i:=3) sc_show.nd rfl (Or.inl rfl) (qe_bm0 PySem.F.plainAttrs_list PySem.F.slot_list_pop PySem.F.type_list_pop mt_pop (qv 2)))
   (qss_one (qs_if (qt_val (qe_callB call_isinstA rfl m_isinstance bt_isinstance (qa_cons (qv 3) (qa_cons (qe_bltn (v:=.ty "str") rfl m_str bt_str rfl) qa_nil)))) (qss_one (qs_expr (qe_bm PySem.F.plainAttrs_list PySem.F.slot_list_append PySem.F.type_list_append mt_append (qv 1) (qa_cons (qv 3) qa_nil)))) (qss_one (qs_expr (qe_bm PySem.F.plainAttrs_list PySem.F.slot_list_extend PySem.F.type_list_extend mt_extend (qv 2) (qa_cons (qe_listRev rfl rfl m_list m_reversed rfl (qe_call G_spelled hr rfl m_spelled F_spelled.kp b_spelled .nil pass0 (qa_cons (qv 3) qa_nil))) qa_nil))))))))
   (qss_one (qs_ret (qe_bm PySem.F.plainAttrs_str PySem.F.slot_str_join PySem.F.type_str_join mt_joinS qe_str (qa_cons (qv 1) qa_nil))))))),?_⟩
 obtain⟨a,xs,rfl,ha,ra⟩:=TR_node.mp ht
 have hsz:=ts_sz hts
 have hpl:T.partsL ts<80000:=by have:=hb.2; rw [T.parts_node] at this; lia
 have hdl:ps.length≤960000:=by unfold szP at hsz; lia
 refine⟨Nat.zero_le _,fun p1 g1=>?_⟩
 have S1:=same_new g1 (.lst [])
 refine⟨_,rfl,a,xs,rfl,sqT_mono (.of S1) ha,fun p2 g2=>?_⟩
 have n12:p1≠p2:=fun z=>by rw [← z,upd_same] at g2; cases g2
 have hp2':H p2=none:=S1.free g2
 refine⟨WSx K H (.ref a) ps p1 p2,⟨_,xs.reverse,ts.map .inl,[],ps,none,rfl,S1.trans (same_new g2 _),by rw [upd_ne n12]; exact upd_same,upd_same,?_,outs_ts hts,rfl,fun t hm=>?_,?_,rfl⟩,?_⟩
 ·rw [List.reverse_reverse]
  exact ir_words ((ra.mono (.of S1)).mono (.new g2))
 ·obtain⟨u,hu,e⟩:=List.mem_map.mp hm
  cases e
  exact (B_mem hb hu).le (Nat.le_refl _) (by lia)
 ·rw [wtL_words]
  lia
 rintro m σ H' ⟨ys,its,ds,qs,o,rfl,S,h1,h2,hw,hO,hc,hB,hW,rfl⟩
 have hl:=hw.length
 rw [List.length_reverse] at hl
 have hol:=wtL_len its
 have hcl:ds.length+qs.length=ps.length:=by rw [← hc,List.length_append]
 refine⟨_,rfl,!ys.isEmpty,.inl ⟨ys,SqL.of h2,rfl⟩,?_⟩
 refine ite2 (fun hb=>?_) (fun hb=>?_)
 ·have hne:ys≠[]:=by rintro rfl; exact absurd hb (by decide)
  obtain⟨y,hy⟩:=last_of hne
  have ey:=drop_last hy
  have er:ys.reverse=y::ys.dropLast.reverse:=by
   have:=congrArg List.reverse ey
   rw [List.reverse_append] at this
   exact this
  rw [er] at hw
  match its,hw,hO,hB,hW,hol,hl with
  | it::its',.cons hwy hw',hO1,hB,hW,hol,hl =>
  refine⟨fun σ' H'=>∃ m',m'<wtL (it::its')∧WSx K H (.ref a) ps p1 p2 m' σ' H',fun _ _ h=>h,?_⟩
  refine⟨_,rfl,.inl ⟨rfl,_,SqL.of h2⟩,p2,ys,_,rfl,rfl,h2,hy,?_⟩
  have hwd:=hw'.imp (S:=IR K (upd H' p2 (.lst ys.dropLast))) fun _ _=>IR.mono (Kt.lst h2)
  have S2:Same H (upd H' p2 (.lst ys.dropLast)):=same_upd S hp2'
  have h12:upd H' p2 (.lst ys.dropLast) p1=some (.lst (ds.map fun c=>V.str (tx c))):=by rw [upd_ne n12]; exact h1
  have h22:upd H' p2 (.lst ys.dropLast) p2=some (.lst ys.dropLast):=upd_same
  have hyk:IR K (upd H' p2 (.lst ys.dropLast)) it y:=IR.mono (Kt.lst h2) hwy
  generalize upd H' p2 (.lst ys.dropLast)=H2 at hwd S2 h12 h22 hyk
  have hdlen:ys.dropLast.length=its'.length:=by rw [List.length_dropLast,hl]; rfl
  rw [wtL_cons] at hW
  cases it with
  | inr l =>
   have ey2:y=.str (tx l):=hyk
   subst ey2
   cases hO1 with
   | txt hO2 =>
   refine⟨_,rfl,.inl ⟨.str (tx l),"str",.type "str",true,rfl,TyOf.str _,by rfl,_,rfl,iteT ?_⟩⟩
   refine⟨_,rfl,.inl ⟨rfl,_,SqL.of h12⟩,_,rfl,p1,_,_,rfl,rfl,h12,smallL (by rw [List.length_map]; lia),?_⟩
   refine⟨_,?_,ys.dropLast,its',ds++[l],_,_,rfl,same_upd S2 g1,?_,by rw [upd_ne (Ne.symm n12)]; exact h22,hwd.imp fun _ _=>IR.mono (Kt.lst h12),hO2,?_,fun t ht=>hB t (List.mem_cons_of_mem _ ht),by lia,rfl⟩
   ·rw [wtL_cons]
    show _<1+_
    lia
   ·rw [upd_same,List.map_append]
    rfl
   ·rw [← hc,List.append_assoc]
    rfl
  | inl t =>
   have bt:=hB t List.mem_cons_self
   have hty:TR K H2 t y:=hyk
   obtain⟨a4,zs4,rfl,q4,_⟩:=TR_of hty
   cases hO1 with
   | word hwr hO2 =>
   refine⟨_,rfl,.inr ⟨a4,_,"str",false,rfl,q4,by rfl,_,rfl,iteF ?_⟩⟩
   refine⟨_,rfl,.inl ⟨rfl,_,SqL.of h22⟩,_,rfl,.ref a4,t,rfl,hty,bt,fun z H3 S3 it3=>?_⟩
   obtain⟨a5,zs,rfl,q5,r5⟩:=it3
   have h23:=S3 _ _ h22
   have h13:=S3 _ _ h12
   have hsw:=spell_wt t
   have hsl:=wtL_len (spelledT t)
   have hzl:=r5.length
   have hti:wtI (.inl t)=5 * t.parts:=rfl
   refine⟨a5,zs,rfl,q5,fun l gl=>?_⟩
   have n2l:p2≠l:=ne_of_none h23 gl
   have n1l:p1≠l:=ne_of_none h13 gl
   have h24:upd H3 l (.lst zs.reverse) p2=some (.lst ys.dropLast):=by rw [upd_ne n2l]; exact h23
   refine⟨p2,l,ys.dropLast,zs.reverse,rfl,rfl,h24,upd_same,small (by rw [List.length_reverse,hdlen,hzl]; have:=wtL_len its'; lia),?_⟩
   have k5:Kt H3 (upd (upd H3 l (.lst zs.reverse)) p2 (.lst (ys.dropLast++zs.reverse))):=(Kt.new gl).trans (Kt.lst h24)
   refine⟨_,?_,ys.dropLast++zs.reverse,spelledT t++its',ds,_,_,rfl,same_upd ((S2.trans S3).trans (same_new gl _)) hp2',?_,upd_same,?_,(outs_spell hwr).append hO2,hc,fun u hu=>?_,?_,rfl⟩
   ·rw [wtL_append,wtL_cons]
    lia
   ·rw [upd_ne n12,upd_ne n1l]
    exact h13
   ·rw [List.reverse_append,List.reverse_reverse]
    exact (r5.imp fun _ _=>IR.mono k5).append (hwd.imp fun _ _=>IR.mono ((Kt.of S3).trans k5))
   ·rcases List.mem_append.mp hu with hu | hu
    ·exact spell_b bt u hu
    ·exact hB u (List.mem_cons_of_mem _ hu)
   ·rw [wtL_append]
    lia
 ·have hys:ys=[]:=by
   cases ys with
   | nil=>rfl
   | cons _ _=>exact absurd rfl hb
  subst hys
  have hos:its=[]:=List.length_eq_zero_iff.mp hl.symm
  subst hos
  cases hO
  rw [List.append_nil] at hc
  subst hc
  refine⟨rfl,_,rfl,p1,[32],ds,(by rw [show Str.ofString " "=tx [32] from tx_blank]),rfl,SqL.of h1,?_,q _ S⟩
  unfold szP at hsz
  show _+_ * 1≤_
  lia
end
end Sw25
namespace Sw25
open PySem PySem.Spec PyProof.Rows L2 Sw
section
variable {P:Program}{w:World}{K:PySem.W.Frag}{mg:Str→Option Value}{base:Heap}{f:Addr}{fd:FuncData}
def WaitR (K:PySem.W.Frag) (H:Hp):Option T→V→Prop
 | none,x=>x=.non
 | some t,x=>TR K H t x
theorem WaitR.mono {H H':Hp} (S:Kt H H'):∀ {o:Option T}{x:V},WaitR K H o x→WaitR K H' o x
 | none,_,h=>h
 | some _,_,h=>TR.mono S h
def WShow (K:PySem.W.Frag) (H:Hp) (x:V) (w:List Nat) (p1 p2:Addr):Nat→Sg→Hp→Prop:=fun m σ H'=>∃ (ys:List V) (os:List (Option T)) (cs:List Nat) (o:Option V),
 σ=[some x,some (.ref p1),some (.ref p2),o]∧Same H H'∧H' p1=some (.lst (cs.map fun c=>V.str (tx [c])))∧H' p2=some (.lst ys)∧All2 (WaitR K H') os ys∧cs++T.out os=w∧m=(T.out os).length
theorem wait_kids {H:Hp}:∀ {ts:List T}{xs:List V},TRs K H ts xs→All2 (WaitR K H) (ts.map some) xs
 | [],xs,h=>by rw [TRs_nil] at h; rw [h]; exact .nil
 | t::ts,xs,h=>by
  obtain⟨x,r,rfl,h1,h2⟩:=TRs_cons.mp h
  exact .cons h1 (wait_kids h2)
theorem ok_show_tree (m_list:mg "list"=none) (m_reversed:mg "reversed"=none) (F:Fun K "show_tree" "show_tree" s_show_tree f fd):FnOk P w K mg base CX0 31 f fd ["tree"] (spShowT K):=by
 refine F.ok sc_show_tree (fun vs H Q E h=>?_) (fun cdv A outer s H vs Q E hr h=>?_)
 ·obtain⟨x,t,rfl,_⟩:=h
  rfl
 obtain⟨x,t,rfl,ht,hz,q⟩:=h
 refine⟨_,(pss_cons (ps_set (i:=1) sc_show_tree.nd rfl (Or.inl rfl) (pe_lst pa_nil))
   (pss_cons (ps_set (i:=2) sc_show_tree.nd rfl (Or.inl rfl) (pe_lst (pa_cons (pv 0) pa_nil)))
   (pss_cons (ps_while PassesOwn.never (pt_truth (pv 2) (fun _=>rfl)) (pss_cons (ps_set (i:=3) sc_show_tree.nd rfl (Or.inl rfl) (pe_bm0 PySem.F.plainAttrs_list PySem.F.slot_list_pop PySem.F.type_list_pop mt_pop (pv 2)))
   (pss_one (ps_if (pt_cmpR op_isN (pv 3) pe_non (nomark _)) (pss_one (ps_expr (pe_bm PySem.F.plainAttrs_list PySem.F.slot_list_append PySem.F.type_list_append mt_append (pv 1) (pa_cons pe_str pa_nil)))) (pss_cons (ps_expr (pe_bm PySem.F.plainAttrs_list PySem.F.slot_list_append PySem.F.type_list_append mt_append (pv 1) (pa_cons pe_str pa_nil)))
   (pss_cons (ps_expr (pe_bm PySem.F.plainAttrs_list PySem.F.slot_list_append PySem.F.type_list_append mt_append (pv 2) (pa_cons pe_non pa_nil)))
   (pss_one (ps_expr (pe_bm PySem.F.plainAttrs_list PySem.F.slot_list_extend PySem.F.type_list_extend mt_extend (pv 2) (pa_cons (SwR.pe_listRev rfl rfl m_list m_reversed rfl (pv 3)) pa_nil))))))))))
   (pss_one (ps_ret (pe_bm PySem.F.plainAttrs_str PySem.F.slot_str_join PySem.F.type_str_join mt_join pe_str (pa_cons (pv 1) pa_nil))))))),?_⟩
 refine⟨Nat.zero_le _,fun p1 hp1=>?_⟩
 refine⟨_,rfl,(by show 1≤sizeLine; decide),fun p2 hp2=>?_⟩
 have n12:p1≠p2:=fun z=>by rw [← z,upd_same] at hp2; cases hp2
 have hp2':H p2=none:=(same_new hp1 _).free hp2
 have hlen:=T.wr_len t
 refine⟨WShow K H x t.wr p1 p2,⟨_,[x],[some t],[],none,rfl,(same_new hp1 _).trans (same_new hp2 _),by rw [upd_ne n12]; exact upd_same,upd_same,All2.one (show TR K _ t x from (ht.mono (Kt.new hp1)).mono (Kt.new hp2)),by rw [T.out_one]; rfl,rfl⟩,?_⟩
 rintro m σ H' ⟨ys,os,cs,o,rfl,S,h1,h2,hw,hc,rfl⟩
 have hl:=hw.length
 have hol:=T.out_len os
 have hcl:cs.length+(T.out os).length=t.wr.length:=by rw [← hc,List.length_append]
 refine⟨_,rfl,!ys.isEmpty,.inl ⟨ys,SqL.of h2,rfl⟩,?_⟩
 refine ite2 (fun hb=>?_) (fun hb=>?_)
 ·have hne:ys≠[]:=by rintro rfl; exact absurd hb (by decide)
  obtain⟨y,hy⟩:=last_of hne
  obtain⟨oo,hoo,hwy⟩:=hw.get hy
  rw [hl] at hoo
  have eos:=drop_last hoo
  have eout:T.out os=T.outO oo++T.out os.dropLast:=by
   have e:=congrArg T.out eos
   rw [T.out_append,T.out_one] at e
   exact e
  have hdl:=T.out_len os.dropLast
  have hpos:=T.outO_pos oo
  refine⟨fun σ' H'=>∃ m',m'<(T.out os).length∧WShow K H x t.wr p1 p2 m' σ' H',fun _ _ h=>h,?_⟩
  refine⟨_,rfl,.inl ⟨rfl,_,SqL.of h2⟩,p2,ys,_,rfl,rfl,h2,hy,?_⟩
  have hwd:=(All2.dropLast hw).imp (S:=WaitR K (upd H' p2 (.lst ys.dropLast))) fun _ _=>WaitR.mono (Kt.lst h2)
  have S2:Same H (upd H' p2 (.lst ys.dropLast)):=same_upd S hp2'
  have h12:upd H' p2 (.lst ys.dropLast) p1=some (.lst (cs.map fun c=>V.str (tx [c]))):=by rw [upd_ne n12]; exact h1
  have h22:upd H' p2 (.lst ys.dropLast) p2=some (.lst ys.dropLast):=upd_same
  have hyk:WaitR K (upd H' p2 (.lst ys.dropLast)) oo y:=WaitR.mono (Kt.lst h2) hwy
  generalize upd H' p2 (.lst ys.dropLast)=H2 at hwd S2 h12 h22 hyk
  have hcl2:cs.length<1000000:=by lia
  cases oo with
  | none =>
   have ey:y=.non:=hyk
   subst ey
   refine⟨_,rfl,rfl,_,rfl,iteT ?_⟩
   refine⟨_,rfl,.inl ⟨rfl,_,SqL.of h12⟩,p1,_,_,rfl,rfl,h12,smallL (by rw [List.length_map]; lia),?_⟩
   refine⟨_,?_,ys.dropLast,os.dropLast,cs++[41],_,rfl,same_upd S2 hp1,?_,by rw [upd_ne (Ne.symm n12)]; exact h22,hwd.imp fun _ _=>WaitR.mono (Kt.lst h12),?_,rfl⟩
   ·rw [eout,List.length_append]
    show _<1+_
    lia
   ·rw [upd_same,List.map_append]
    rw [show Str.ofString ")"=tx [41] from tx_rp]
    rfl
   ·rw [← hc,eout,List.append_assoc]
    rfl
  | some u =>
   obtain⟨a,zs,rfl,g1,g2⟩:=TR_of (show TR K H2 u y from hyk)
   refine⟨_,rfl,rfl,_,rfl,iteF ?_⟩
   refine⟨_,rfl,.inl ⟨rfl,_,SqL.of h12⟩,p1,_,_,rfl,rfl,h12,smallL (by rw [List.length_map]; lia),?_⟩
   have k3:Kt H2 (upd H2 p1 (.lst ((cs.map fun c=>V.str (tx [c]))++[.str (Str.ofString "(")]))):=Kt.lst h12
   have h23:upd H2 p1 (.lst ((cs.map fun c=>V.str (tx [c]))++[.str (Str.ofString "(")])) p2=some (.lst ys.dropLast):=by rw [upd_ne (Ne.symm n12)]; exact h22
   have h13:upd H2 p1 (.lst ((cs.map fun c=>V.str (tx [c]))++[.str (Str.ofString "(")])) p1=some (.lst ((cs++[40]).map fun c=>V.str (tx [c]))):=by
    rw [upd_same,List.map_append,tx_lp]
    rfl
   have S3:Same H (upd H2 p1 (.lst ((cs.map fun c=>V.str (tx [c]))++[.str (Str.ofString "(")]))):=same_upd S2 hp1
   generalize upd H2 p1 (.lst ((cs.map fun c=>V.str (tx [c]))++[.str (Str.ofString "(")]))=H3 at k3 h23 h13 S3
   have hlo:ys.dropLast.length≤1000000:=by rw [List.length_dropLast]; lia
   refine⟨_,rfl,.inl ⟨rfl,_,SqL.of h23⟩,p2,_,_,rfl,rfl,h23,smallL hlo,?_⟩
   have k4:Kt H3 (upd H3 p2 (.lst (ys.dropLast++[.non]))):=Kt.lst h23
   have h14:upd H3 p2 (.lst (ys.dropLast++[.non])) p1=some (.lst ((cs++[40]).map fun c=>V.str (tx [c]))):=by rw [upd_ne n12]; exact h13
   have h24:upd H3 p2 (.lst (ys.dropLast++[.non])) p2=some (.lst (ys.dropLast++[.non])):=upd_same
   have S4:Same H (upd H3 p2 (.lst (ys.dropLast++[.non]))):=same_upd S3 hp2'
   generalize upd H3 p2 (.lst (ys.dropLast++[.non]))=H4 at k4 h14 h24 S4
   have g14:=sqT_mono k4 (sqT_mono k3 g1)
   have hul:=T.len_le_parts u.kids
   have hup:=T.parts_kids u
   have huw:=T.wr_len u
   have hzl:=g2.length
   have eoL:(T.outO (some u)).length=u.wr.length:=rfl
   have eol:(T.out os).length=u.wr.length+(T.out os.dropLast).length:=by rw [eout,List.length_append]; rfl
   refine⟨_,rfl,.inl ⟨rfl,_,SqL.of h24⟩,_,rfl,a,zs,rfl,g14,fun l hl5=>?_⟩
   have n2l:p2≠l:=ne_of_none h24 hl5
   have n1l:p1≠l:=ne_of_none h14 hl5
   refine⟨p2,l,ys.dropLast++[.non],zs.reverse,rfl,rfl,by rw [upd_ne n2l]; exact h24,upd_same,small (by rw [List.length_append,List.length_reverse,List.length_singleton,List.length_dropLast]; lia),?_⟩
   have k5:Kt H4 (upd H4 l (.lst zs.reverse)):=Kt.new hl5
   have h25:upd H4 l (.lst zs.reverse) p2=some (.lst (ys.dropLast++[.non])):=by rw [upd_ne n2l]; exact h24
   have k6:Kt H2 (upd (upd H4 l (.lst zs.reverse)) p2 (.lst (ys.dropLast++[.non]++zs.reverse))):=k3.trans (k4.trans (k5.trans (Kt.lst h25)))
   refine⟨_,?_,ys.dropLast++[.non]++zs.reverse,os.dropLast++[none]++u.kids.reverse.map some,cs++[40],_,rfl,same_upd (S4.trans (same_new hl5 _)) hp2',?_,upd_same,?_,?_,rfl⟩
   ·rw [T.out_append,T.out_append,T.out_one,T.out_kids,List.length_append,List.length_append,eol,T.wr_kids u]
    simp only [List.length_cons,List.length_append,List.length_singleton,List.length_nil,T.outO]
    lia
   ·rw [upd_ne n12,upd_ne n1l]
    exact h14
   ·refine All2.append (All2.append (hwd.imp fun _ _=>WaitR.mono k6) (All2.one (show (V.non:V)=.non from rfl))) ?_
    rw [List.map_reverse]
    exact All2.rev (wait_kids (g2.mono k6))
   ·rw [T.out_append,T.out_append,T.out_one,T.out_kids,← hc,eout,T.outO,T.outO,T.wr_kids u,List.append_assoc]
    simp
 ·have hys:ys=[]:=by
   cases ys with
   | nil=>rfl
   | cons _ _=>exact absurd rfl hb
  subst hys
  have hos:os=[]:=List.length_eq_zero_iff.mp hl.symm
  subst hos
  rw [T.out_nil,List.append_nil] at hc
  subst hc
  refine⟨rfl,_,rfl,p1,t.wr.map fun c=>[c],(by rw [show Str.ofString ""=tx [] from tx_nil]),rfl,SqL.of (by rw [h1,List.map_map]; rfl),?_,?_⟩
  ·have:(t.wr.map fun c=>[c]).flatten=t.wr:=single_flat _
   rw [this]
   lia
  ·have:(t.wr.map fun c=>[c]).flatten=t.wr:=single_flat _
   rw [this]
   exact q _ S
theorem ok_first
  (F:Fun K "first" "first" s_first f fd):FnOk P w K mg base CX0 31 f fd ["tree"] (spFirst K):=by
 refine okQ F sc_first (fun vs H Q E h=>?_) (fun cdv A outer s H vs Q E hr h=>?_)
 ·obtain⟨x,t,rfl,_⟩:=h
  rfl
 obtain⟨x,t,rfl,ht,hd,q⟩:=h
 have hE:=hr.un
 have hE:(A.deeper (envOfC "first" (defScope s_first) s.heap.objs.size f cdv)).units+401<cLine:=by lia
 refine⟨_,(qss_cons (qs_if (qt_cmpR (op_eqTr hE) (qv 0) (qe_tup qa_nil) (nomark _)) (qss_one (qs_ret (qe_tup qa_nil))) qss_nil)
   (qss_one (qs_ret (qe_ix ix_tup (qv 0) qe_int (fun _ _=>rfl))))),?_⟩
 refine⟨_,rfl,Nat.zero_le _,fun p1 g1=>⟨t,leaf,ht.mono (.new g1),leaf_tr upd_same,by lia,_,rfl,ite2 (fun hb=>?_) (fun hb=>?_)⟩⟩
 ·have e:=(T.beq_iff _ _).mp hb
  rw [e] at q
  exact⟨Nat.zero_le _,fun p2 g2=>q _ _ ((same_new g1 _).trans (same_new g2 _)) (leaf_tr upd_same)⟩
 ·cases t with
  | node ts =>
   cases ts with
   | nil=>exact absurd ((T.beq_iff _ _).mpr rfl) hb
   | cons u us=>exact⟨_,rfl,nIxP (ht.mono (.new g1)) 0 rfl (fun z tz=>q _ _ (same_new g1 _) tz)⟩
theorem ok_rest
  (F:Fun K "rest" "rest" s_rest f fd):FnOk P w K mg base CX0 31 f fd ["tree"] (spRest K):=by
 refine okQ F sc_rest (fun vs H Q E h=>?_) (fun cdv A outer s H vs Q E hr h=>?_)
 ·obtain⟨x,t,rfl,_⟩:=h
  rfl
 obtain⟨x,t,rfl,ht,q⟩:=h
 refine⟨_,(qss_one (qs_ret (qe_slice sl_tupA (qv 0) (qo_some qe_int) qo_none))),?_⟩
 cases t with
 | node ts=>exact⟨_,rfl,1,rfl,nFromP ht 1 (fun z H' S tz=>q z H' S tz)⟩
theorem ok_sort_of (m_min:mg "min"=none) (m_len:mg "len"=none) {u_NAMELESS:Value} (m_NAMELESS:mg "NAMELESS"=some u_NAMELESS) (r_NAMELESS:RelV (.int 9) u_NAMELESS)
  {a_first:Addr}{d_first:FuncData} (F_first:Fun K "first" "first" s_first a_first d_first) (G_first:FnOk P w K mg base CX0 31 a_first d_first ["tree"] (spFirst K)) (b_first:Binds K d_first ["tree"] []) (m_first:mg "first"=some (.ref a_first))
  (F:Fun K "sort_of" "sort_of" s_sort_of f fd):FnOk P w K mg base CX0 32 f fd ["word"] (spSortL K):=by
 refine okQ F sc_sort_of (fun vs H Q E h=>?_) (fun cdv A outer s H vs Q E hr h=>?_)
 ·obtain⟨x,t,rfl,_⟩:=h
  rfl
 obtain⟨x,t,rfl,ht,h1,q⟩:=h
 refine⟨_,(qss_one (qs_ret (qe_callB (call_min2 rfl) rfl m_min bt_min (qa_cons (qe_callB call_len_seq rfl m_len bt_len (qa_cons (qe_call G_first hr rfl m_first F_first.kp b_first .nil pass0 (qa_cons (qv 0) qa_nil)) qa_nil)) (qa_cons (qe_glob (v:=.int 9) rfl m_NAMELESS r_NAMELESS) qa_nil))))),?_⟩
 refine⟨_,rfl,x,t,rfl,ht,h1,fun y H1 S1 t1=>?_⟩
 obtain⟨b,ys,rfl,hb',rb⟩:=TR_node.mp (TR_kids t1)
 refine⟨b,ys,rfl,.inr hb',_,_,rfl,?_⟩
 rw [rb.length,show (if (9:Int)<((ats t.kids 0).kids.length:Int) then (9:Int) else ((ats t.kids 0).kids.length:Int))=((sortT t:Nat):Int) by rw [sort_ats]; split <;> lia]
 exact q _ S1
theorem ok_load_of
  {a_rest:Addr}{d_rest:FuncData} (F_rest:Fun K "rest" "rest" s_rest a_rest d_rest) (G_rest:FnOk P w K mg base CX0 31 a_rest d_rest ["tree"] (spRest K)) (b_rest:Binds K d_rest ["tree"] []) (m_rest:mg "rest"=some (.ref a_rest))
  (F:Fun K "load_of" "load_of" s_load_of f fd):FnOk P w K mg base CX0 32 f fd ["word"] (spRest K):=by
 refine okQ F sc_load_of (fun vs H Q E h=>?_) (fun cdv A outer s H vs Q E hr h=>?_)
 ·obtain⟨x,t,rfl,_⟩:=h
  rfl
 obtain⟨x,t,rfl,ht,q⟩:=h
 refine⟨_,(qss_one (qs_ret (qe_call G_rest hr rfl m_rest F_rest.kp b_rest .nil pass0 (qa_cons (qv 0) qa_nil)))),?_⟩
 exact⟨_,rfl,x,t,rfl,ht,fun y H' S ty=>q _ _ S ty⟩
theorem ok_lay
  (F:Fun K "lay" "lay" s_lay f fd):FnOk P w K mg base CX0 31 f fd ["tree"] (spLay K):=by
 refine okQ F sc_lay (fun vs H Q E h=>?_) (fun cdv A outer s H vs Q E hr h=>?_)
 ·obtain⟨x,t,rfl,_⟩:=h
  rfl
 obtain⟨x,t,rfl,ht,h1,h2,q⟩:=h
 refine⟨_,(qss_one (qs_ret (qe_op op_catTA (qe_tup (qa_cons (qe_tup qa_nil) qa_nil)) (qv 0)))),?_⟩
 have hl:=(show B 400 1000000 t from ⟨h1,h2⟩)
 rw [← kids_node t] at hl
 have hl:=hl.len
 refine⟨Nat.zero_le _,fun p1 g1=>⟨(by show 1≤sizeLine; decide),fun p2 g2=>?_⟩⟩
 obtain⟨S1,t1⟩:=tupN (K:=K) (ts:=[]) g1 (TRs_nil.mpr rfl)
 obtain⟨S2,t2⟩:=tupN (K:=K) g2 (trs1 t1)
 exact⟨_,rfl,nCat t2 (TR_kids (ht.mono (.of (S1.trans S2)))) (small (by rw [List.length_singleton]; lia)) (fun z H' S tz=>q _ _ (S1.trans (S2.trans S)) tz)⟩
theorem ok_plain
  (F:Fun K "plain" "plain" s_plain f fd):FnOk P w K mg base CX0 31 f fd ["sort"] (spPlain K):=by
 refine okQ F sc_plain (fun vs H Q E h=>?_) (fun cdv A outer s H vs Q E hr h=>?_)
 ·obtain⟨n,rfl,_⟩:=h
  rfl
 obtain⟨n,rfl,h1,h6,q⟩:=h
 refine⟨_,(qss_one (qs_ret (qe_tup (qa_cons (qe_op op_repTA (qe_tup (qa_cons (qe_tup qa_nil) qa_nil)) (qv 0)) qa_nil)))),?_⟩
 refine⟨Nat.zero_le _,fun p1 g1=>⟨(by show 1≤sizeLine; decide),fun p2 g2=>?_⟩⟩
 obtain⟨S1,t1⟩:=tupN (K:=K) (ts:=[]) g1 (TRs_nil.mpr rfl)
 obtain⟨S2,t2⟩:=tupN (K:=K) g2 (trs1 t1)
 refine⟨_,rfl,nRep n t2 rfl (by lia) (by lia) (by lia) (fun z H' S tz=>⟨(by show 1≤sizeLine; decide),fun p3 g3=>?_⟩)⟩
 obtain⟨S3,t3⟩:=tupN (K:=K) g3 (trs1 tz)
 exact q _ _ (S1.trans (S2.trans (S.trans S3))) t3
theorem ok_fork {u_FORK:Value} (m_FORK:mg "FORK"=some u_FORK) (r_FORK:RelV (.int 7) u_FORK)
  (F:Fun K "fork" "fork" s_fork f fd):FnOk P w K mg base CX0 31 f fd ["yes","no"] (spFork K):=by
 refine okQ F sc_fork (fun vs H Q E h=>?_) (fun cdv A outer s H vs Q E hr h=>?_)
 ·obtain⟨x,t,y,u,rfl,_⟩:=h
  rfl
 obtain⟨x,t,y,u,rfl,ht,hu,⟨h1,h2⟩,⟨h3,h4⟩,q⟩:=h
 refine⟨_,(qss_one (qs_ret (qe_op op_catTA (qe_tup (qa_cons (qe_op op_repTA (qe_tup (qa_cons (qe_tup qa_nil) qa_nil)) (qe_glob (v:=.int 7) rfl m_FORK r_FORK)) (qa_cons (qv 0) qa_nil))) (qv 1)))),?_⟩
 have hl:=(show B 400 1000000 u from ⟨h3,h4⟩)
 rw [← kids_node u] at hl
 have hl:=hl.len
 refine⟨Nat.zero_le _,fun p1 g1=>⟨(by show 1≤sizeLine; decide),fun p2 g2=>?_⟩⟩
 obtain⟨S1,t1⟩:=tupN (K:=K) (ts:=[]) g1 (TRs_nil.mpr rfl)
 obtain⟨S2,t2⟩:=tupN (K:=K) g2 (trs1 t1)
 refine nRepP (k:=7) 7 t2 rfl rfl (by decide) (by decide) (fun z H' S tz=>⟨_,rfl,(by show 2≤sizeLine; decide),fun p3 g3=>?_⟩)
 obtain⟨S3,t3⟩:=tupN (K:=K) g3 (trs2 tz (ht.mono (.of (S1.trans (S2.trans S)))))
 exact⟨_,rfl,nCat t3 (TR_kids (hu.mono (.of (S1.trans (S2.trans (S.trans S3)))))) (smallM (by show 2+_≤_; lia)) (fun z4 H4 S4 t4=>q _ _ (S1.trans (S2.trans (S.trans (S3.trans S4)))) t4)⟩
theorem ok_loop {u_WHILE:Value} (m_WHILE:mg "WHILE"=some u_WHILE) (r_WHILE:RelV (.int 8) u_WHILE)
  (F:Fun K "loop" "loop" s_loop f fd):FnOk P w K mg base CX0 31 f fd ["body"] (spLoop K):=by
 refine okQ F sc_loop (fun vs H Q E h=>?_) (fun cdv A outer s H vs Q E hr h=>?_)
 ·obtain⟨x,t,rfl,_⟩:=h
  rfl
 obtain⟨x,t,rfl,ht,h1,h2,q⟩:=h
 refine⟨_,(qss_one (qs_ret (qe_op op_catTA (qe_tup (qa_cons (qe_op op_repTA (qe_tup (qa_cons (qe_tup qa_nil) qa_nil)) (qe_glob (v:=.int 8) rfl m_WHILE r_WHILE)) qa_nil)) (qv 0)))),?_⟩
 have hl:=(show B 400 1000000 t from ⟨h1,h2⟩)
 rw [← kids_node t] at hl
 have hl:=hl.len
 refine⟨Nat.zero_le _,fun p1 g1=>⟨(by show 1≤sizeLine; decide),fun p2 g2=>?_⟩⟩
 obtain⟨S1,t1⟩:=tupN (K:=K) (ts:=[]) g1 (TRs_nil.mpr rfl)
 obtain⟨S2,t2⟩:=tupN (K:=K) g2 (trs1 t1)
 refine nRepP (k:=8) 8 t2 rfl rfl (by decide) (by decide) (fun z H' S tz=>⟨(by show 1≤sizeLine; decide),fun p3 g3=>?_⟩)
 obtain⟨S3,t3⟩:=tupN (K:=K) g3 (trs1 tz)
 exact⟨_,rfl,nCat t3 (TR_kids (ht.mono (.of (S1.trans (S2.trans (S.trans S3)))))) (small (by show 1+_≤_; lia)) (fun z4 H4 S4 t4=>q _ _ (S1.trans (S2.trans (S.trans (S3.trans S4)))) t4)⟩
end
end Sw25
namespace Sw
open PySem PySem.Spec PyProof.Rows L2
def KidR (K:PySem.W.Frag) (H:Hp) (t:T) (x:V):Prop:=∃ a v,x=.ref a∧SqT K H a [v,.str (tx t.wr)]∧TR K H t v
abbrev Kids (K:PySem.W.Frag) (H:Hp):List T→List V→Prop:=All2 (KidR K H)
theorem KidR.mono {K:PySem.W.Frag}{H H':Hp}{t:T}{x:V} (S:Kt H H') (h:KidR K H t x):KidR K H' t x:=by
 obtain⟨a,v,e,h1,h2⟩:=h
 exact⟨a,v,e,sqT_mono S h1,h2.mono S⟩
theorem Kids.mono {K:PySem.W.Frag}{H H':Hp}{ts:List T}{xs:List V} (S:Kt H H') (h:Kids K H ts xs):Kids K H' ts xs:=All2.imp (fun _ _=>KidR.mono S) h
end Sw
namespace Sw25
open PySem PySem.Spec PyProof.Rows L2 Sw
section
variable {P:Program}{w:World}{K:PySem.W.Frag}{mg:Str→Option Value}{base:Heap}{f g1 g2:Addr}{fd gd1 gd2:FuncData}
def spJoinedP (K:PySem.W.Frag):Sp:=fun vs H Q _=>∃ (l:Addr) (xs:List V) (ts:List T),vs=[.ref l]∧SqL K H l xs∧Kids K H ts xs∧T.partsL ts≤100000∧∀ r H',Same H H'→KidR K H' (.node ts) r→Q r H'
theorem ok_joined (m_tuple:mg "tuple"=none) (F:Fun K "_law_joined" "_law_joined" s__law_joined f fd):FnOk P w K mg base CX0 31 f fd ["_law_kids"] (spJoinedP K):=by
 refine F.ok sc__law_joined (fun vs H Q E h=>?_) (fun cdv A outer s H vs Q E hr h=>?_)
 ·obtain⟨l,xs,ts,rfl,_⟩:=h
  rfl
 obtain⟨l,xs,ts,rfl,hl,hk,hz,q⟩:=h
 refine⟨_,(pss_one (ps_ret (pe_tup (pa_cons (pe_callTy call_tuple_of rfl m_tuple bt_tuple (pa_cons (pe_lc rfl (by exact lc_own rfl rfl rfl) (pi_list (pv 0)) (fun _ _ _ _ _=>(pe_ix (ix_tupK (K:=K) rfl) (pv 0) pe_int (fun _ _=>rfl)))) pa_nil)) (pa_cons (pe_op op_add_str (pe_op op_add_str pe_str (pe_bm PySem.F.plainAttrs_str PySem.F.slot_str_join PySem.F.type_str_join mt_join pe_str (pa_cons (pe_lc rfl (by exact lc_own rfl rfl rfl) (pi_list (pv 0)) (fun _ _ _ _ _=>(pe_ix (ix_tupK (K:=K) rfl) (pv 0) pe_int (fun _ _=>rfl)))) pa_nil))) pe_str) pa_nil))))),?_⟩
 have hlen:=hk.length
 have hlp:=T.len_le_parts ts
 have hz1:xs.length≤sizeLine:=small (by lia)
 have hwl:=T.wrL_len ts
 refine⟨_,rfl,l,rfl,⟨xs,hl⟩,lc_list (fun i y=>∃ t,ts[i]?=some t∧TR K H t y) hl hz1 (fun i x H' R hx S hR=>?_) (fun D4 ys4 hD4 l4 p4=>?_)⟩
 ·obtain⟨t,ht,a,v,rfl,h1,h2⟩:=hk.get hx
  exact⟨_,rfl,a,_,0,_,rfl,rfl,sqT_mono (.of S) h1,atI_nat (j:=0) rfl,hR _ ⟨t,ht,h2⟩⟩
 refine⟨D4,ys4,rfl,.inl ⟨SqL.of upd_same,fun p5 hp5=>?_⟩⟩
 have S5:=(same_new hD4 (.lst ys4)).trans (same_new hp5 (.tup ys4))
 have t5:=All2.of_get (R:=fun t y=>TR K H t y) (l4.trans hlen) p4
 have hl5:=S5.seq hl
 have hk5:=Kids.mono (.of S5) hk
 refine⟨rfl,_,rfl,l,rfl,⟨xs,hl5⟩,lc_list (fun i y=>∃ t,ts[i]?=some t∧y=V.str (tx t.wr)) hl5 hz1 (fun i x H' R hx S hR=>?_) (fun D6 ys6 hD6 l6 p6=>?_)⟩
 ·obtain⟨t,ht,a,v,rfl,h1,h2⟩:=hk5.get hx
  exact⟨_,rfl,a,_,1,_,rfl,rfl,sqT_mono (.of S) h1,atI_nat (j:=1) rfl,hR _ ⟨t,ht,rfl⟩⟩
 have e6:ys6=ts.map (fun t=>V.str (tx t.wr)):=(All2.of_get (R:=fun t y=>y=V.str (tx t.wr)) (l6.trans hlen) p6).map_eq
 refine⟨D6,ts.map T.wr,tx_nil ▸ rfl,rfl,SqL.of (by rw [upd_same,e6,List.map_map]; rfl),?_,?_⟩
 ·rw [T.wrL_flat]; lia
 rw [T.wrL_flat]
 have e8:(Str.ofString "(":Str)=tx [40]:=tx_lp
 have e9:(Str.ofString ")":Str)=tx [41]:=tx_rp
 refine⟨_,_,rfl,rfl,?_,?_⟩
 ·rw [e8,tx_len,tx_len]; exact small (by simp only [List.length_cons,List.length_nil]; lia)
 refine⟨_,_,rfl,rfl,?_,?_⟩
 ·rw [e8,e9,tx_append,tx_len,tx_len]; exact small (by simp only [List.length_cons,List.length_nil,List.length_append]; lia)
 have ew:(Str.ofString "("++tx (T.wrL ts)++Str.ofString ")":Str)=tx (T.node ts).wr:=by
  rw [e8,e9,tx_append,tx_append,T.wr_node]; rfl
 rw [ew]
 refine⟨(by show 2≤sizeLine; decide),fun p7 hp7=>?_⟩
 have S7:=(same_new hD6 (.lst ys6)).trans (same_new hp7 (.tup [.ref p5,.str (tx (T.node ts).wr)]))
 refine q _ _ (S5.trans S7) ⟨p7,.ref p5,rfl,SqT.of upd_same,?_⟩
 exact TR_mk (xs:=ys4) (SqT.of (S7 _ _ upd_same)) ((trs_of t5).mono (.of (S5.trans S7)))
def spGrownP (K:PySem.W.Frag):Sp:=fun vs H Q _=>∃ (l:Addr) (ns:List Int),vs=[.ref l]∧SqL K H l (ns.map V.int)∧ns.length≤900 ∧
 ∀ (r:Addr) (xs:List V) (ts:List T) (H':Hp),Same H H'→H' r=some (.lst xs)→Kids K H' ts xs→T.partsL ts≤ns.length→(0<ns.length→ts≠[])→ts=grownN ns ns.length→Q (.ref r) H'
theorem ok_grown (m_min:mg "min"=none) (m_len:mg "len"=none)
  (F__law_pick:Fun K "_law_pick" "_law_pick" s__law_pick g1 gd1) (G__law_pick:FnOk P w K mg base CX0 31 g1 gd1 ["_law_cell","_law_turn","_law_many"] spPickD) (b__law_pick:Binds K gd1 ["_law_cell","_law_turn","_law_many"] []) (m__law_pick:mg "_law_pick"=some (.ref g1))
  (F__law_joined:Fun K "_law_joined" "_law_joined" s__law_joined g2 gd2) (G__law_joined:FnOk P w K mg base CX0 31 g2 gd2 ["_law_kids"] (spJoinedP K)) (b__law_joined:Binds K gd2 ["_law_kids"] []) (m__law_joined:mg "_law_joined"=some (.ref g2))
  (F:Fun K "_law_grown" "_law_grown" s__law_grown f fd):FnOk P w K mg base CX0 32 f fd ["_law_cells"] (spGrownP K):=by
 refine F.ok sc__law_grown (fun vs H Q E h=>?_) (fun cdv A outer s H vs Q E hr h=>?_)
 ·obtain⟨l,ns,rfl,_⟩:=h
  rfl
 obtain⟨l,ns,rfl,hl,hz,q⟩:=h
 refine⟨_,(pss_cons (ps_set (i:=1) sc__law_grown.nd rfl (Or.inl rfl) (pe_lst pa_nil))
   (pss_cons (ps_for PassesOwn.never rfl (pi_list (pv 0)) (pg_name (i:=2) sc__law_grown.nd rfl (Or.inl rfl)) (pss_cons (ps_set (i:=3) sc__law_grown.nd rfl (Or.inl rfl) (pe_callB (call_min2 rfl) rfl m_min bt_min (pa_cons (pe_callB call_len_seq rfl m_len bt_len (pa_cons (pv 1) pa_nil)) (pa_cons (pe_ix ix_list (pe_lst (pa_cons pe_int (pa_cons pe_int (pa_cons pe_int (pa_cons pe_int (pa_cons pe_int (pa_cons pe_int (pa_cons pe_int (pa_cons pe_int pa_nil))))))))) (pe_call G__law_pick hr rfl m__law_pick F__law_pick.kp b__law_pick .nil pass0 (pa_cons (pv 2) (pa_cons pe_int (pa_cons pe_int pa_nil)))) (fun _ _=>rfl)) pa_nil))))
   (pss_one (ps_set (i:=1) sc__law_grown.nd rfl (Or.inl rfl) (pe_op op_cat (pe_slice sl_list (pv 1) po_none (po_some (pe_op op_sub (pe_callB call_len_seq rfl m_len bt_len (pa_cons (pv 1) pa_nil)) (pv 3)))) (pe_lst (pa_cons (pe_call G__law_joined hr rfl m__law_joined F__law_joined.kp b__law_joined .nil pass0 (pa_cons (pe_slice sl_list (pv 1) (po_some (pe_op op_sub (pe_callB call_len_seq rfl m_len bt_len (pa_cons (pv 1) pa_nil)) (pv 3))) po_none) pa_nil)) pa_nil)))))))
   (pss_one (ps_ret (pv 1))))),?_⟩
 refine⟨Nat.zero_le _,fun p0 hp0=>?_⟩
 have hl0:=sqL_new (o:=.lst []) hl hp0
 refine⟨_,rfl,l,rfl,⟨_,hl0⟩,?_⟩
 refine for_list (xs:=ns.map V.int) (fun i σ' H'=>∃ p xs ts o2 o3,σ'=[some (.ref l),some (.ref p),o2,o3]∧Same H H'∧H' p=some (.lst xs)∧Kids K H' ts xs∧T.partsL ts≤i∧(0<i→ts≠[])∧ts=grownN ns i) ?_ ?_ ?_ ?_
 ·exact⟨p0,[],[],_,_,rfl,same_new hp0 _,upd_same,.nil,by rw [T.partsL_nil]; lia,(fun h=>absurd h (by lia)),rfl⟩
 ·rintro i σ' H' _ ⟨p,xs,ts,o2,o3,rfl,S,_⟩
  exact S.seq hl
 ·rintro i x σ' H' hx ⟨p,xs,ts,o2,o3,rfl,S,hp,hk,hpl,_,hgr⟩
  have hi:i<ns.length:=by
   have:=(List.getElem?_eq_some_iff.mp hx).1
   rw [List.length_map] at this
   exact this
  obtain⟨c,rfl,hci⟩:∃ c,x=.int c∧ns[i]?=some c:=by
   rw [List.getElem?_map,List.getElem?_eq_getElem hi] at hx
   exact⟨_,(Option.some.inj hx).symm,List.getElem?_eq_getElem hi⟩
  have hlen:=hk.length
  have hlp:=T.len_le_parts ts
  refine⟨_,rfl,p,xs,rfl,.inl (SqL.of hp),(by show 8≤sizeLine; decide),fun p2 hp2=>?_⟩
  refine⟨_,rfl,c,1,8,rfl,by decide,fun j hj0 hj1 ej=>?_⟩
  have em:=at_tab (ns:=[0,0,1,2,3,4,7,0]) hj0 (by simpa using hj1)
  have hm:tabG j∈([0,0,1,2,3,4,7,0]:List Int):=by
   have h8:j=0∨j=1∨j=2∨j=3∨j=4∨j=5∨j=6∨j=7:=by lia
   rcases h8 with rfl | rfl | rfl | rfl | rfl | rfl | rfl | rfl <;> decide
  have etj:tabG j=tabG (pickZ c 1 8):=by rw [ej]
  change atI _ j=some (V.int (tabG j)) at em
  generalize tabG j=m at em hm etj
  have hm0:0≤m:=by
   simp only [List.mem_cons,List.not_mem_nil,or_false] at hm
   lia
  refine⟨p2,_,j,_,rfl,rfl,SqL.of upd_same,em,_,_,rfl,?_⟩
  generalize hmv:(if m<(xs.length:Int) then m else (xs.length:Int))=mv
  have hv0:0≤mv:=by rw [← hmv]; split <;> lia
  have hv1:mv≤(xs.length:Int):=by rw [← hmv]; split <;> lia
  obtain⟨k,hk1,hk2⟩:∃ k:Nat,(xs.length:Int) - mv=(k:Int)∧k≤xs.length:=⟨((xs.length:Int) - mv).toNat,by lia,by lia⟩
  have n2:p≠p2:=fun z=>by rw [← z,hp] at hp2; cases hp2
  have S2:=S.trans (same_new hp2 (.lst [.int 0,.int 0,.int 1,.int 2,.int 3,.int 4,.int 7,.int 0]))
  have K2:Kt H' (upd H' p2 (.lst [.int 0,.int 0,.int 1,.int 2,.int 3,.int 4,.int 7,.int 0])):=Kt.new hp2
  generalize hH2:upd H' p2 (.lst [.int 0,.int 0,.int 1,.int 2,.int 3,.int 4,.int 7,.int 0])=H2 at S2 K2
  have hpx:H2 p=some (.lst xs):=by rw [← hH2,upd_ne n2]; exact hp
  have hx2:SqL K H2 p xs:=SqL.of hpx
  have hk2':=Kids.mono K2 hk
  have c1:cutV xs none (some ((xs.length:Int) - mv))=xs.take k:=by rw [hk1,cut_to]
  have c2:cutV xs (some ((xs.length:Int) - mv)) none=xs.drop k:=by rw [hk1,cut_from]
  refine⟨_,rfl,_,rfl,p,xs,rfl,.inl hx2,_,rfl,_,_,rfl,rfl,_,rfl,p,xs,rfl,hx2,fun p4 hp4=>?_⟩
  have S4:Same H2 (upd H2 p4 (.lst (cutV xs none (some ((xs.length:Int) - mv))))):=same_new hp4 _
  have e4:upd H2 p4 (.lst (cutV xs none (some ((xs.length:Int) - mv)))) p4=some (.lst (xs.take k)):=by rw [upd_same,c1]
  refine⟨_,rfl,_,rfl,p,xs,rfl,.inl (S4.seq hx2),_,rfl,_,_,rfl,rfl,_,rfl,p,xs,rfl,S4.seq hx2,fun p5 hp5=>?_⟩
  have S5:=S4.trans (same_new hp5 (.lst (cutV xs (some ((xs.length:Int) - mv)) none)))
  refine⟨p5,xs.drop k,ts.drop k,rfl,SqL.of (by rw [upd_same,c2]),(Kids.mono (.of S5) hk2').drop k,by (have:=T.partsL_take_drop k ts); lia,fun r H6 S6 kr=>?_⟩
  refine⟨(by show 1≤sizeLine; decide),fun p7 hp7=>?_⟩
  have e4':=S6 _ _ ((same_new hp5 _) _ _ e4)
  have n7:p4≠p7:=ne_of_none e4' hp7
  refine⟨p4,p7,xs.take k,[r],rfl,rfl,by rw [upd_ne n7]; exact e4',upd_same,small (by rw [List.length_take,List.length_singleton]; lia),fun p8 hp8=>?_⟩
  have S8:=S6.trans ((same_new hp7 (.lst [r])).trans (same_new hp8 (.lst (xs.take k++[r]))))
  have S8':=((same_new hp7 (.lst [r])).trans (same_new hp8 (.lst (xs.take k++[r]))))
  have hdl:=T.len_le_parts (ts.take k)
  have hpt:=T.partsL_take_drop k ts
  refine⟨p8,xs.take k++[r],ts.take k++[.node (ts.drop k)],_,_,rfl,S2.trans (S5.trans S8),upd_same,?_,?_,(fun _=>by simp),?_⟩
  ·exact All2.append ((Kids.mono (.of (S5.trans S8)) hk2').take k) (All2.one (kr.mono (.of S8')))
  ·rw [T.partsL_append,T.partsL_cons,T.partsL_nil,T.parts_node]
   lia
  ·rw [grownN,← hgr,getD_of hci]
   unfold gStep
   rw [← etj]
   have ek:((ts.length:Int) - (if m<(ts.length:Int) then m else (ts.length:Int))).toNat=k:=by rw [← hlen,hmv,hk1,Int.toNat_natCast]
   rw [ek]
 ·rintro σ' H' ⟨p,xs,ts,o2,o3,rfl,S,hp,hk,hpl,hne,hgr⟩
  rw [List.length_map] at hpl hne hgr
  exact⟨_,rfl,q p xs ts H' S hp hk hpl hne hgr⟩
end
end Sw25
namespace Sw25
open PySem PySem.Spec PyProof.Rows L2 Sw
section
variable {P:Program}{w:World}{K:PySem.W.Frag}{mg:Str→Option Value}{base:Heap}{f:Addr}{fd:FuncData}
def spOddY (K:PySem.W.Frag):Sp:=fun vs H Q _=>∃ (c:Int) (lt:Addr) (xts:List V) (ts:List T),vs=[.int c,.ref lt]∧SqL K H lt xts∧All2 (fun (t:T) (x:V)=>∃ a v,x=.ref a∧SqT K H a [v,.str (tx t.wr)]∧TR K H t v) ts xts∧ts≠[]∧(∀ t∈ts,B 20 60 t)∧∀ r t H',Same H H'→WRd K H' t r→B 30 200 t→oddT t=true→t=oddF c ts→Q r H'
def spWordY (K:PySem.W.Frag):Sp:=fun vs H Q _=>∃ (c way:Int) (lt lh:Addr) (xts xs:List V) (ts ws:List T),vs=[.int c,.int way,.ref lt,.ref lh]∧SqL K H lt xts∧All2 (fun (t:T) (x:V)=>∃ a v,x=.ref a∧SqT K H a [v,.str (tx t.wr)]∧TR K H t v) ts xts∧ts≠[]∧(∀ t∈ts,B 20 60 t)∧SqL K H lh xs∧All2 (WRd K H) ws xs∧ws.length≤200∧T.partsL ws≤60000 ∧
 ∀ r t H',Same H H'→WRd K H' t r→(t.parts≤200+T.partsL ws∧t.deep≤30+T.deepL ws)→(way≤4→B 30 200 t)→(4<way→t.deep≤3+T.deepL ws)→(way≤4→∃ p,One t p)→(4<way→Br ws t)→t=wordF c way ts ws→Q r H'
def spLeavesP (K:PySem.W.Frag):Sp:=fun vs H Q _=>∃ n:Nat,vs=[.int (n:Int)]∧n≤1000∧∀ r H',Same H H'→KidR K H' (leavesT n) r→Q r H'
theorem ok__law_at (m_len:mg "len"=none) (m_sum:mg "sum"=none)
  (F:Fun K "_law_at" "_law_at" s__law_at f fd):FnOk P w K mg base CX0 31 f fd ["_law_script","_law_k"] (spAtD K):=by
 refine okQ F sc__law_at (fun vs H Q E h=>?_) (fun cdv A outer s H vs Q E hr h=>?_)
 ·obtain⟨l,k,ns,rfl,_⟩:=h
  rfl
 obtain⟨l,k,ns,rfl,hl,h0,q⟩:=h
 refine⟨_,(qss_cons (qs_if (qt_cmpR op_lt (qv 1) (qe_callB call_len_seq rfl m_len bt_len (qa_cons (qv 0) qa_nil)) (nomark _)) (qss_one (qs_ret (qe_ix ix_list (qv 0) (qv 1) (fun _ _=>rfl)))) qss_nil)
   (qss_cons (qs_set (i:=2) sc__law_at.nd rfl (Or.inl rfl) (qe_op op_mod (qe_op op_add (qe_op op_add (qe_callB (call_sum rfl) rfl m_sum bt_sum (qa_cons (qe_slice sl_list (qv 0) qo_none (qo_some qe_int)) qa_nil)) (qe_op op_mul qe_int (qv 1))) qe_int) qe_int))
   (qss_one (qs_ret (qe_op op_mod (qe_op op_mul (qv 2) (qv 2)) qe_int))))),?_⟩
 refine⟨_,rfl,_,rfl,l,_,rfl,.inl hl,_,_,rfl,rfl,_,rfl,?_⟩
 refine ite2 (fun c=>?_) (fun c=>?_)
 ·have c':k<((ns.map V.int).length:Int):=of_decide_eq_true c
  have hi:=at_tab h0 c'
  exact⟨_,rfl,_,rfl,l,_,k,_,rfl,rfl,hl,hi,q _ H (Same.refl H) (by unfold atZ; rw [List.length_map] at c'; rw [if_pos c'])⟩
 ·refine⟨_,rfl,63,rfl,l,_,rfl,hl,fun p hp=>?_⟩
  have ecut:cutV (ns.map V.int) none (some 63)=(ns.take 63).map V.int:=by
   rw [show (some (63:Int))=some ((63:Nat):Int) from rfl,cut_to,List.map_take]
  rw [ecut]
  refine⟨p,ns.take 63,rfl,SqL.of upd_same,?_⟩
  refine⟨_,rfl,_,_,rfl,rfl,.inl ⟨by decide,by decide⟩,?_⟩
  refine⟨_,_,rfl,rfl,_,_,rfl,rfl,_,_,rfl,rfl,(by show (0:Int)<1000003; decide),?_⟩
  generalize hz:((ns.take 63).sum+769 * k+29) % 1000003=z
  have hz0:0≤z:=by rw [← hz]; exact Int.emod_nonneg _ (by decide)
  have hz1:z<1000003:=by rw [← hz]; exact Int.emod_lt_of_pos _ (by decide)
  refine⟨_,rfl,_,rfl,_,_,rfl,rfl,.inl ⟨?_,?_⟩,_,_,rfl,rfl,(by show (0:Int)<999983; decide),?_⟩
  ·have:-(2 ^ 64:Int)=-18446744073709551616:=by decide
   lia
  ·have:(2 ^ 64:Int)=18446744073709551616:=by decide
   lia
  ·exact q _ _ (same_new hp _) (by unfold atZ; rw [if_neg (fun y=>c (decide_eq_true (by rw [List.length_map]; exact y))),hz])
theorem ok__law_pick
  (F:Fun K "_law_pick" "_law_pick" s__law_pick f fd):FnOk P w K mg base CX0 31 f fd ["_law_cell","_law_turn","_law_many"] spPickD:=by
 refine okQ F sc__law_pick (fun vs H Q E h=>?_) (fun cdv A outer s H vs Q E hr h=>?_)
 ·obtain⟨c,t,m,rfl,_⟩:=h
  rfl
 obtain⟨c,t,m,rfl,hm,q⟩:=h
 refine⟨_,(qss_one (qs_ret (qe_op op_mod (qe_op op_mod (qe_op op_add (qe_op op_mul (qe_op op_mod (qv 0) qe_int) (qe_op op_add qe_int (qe_op op_mul qe_int (qv 1)))) (qe_op op_mul qe_int (qv 1))) qe_int) (qv 2)))),?_⟩
 have hc0:0≤c % 1000003:=Int.emod_nonneg _ (by decide)
 have hc1:c % 1000003<1000003:=Int.emod_lt_of_pos _ (by decide)
 have big:(2 ^ 64:Int)=18446744073709551616:=by decide
 refine⟨_,rfl,_,_,rfl,rfl,(by show (0:Int)<1000003; decide),?_⟩
 refine⟨_,rfl,_,_,rfl,rfl,.inl ⟨by decide,by decide⟩,_,_,rfl,rfl,_,_,rfl,rfl,.inl ⟨by lia,by lia⟩,?_⟩
 refine⟨_,rfl,_,_,rfl,rfl,.inl ⟨by decide,by decide⟩,_,_,rfl,rfl,_,_,rfl,rfl,(by show (0:Int)<999983; decide),?_⟩
 exact⟨_,rfl,_,_,rfl,rfl,hm,q _ (Int.emod_nonneg _ (by lia)) (Int.emod_lt_of_pos _ hm) rfl⟩
theorem ok__law_is_tree (m_len:mg "len"=none) (m_isinstance:mg "isinstance"=none) (m_tuple:mg "tuple"=none)
  (F:Fun K "_law_is_tree" "_law_is_tree" s__law_is_tree f fd):FnOk P w K mg base CX0 31 f fd ["_law_found"] (spIsTree K):=by
 refine okQ F sc__law_is_tree (fun vs H Q E h=>?_) (fun cdv A outer s H vs Q E hr h=>?_)
 ·obtain⟨x,t,rfl,_⟩:=h
  rfl
 obtain⟨x,t,rfl,ht,hz,q⟩:=h
 refine⟨_,(qss_cons (qs_set (i:=1) sc__law_is_tree.nd rfl (Or.inl rfl) (qe_lst (qa_cons (qv 0) qa_nil)))
   (qss_cons (qs_while PassesOwn.never (qt_cmpR op_gt (qe_callB call_len_seq rfl m_len bt_len (qa_cons (qv 1) qa_nil)) qe_int (nomark _)) (qss_cons (qs_set (i:=2) sc__law_is_tree.nd rfl (Or.inl rfl) (qe_bm0 PySem.F.plainAttrs_list PySem.F.slot_list_pop PySem.F.type_list_pop mt_pop (qv 1)))
   (qss_cons (qs_if (qt_not (qt_val (qe_callB call_isinstT rfl m_isinstance bt_isinstance (qa_cons (qv 2) (qa_cons (qe_bltn (v:=.ty "tuple") rfl m_tuple bt_tuple rfl) qa_nil))))) (qss_one (qs_ret qe_bl)) qss_nil)
   (qss_one (qs_expr (qe_bm PySem.F.plainAttrs_list PySem.F.slot_list_extend PySem.F.type_list_extend mt_extT (qv 1) (qa_cons (qv 2) qa_nil)))))))
   (qss_one (qs_ret qe_bl)))),?_⟩
 refine⟨_,rfl,(by show 1≤sizeLine; decide),fun p hp=>?_⟩
 refine⟨WIsTree K H x t.parts p,⟨_,[x],[t],none,rfl,same_new hp _,upd_same,TRs_cons.mpr ⟨x,[],rfl,ht.mono (Kt.new hp),TRs_nil.mpr rfl⟩,by rw [T.partsL_cons,T.partsL_nil]; lia,rfl⟩,?_⟩
 rintro m σ H' ⟨ys,ts,o,rfl,S,hl,htr,hc,rfl⟩
 refine⟨_,rfl,p,ys,rfl,.inl (SqL.of hl),_,_,rfl,rfl,_,rfl,?_⟩
 refine ite2 (fun hb=>?_) (fun hb=>?_)
 ·have hne:ys≠[]:=by rintro rfl; exact absurd hb (by decide)
  obtain⟨y,hy⟩:=last_of hne
  obtain⟨u,hu,hyu⟩:=htr.get hy
  rw [htr.length] at hu
  obtain⟨a,zs,rfl,h1,h2⟩:=TR_of hyu
  have hpl:=T.partsL_dropLast hu
  refine⟨fun σ' H'=>∃ m',m'<T.partsL ts∧WIsTree K H x t.parts p m' σ' H',fun _ _ h=>h,?_⟩
  refine⟨_,rfl,.inl ⟨rfl,_,SqL.of hl⟩,p,ys,_,rfl,rfl,hl,hy,?_⟩
  have h1':=sqT_mono (Kt.lst (o:=.lst ys.dropLast) hl) h1
  refine⟨_,rfl,a,zs,"tuple",true,rfl,h1',by rfl,_,rfl,iteF ?_⟩
  have hk:=T.parts_kids u
  have hlen1:=T.len_le_parts ts.dropLast
  have hlen2:=T.len_le_parts u.kids
  have e1:=htr.dropLast.length
  have e2:=h2.length
  refine⟨_,rfl,.inl ⟨rfl,_,SqL.of upd_same⟩,_,rfl,p,a,ys.dropLast,zs,rfl,rfl,upd_same,h1',small (by lia),?_⟩
  refine⟨_,?_,ys.dropLast++zs,ts.dropLast++u.kids,_,rfl,?_,upd_same,?_,?_,rfl⟩
  ·rw [T.partsL_append]
   lia
  ·rw [upd_upd]
   exact same_upd S hp
  ·rw [upd_upd]
   exact (htr.dropLast.append h2).mono (Kt.lst hl)
  ·rw [T.partsL_append]
   lia
 ·exact q _ S
theorem ok__law_leaves (m_tuple:mg "tuple"=none) (m_range:mg "range"=none)
  (F:Fun K "_law_leaves" "_law_leaves" s__law_leaves f fd):FnOk P w K mg base CX0 31 f fd ["_law_many"] (spLeavesP K):=by
 refine okQ F sc__law_leaves (fun vs H Q E h=>?_) (fun cdv A outer s H vs Q E hr h=>?_)
 ·obtain⟨n,rfl,_⟩:=h
  rfl
 obtain⟨n,rfl,hn,q⟩:=h
 refine⟨_,(qss_one (qs_ret (qe_tup (qa_cons (qe_callTy call_tuple_of rfl m_tuple bt_tuple (qa_cons (qe_lc rfl (lc_free (fr:=[]) (js:=[]) (sc:=defScope s__law_leaves) rfl rfl rfl (by decide +kernel) (by decide +kernel) (by decide +kernel) (by decide +kernel) (by exact trivial) (by decide +kernel) (fun y hy=>cell_has hy)) (qi_range1 rfl m_range (qa_cons (qv 0) qa_nil)) (fun _ _ _ _ _=>(qe_tup qa_nil))) qa_nil)) (qa_cons (qe_op op_add_str (qe_op op_add_str qe_str (qe_op op_repSS qe_str (qv 0))) qe_str) qa_nil))))),?_⟩
 refine⟨_,rfl,(n:Int),rfl,by lia,by lia,?_⟩
 refine lc_grow (K:=K) (fun t=>t=.node []) (small (by lia)) (fun i H' R hi S hR=>⟨Nat.zero_le _,fun p1 g1=>hR _ _ _ (same_new g1 _) (leaf_tr upd_same) rfl⟩) (fun D ys ts H' S h1 hl htr hsh=>⟨D,ys,rfl,.inl ⟨SqL.of h1,fun l2 gl2=>?_⟩⟩)
 have S2:=same_new gl2 (.tup ys)
 have t2:TR K _ (.node ts) (.ref l2):=TR_mk (SqT.of upd_same) (htr.mono (.new gl2))
 have hl:ts.length=n:=by rw [hl]; lia
 have et:ts=List.replicate n (.node []):=List.eq_replicate_iff.mpr ⟨hl,hsh⟩
 subst et
 refine⟨_,rfl,[40,41],n,(by rw [tx_leaf]),rfl,by decide,by lia,_,_,rfl,rfl,?_,_,_,rfl,rfl,?_,(by show 2≤sizeLine; decide),fun p3 g3=>q _ _ ((S.trans S2).trans (same_new g3 _)) ⟨p3,.ref l2,rfl,SqT.of ?_,t2.mono (.new g3)⟩⟩
 ·rw [tx_lp,tx_len,tx_len]
  exact small (by simp; lia)
 ·rw [tx_lp,tx_append,tx_rp,tx_len,tx_len]
  exact small (by simp; lia)
 ·rw [upd_same,tx_lp,tx_append,tx_rp,tx_append,wr_leaves]
  rfl
end
end Sw25
namespace Sw25
open PySem PySem.Spec PyProof.Rows L2 Sw
section
variable {P:Program}{w:World}{K:PySem.W.Frag}{mg:Str→Option Value}{base:Heap}{f:Addr}{fd:FuncData}
theorem ok__law_text (m_tuple:mg "tuple"=none)
  (F:Fun K "_law_text" "_law_text" s__law_text f fd):FnOk P w K mg base CX0 31 f fd ["_law_words_here"] (spTextX K):=by
 refine okQ F sc__law_text (fun vs H Q E h=>?_) (fun cdv A outer s H vs Q E hr h=>?_)
 ·obtain⟨l,xs,ws,rfl,_⟩:=h
  rfl
 obtain⟨l,xs,ws,rfl,hl,hw,hp,q⟩:=h
 refine⟨_,(qss_one (qs_ret (qe_tup (qa_cons (qe_callTy call_tuple_of rfl m_tuple bt_tuple (qa_cons (qe_lc rfl (lc_free (fr:=[]) (js:=[]) (sc:=defScope s__law_text) rfl rfl rfl (by decide +kernel) (by decide +kernel) (by decide +kernel) (by decide +kernel) (by exact trivial) (by decide +kernel) (fun y hy=>cell_has hy)) (qi_list (qv 0)) (fun _ _ _ _ _=>(qe_ix (ix_tupK (K:=K) rfl) (qv 0) qe_int (fun _ _=>rfl)))) qa_nil)) (qa_cons (qe_bm PySem.F.plainAttrs_str PySem.F.slot_str_join PySem.F.type_str_join mt_joinS qe_str (qa_cons (qe_lc rfl (lc_free (fr:=[]) (js:=[]) (sc:=defScope s__law_text) rfl rfl rfl (by decide +kernel) (by decide +kernel) (by decide +kernel) (by decide +kernel) (by exact trivial) (by decide +kernel) (fun y hy=>cell_has hy)) (qi_list (qv 0)) (fun _ _ _ _ _=>(qe_ix (ix_tupK (K:=K) rfl) (qv 0) qe_int (fun _ _=>rfl)))) qa_nil)) qa_nil))))),?_⟩
 have hal:=hw.length
 have hlen:ws.length≤80000:=by have:=T.len_le_parts ws; lia
 have hzl:xs.length≤sizeLine:=small (by lia)
 refine⟨_,rfl,l,rfl,⟨_,hl⟩,lc_list (fun i y=>∃ w,ws[i]?=some w∧TR K H w y) hl hzl (fun i x H' R hx S hR=>?_) (fun D ys hD ly py=>?_)⟩
 ·obtain⟨w',ew,a,x0,ps,rfl,h1,h2,h3⟩:=hw.get hx
  exact⟨_,rfl,a,_,0,x0,rfl,rfl,sqT_mono (.of S) h1,atI_nat (j:=0) rfl,hR _ ⟨w',ew,h2⟩⟩
 have S1:=same_new hD (.lst ys)
 have hty:TRs K H ws ys:=trs_of (All2.of_get (by lia) fun i y e=>by obtain⟨w',e1,e2⟩:=py i y e; exact⟨w',e1,e2⟩)
 refine⟨D,ys,rfl,.inl ⟨SqL.of upd_same,fun l2 gl2=>?_⟩⟩
 have S2:=S1.trans (same_new gl2 (.tup ys))
 have t2:TR K _ (.node ws) (.ref l2):=TR_mk (SqT.of upd_same) (hty.mono (.of S2))
 refine⟨rfl,_,rfl,l,rfl,⟨_,S2.seq hl⟩,lc_list (fun i y=>∃ w ps,ws[i]?=some w∧y=.str (tx (joinL [32] ps))∧Wr w ps) (S2.seq hl) hzl (fun i x H' R hx S hR=>?_) (fun D3 zs hD3 lz pz=>?_)⟩
 ·obtain⟨w',ew,a,x0,ps,rfl,h1,h2,h3⟩:=hw.get hx
  exact⟨_,rfl,a,_,1,_,rfl,rfl,sqT_mono (.of (S2.trans S)) h1,atI_nat (j:=1) rfl,hR _ ⟨w',ps,ew,rfl,h3⟩⟩
 obtain⟨pss,rfl,hne,hts⟩:=pieces_all (ws:=ws) (zs:=zs) (All2.of_get (by lia) fun i y e=>by obtain⟨w',ps,e1,e2,e3⟩:=pz i y e; exact⟨w',e1,ps,e2,e3⟩)
 have hsz:=ts_sz hts
 have hjz:=join_sz pss hne
 refine⟨D3,[32],pss.map (joinL [32]),(by rw [tx_blank]),rfl,SqL.of upd_same,?_,(by show 2≤sizeLine; decide),fun p4 g4=>?_⟩
 ·rw [List.length_map]
  show _+_ * 1≤_
  lia
 have S3:=same_new hD3 (.lst ((pss.map (joinL [32])).map fun c=>V.str (tx c)))
 exact q _ _ (S2.trans (S3.trans (same_new g4 _))) ⟨p4,.ref l2,pss.flatten,rfl,SqT.of (upd_same.trans (by rw [join_join hne])),(t2.mono (.of S3)).mono (.new g4),hts⟩
theorem ok__law_plain
  {a__law_pick:Addr}{d__law_pick:FuncData} (F__law_pick:Fun K "_law_pick" "_law_pick" s__law_pick a__law_pick d__law_pick) (G__law_pick:FnOk P w K mg base CX0 31 a__law_pick d__law_pick ["_law_cell","_law_turn","_law_many"] spPickD) (b__law_pick:Binds K d__law_pick ["_law_cell","_law_turn","_law_many"] []) (m__law_pick:mg "_law_pick"=some (.ref a__law_pick))
  {a__law_leaves:Addr}{d__law_leaves:FuncData} (F__law_leaves:Fun K "_law_leaves" "_law_leaves" s__law_leaves a__law_leaves d__law_leaves) (G__law_leaves:FnOk P w K mg base CX0 31 a__law_leaves d__law_leaves ["_law_many"] (spLeavesP K)) (b__law_leaves:Binds K d__law_leaves ["_law_many"] []) (m__law_leaves:mg "_law_leaves"=some (.ref a__law_leaves))
  (F:Fun K "_law_plain" "_law_plain" s__law_plain f fd):FnOk P w K mg base CX0 32 f fd ["_law_cell"] (spPlainZ K):=by
 refine okQ F sc__law_plain (fun vs H Q E h=>?_) (fun cdv A outer s H vs Q E hr h=>?_)
 ·obtain⟨c,rfl,_⟩:=h
  rfl
 obtain⟨c,rfl,q⟩:=h
 refine⟨_,(qss_cons (qs_set (i:=1) sc__law_plain.nd rfl (Or.inl rfl) (qe_op op_add qe_int (qe_call G__law_pick hr rfl m__law_pick F__law_pick.kp b__law_pick .nil pass0 (qa_cons (qv 0) (qa_cons qe_int (qa_cons qe_int qa_nil))))))
   (qss_one (qs_ret (qe_tup (qa_cons (qe_tup (qa_cons (qe_ix ix_tup (qe_call G__law_leaves hr rfl m__law_leaves F__law_leaves.kp b__law_leaves .nil pass0 (qa_cons (qv 1) qa_nil)) qe_int (fun _ _=>rfl)) qa_nil)) (qa_cons (qe_ix ix_list (qe_lst (qa_cons qe_str (qa_cons qe_str (qa_cons qe_str (qa_cons qe_str (qa_cons qe_str (qa_cons qe_str qa_nil))))))) (qe_op op_sub (qv 1) qe_int) (fun _ _=>rfl)) qa_nil)))))),?_⟩
 refine setQ (fun v=>[some (.int c),some v]) (fun _=>rfl) (fun v H'=>∃ k:Nat,v=.int (k:Int)∧1≤k∧k≤6∧H'=H∧k=(1+pickZ c 21 6).toNat) (fun R r=>⟨_,rfl,c,21,6,rfl,by decide,fun i h0 h1 ei=>⟨_,_,rfl,rfl,r _ _ ⟨(1+i).toNat,by rw [Int.toNat_of_nonneg (by lia)],by lia,by lia,rfl,by rw [ei]⟩⟩⟩) (fun v1 H1 h1=>?_)
 obtain⟨k,rfl,k1,k6,rfl,ek⟩:=h1
 refine⟨_,rfl,k,rfl,by lia,fun r2 H2 S2 h2=>?_⟩
 obtain⟨a,v,rfl,q2,t2⟩:=h2
 refine⟨a,_,0,v,rfl,rfl,q2,atI_nat (j:=0) rfl,(by show 1≤sizeLine; decide),fun p3 g3=>⟨(by show 6≤sizeLine; decide),fun p4 g4=>?_⟩⟩
 obtain⟨S3,t3⟩:=tupN (K:=K) g3 (trs1 t2)
 refine⟨_,rfl,_,_,rfl,rfl,p4,_,_,_,rfl,rfl,SqL.of upd_same,(by rw [six_tx]; exact six_at k1 k6),(by show 2≤sizeLine; decide),fun p5 g5=>?_⟩
 have S4:=same_new g4 (.lst [V.str (PySem.Str.ofString "drop"),.str (PySem.Str.ofString "twin"),.str (PySem.Str.ofString "swap"),.str (PySem.Str.ofString "front"),.str (PySem.Str.ofString "part"),.str (PySem.Str.ofString "turn")])
 have S5:=same_new g5 (.tup [.ref p3,.str (tx (nmC k))])
 refine q _ (wordT k []) _ (S2.trans (S3.trans (S4.trans S5))) ⟨p5,.ref p3,[nmC k],rfl,SqT.of upd_same,(t3.mono (.of (S4.trans S5))),wr_plain k1 k6⟩ ((B_tup1 (B_leaves k)).le (by lia) (by lia)) (by rw [ek]; rfl)
end
end Sw25
namespace Sw25
open PySem PySem.Spec PyProof.Rows L2 Sw
section
variable {P:Program}{w:World}{K:PySem.W.Frag}{mg:Str→Option Value}{base:Heap}{f:Addr}{fd:FuncData}
theorem ok__law_between
  (F:Fun K "_law_between" "_law_between" s__law_between f fd):FnOk P w K mg base CX0 31 f fd ["_law_some"] (spBetween K):=by
 refine okQ F sc__law_between (fun vs H Q E h=>?_) (fun cdv A outer s H vs Q E hr h=>?_)
 ·obtain⟨l,cs,rfl,_⟩:=h
  rfl
 obtain⟨l,cs,rfl,hl,hn,hf,q⟩:=h
 refine⟨_,(qss_one (qs_ret (qe_bm PySem.F.plainAttrs_str PySem.F.slot_str_join PySem.F.type_str_join mt_joinS qe_str (qa_cons (qe_lcIf rfl (lc_free (fr:=[]) (js:=[]) (sc:=defScope s__law_between) rfl rfl rfl (by decide +kernel) (by decide +kernel) (by decide +kernel) (by decide +kernel) (by exact trivial) (by decide +kernel) (fun y hy=>cell_has hy)) (qi_list (qv 0)) (fun _ _ _ _ _=>(qv 0)) (fun _ _ _ _ _=>(qt_cmpR op_ne (qv 0) qe_str (nomark _)))) qa_nil)))),?_⟩
 have hz:(cs.map fun c=>V.str (tx c)).length≤sizeLine:=small (by rw [List.length_map]; lia)
 refine⟨rfl,_,rfl,l,rfl,⟨_,SqL.of hl⟩,lc_filter (fun v=>decide (v≠.str (tx []))) hl hz (fun x H' R hx r=>?_) (fun x H' R r=>⟨_,rfl,r⟩) (fun D hD=>?_)⟩
 ·obtain⟨c,_,rfl⟩:=List.mem_map.mp hx
  refine⟨_,rfl,rfl,_,rfl,?_⟩
  rw [tx_nil]
  have e:(!decide (V.str (tx c)=V.str (tx [])))=decide (V.str (tx c)≠V.str (tx [])):=by
   by_cases z:V.str (tx c)=V.str (tx [])
   ·rw [decide_eq_true z,decide_eq_false (fun y=>y z)]; rfl
   ·rw [decide_eq_false z,decide_eq_true z]; rfl
  rw [e]
  exact r
 have ef:(cs.map fun c=>V.str (tx c)).filter (fun v=>decide (v≠.str (tx [])))=(cs.filter fun c=>decide (c≠[])).map fun c=>V.str (tx c):=by
  rw [List.filter_map]
  congr 1
  refine List.filter_congr fun c _=>?_
  show decide (V.str (tx c)≠V.str (tx []))=decide (c≠[])
  by_cases z:c=[]
  ·rw [z,decide_eq_false (fun y=>y rfl),decide_eq_false (fun y=>y rfl)]
  ·rw [decide_eq_true z]
   exact decide_eq_true (p:=V.str (tx c)≠V.str (tx [])) (fun y=>z (tx_inj.mp (V.str.inj y)))
 refine⟨D,[32],cs.filter fun c=>decide (c≠[]),(by rw [tx_blank]),rfl,SqL.of (by rw [upd_same,ef]),?_,q _ (same_new hD _)⟩
 have h1:=List.length_filter_le (fun c=>decide (c≠[])) cs
 have h2:∀ ds:List (List Nat),(ds.filter fun c=>decide (c≠[])).flatten.length≤ds.flatten.length:=by
  intro ds
  induction ds with
  | nil=>exact Nat.le_refl _
  | cons d ds ih =>
   rw [List.filter_cons]
   split
   ·rw [List.flatten_cons,List.flatten_cons,List.length_append,List.length_append]; lia
   ·rw [List.flatten_cons,List.length_append]; lia
 have:=h2 cs
 show _+_ * 1≤_
 lia
end
end Sw25
namespace Sw25
open PySem PySem.Spec PyProof.Rows L2 Sw
section
variable {P:Program}{w:World}{K:PySem.W.Frag}{mg:Str→Option Value}{base:Heap}{f:Addr}{fd:FuncData}
theorem ok__law_word (m_len:mg "len"=none)
  {a__law_plain:Addr}{d__law_plain:FuncData} (F__law_plain:Fun K "_law_plain" "_law_plain" s__law_plain a__law_plain d__law_plain) (G__law_plain:FnOk P w K mg base CX0 33 a__law_plain d__law_plain ["_law_cell"] (spPlainZ K)) (b__law_plain:Binds K d__law_plain ["_law_cell"] []) (m__law_plain:mg "_law_plain"=some (.ref a__law_plain))
  {a__law_pick:Addr}{d__law_pick:FuncData} (F__law_pick:Fun K "_law_pick" "_law_pick" s__law_pick a__law_pick d__law_pick) (G__law_pick:FnOk P w K mg base CX0 33 a__law_pick d__law_pick ["_law_cell","_law_turn","_law_many"] spPickD) (b__law_pick:Binds K d__law_pick ["_law_cell","_law_turn","_law_many"] []) (m__law_pick:mg "_law_pick"=some (.ref a__law_pick))
  {a__law_odd:Addr}{d__law_odd:FuncData} (F__law_odd:Fun K "_law_odd" "_law_odd" s__law_odd a__law_odd d__law_odd) (G__law_odd:FnOk P w K mg base CX0 33 a__law_odd d__law_odd ["_law_cell","_law_trees"] (spOddY K)) (b__law_odd:Binds K d__law_odd ["_law_cell","_law_trees"] []) (m__law_odd:mg "_law_odd"=some (.ref a__law_odd))
  {a__law_text:Addr}{d__law_text:FuncData} (F__law_text:Fun K "_law_text" "_law_text" s__law_text a__law_text d__law_text) (G__law_text:FnOk P w K mg base CX0 33 a__law_text d__law_text ["_law_words_here"] (spTextX K)) (b__law_text:Binds K d__law_text ["_law_words_here"] []) (m__law_text:mg "_law_text"=some (.ref a__law_text))
  {a__law_between:Addr}{d__law_between:FuncData} (F__law_between:Fun K "_law_between" "_law_between" s__law_between a__law_between d__law_between) (G__law_between:FnOk P w K mg base CX0 33 a__law_between d__law_between ["_law_some"] (spBetween K)) (b__law_between:Binds K d__law_between ["_law_some"] []) (m__law_between:mg "_law_between"=some (.ref a__law_between))
  {a__law_leaves:Addr}{d__law_leaves:FuncData} (F__law_leaves:Fun K "_law_leaves" "_law_leaves" s__law_leaves a__law_leaves d__law_leaves) (G__law_leaves:FnOk P w K mg base CX0 33 a__law_leaves d__law_leaves ["_law_many"] (spLeavesP K)) (b__law_leaves:Binds K d__law_leaves ["_law_many"] []) (m__law_leaves:mg "_law_leaves"=some (.ref a__law_leaves))
  (F:Fun K "_law_word" "_law_word" s__law_word f fd):FnOk P w K mg base CX0 34 f fd ["_law_cell","_law_way","_law_trees","_law_held"] (spWordY K):=by
 refine okQ F sc__law_word (fun vs H Q E h=>?_) (fun cdv A outer s H vs Q E hr h=>?_)
 ·obtain⟨c,way,lt,lh,xts,xs,ts,ws,rfl,_⟩:=h
  rfl
 obtain⟨c,way,lt,lh,xts,xs,ts,ws,rfl,hlt,htk,hne,hbt,hlh,hw,hwn,hwp,q⟩:=h
 refine⟨_,(qss_cons (qs_if (qt_cmpR op_lt (qv 1) qe_int (nomark _)) (qss_one (qs_ret (qe_call G__law_plain hr rfl m__law_plain F__law_plain.kp b__law_plain .nil pass0 (qa_cons (qv 0) qa_nil)))) qss_nil)
   (qss_cons (qs_if (qt_cmpR op_lt (qv 1) qe_int (nomark _)) (qss_cons (qs_set (i:=4) sc__law_word.nd rfl (Or.inl rfl) (qe_ix ix_list (qv 2) (qe_call G__law_pick hr rfl m__law_pick F__law_pick.kp b__law_pick .nil pass0 (qa_cons (qv 0) (qa_cons qe_int (qa_cons (qe_callB call_len_seq rfl m_len bt_len (qa_cons (qv 2) qa_nil)) qa_nil)))) (fun _ _=>rfl)))
   (qss_one (qs_ret (qe_tup (qa_cons (qe_op op_catTA (qe_tup (qa_cons (qe_tup qa_nil) qa_nil)) (qe_ix ix_tup (qv 4) qe_int (fun _ _=>rfl))) (qa_cons (qe_op op_add_str qe_str (qe_ix ix_tup (qv 4) qe_int (fun _ _=>rfl))) qa_nil)))))) qss_nil)
   (qss_cons (qs_if (qt_cmpR op_eq (qv 1) qe_int (nomark _)) (qss_one (qs_ret (qe_call G__law_odd hr rfl m__law_odd F__law_odd.kp b__law_odd .nil pass0 (qa_cons (qv 0) (qa_cons (qv 2) qa_nil))))) qss_nil)
   (qss_cons (qs_set (i:=5) sc__law_word.nd rfl (Or.inl rfl) (qe_call G__law_pick hr rfl m__law_pick F__law_pick.kp b__law_pick .nil pass0 (qa_cons (qv 0) (qa_cons qe_int (qa_cons (qe_op op_add (qe_callB call_len_seq rfl m_len bt_len (qa_cons (qv 3) qa_nil)) qe_int) qa_nil)))))
   (qss_cons (qs_if (qt_cmpR op_eq (qv 1) qe_int (nomark _)) (qss_cons (qs_set (i:=6) sc__law_word.nd rfl (Or.inl rfl) (qe_call G__law_text hr rfl m__law_text F__law_text.kp b__law_text .nil pass0 (qa_cons (qv 3) qa_nil)))
   (qss_one (qs_ret (qe_tup (qa_cons (qe_op op_catTA (qe_tup (qa_cons (qe_ix ix_tup (qe_call G__law_leaves hr rfl m__law_leaves F__law_leaves.kp b__law_leaves .nil pass0 (qa_cons qe_int qa_nil)) qe_int (fun _ _=>rfl)) qa_nil)) (qe_ix ix_tup (qv 6) qe_int (fun _ _=>rfl))) (qa_cons (qe_call G__law_between hr rfl m__law_between F__law_between.kp b__law_between .nil pass0 (qa_cons (qe_lst (qa_cons qe_str (qa_cons (qe_ix ix_tup (qv 6) qe_int (fun _ _=>rfl)) (qa_cons qe_str qa_nil)))) qa_nil)) qa_nil)))))) qss_nil)
   (qss_cons (qs_set (i:=7) sc__law_word.nd rfl (Or.inl rfl) (qe_call G__law_text hr rfl m__law_text F__law_text.kp b__law_text .nil pass0 (qa_cons (qe_slice sl_list (qv 3) qo_none (qo_some (qv 5))) qa_nil)))
   (qss_cons (qs_set (i:=8) sc__law_word.nd rfl (Or.inl rfl) (qe_call G__law_text hr rfl m__law_text F__law_text.kp b__law_text .nil pass0 (qa_cons (qe_slice sl_list (qv 3) (qo_some (qv 5)) qo_none) qa_nil)))
   (qss_one (qs_ret (qe_tup (qa_cons (qe_op op_catTA (qe_tup (qa_cons (qe_ix ix_tup (qe_call G__law_leaves hr rfl m__law_leaves F__law_leaves.kp b__law_leaves .nil pass0 (qa_cons qe_int qa_nil)) qe_int (fun _ _=>rfl)) (qa_cons (qe_ix ix_tup (qv 7) qe_int (fun _ _=>rfl)) qa_nil))) (qe_ix ix_tup (qv 8) qe_int (fun _ _=>rfl))) (qa_cons (qe_call G__law_between hr rfl m__law_between F__law_between.kp b__law_between .nil pass0 (qa_cons (qe_lst (qa_cons qe_str (qa_cons (qe_ix ix_tup (qv 7) qe_int (fun _ _=>rfl)) (qa_cons qe_str (qa_cons (qe_ix ix_tup (qv 8) qe_int (fun _ _=>rfl)) (qa_cons qe_str qa_nil)))))) qa_nil)) qa_nil)))))))))))),?_⟩
 have hxl:=htk.length
 have hpos:(0:Int)<(xts.length:Int):=by
  have:0<ts.length:=List.length_pos_iff.mpr hne
  lia
 have hwl:=hw.length
 refine⟨_,rfl,_,_,rfl,rfl,_,rfl,ite2 (fun h=>?_) (fun h=>?_)⟩
 ·have h2:=of_decide_eq_true h
  exact⟨_,rfl,c,rfl,fun r t H' S hr hb et=>q r t H' S hr ⟨by have:=hb.2; lia,by have:=hb.1; lia⟩ (fun _=>hb.le (by lia) (by lia)) (fun h4=>by lia) (fun _=>by obtain⟨_,_,_,_,_,_,hw⟩:=hr; exact small_one hw (by have:=hb.2; lia)) (fun h4=>by lia) (by rw [et]; unfold wordF; rw [if_pos h2])⟩
 refine⟨_,rfl,_,_,rfl,rfl,_,rfl,ite2 (fun h4=>?_) (fun h4=>?_)⟩
 ·have h4:=of_decide_eq_true h4
  refine setQ (fun v=>[some (.int c),some (.int way),some (.ref lt),some (.ref lh),some v,none,none,none,none]) (fun _=>rfl) (fun v H'=>H'=H∧∃ t a x,v=.ref a∧t∈ts∧SqT K H a [x,.str (tx t.wr)]∧TR K H t x∧t=nthT ts (pickZ c 28 (ts.length:Int))) (fun R r=>⟨_,rfl,_,rfl,_,rfl,lt,xts,rfl,.inl hlt,c,28,_,rfl,hpos,fun i i0 i1 ei=>?_⟩) (fun v1 H1 h1=>?_)
  ·obtain⟨x,t,ex,⟨a,v,rfl,e1,e2⟩,hm,et⟩:=all_pickD htk i0 i1
   exact⟨lt,_,_,_,rfl,rfl,hlt,ex,r _ _ ⟨rfl,t,a,v,rfl,hm,e1,e2,by rw [et,ei,hxl]⟩⟩
  obtain⟨rfl,t,a,x,rfl,hm,qa,ta,et⟩:=h1
  have bt:=hbt t hm
  have bk:=(B_kids bt).len
  refine⟨Nat.zero_le _,fun p2 g2=>⟨(by show 1≤sizeLine; decide),fun p3 g3=>?_⟩⟩
  obtain⟨S2,t2⟩:=tupN (K:=K) (ts:=[]) g2 (TRs_nil.mpr rfl)
  obtain⟨S3,t3⟩:=tupN (K:=K) g3 (trs1 t2)
  have S23:=S2.trans S3
  refine⟨_,rfl,a,_,0,x,rfl,rfl,sqT_mono (.of S23) qa,atI_nat (j:=0) rfl,nCat t3 (TR_kids (ta.mono (.of S23))) (small (by show 1+_≤_; lia)) (fun z H4 S4 t4=>⟨_,rfl,a,_,1,_,rfl,rfl,sqT_mono (.of (S23.trans S4)) qa,atI_nat (j:=1) rfl,_,_,rfl,rfl,?_,(by show 2≤sizeLine; decide),fun p5 g5=>?_⟩)⟩
  ·rw [tx_tick,tx_len,tx_len,T.wr_len]
   exact small (by have:=bt.2; show 1+_≤_; lia)
  ·have b1:B 30 200 (wordT 0 t.kids):=(B_cons B_nil (B_kids bt)).le (by lia) (by lia)
   refine q _ (wordT 0 t.kids) _ (S23.trans (S4.trans (same_new g5 _))) ⟨p5,z,[39::t.wr],rfl,SqT.of (upd_same.trans ?_),t4.mono (.new g5),wr_lay t⟩ ⟨by have:=b1.2; lia,by have:=b1.1; lia⟩ (fun _=>b1) (fun h5=>by lia) (fun _=>⟨_,lay_one t⟩) (fun h5=>by lia) (by unfold wordF; rw [if_neg (fun z=>h (decide_eq_true z)),if_pos h4,← et])
   rw [tx_tick,tx_append]
   rfl
 refine⟨_,rfl,rfl,_,rfl,ite2 (fun h5=>?_) (fun h5=>?_)⟩
 ·have h5:=V.int.inj (of_decide_eq_true h5)
  exact⟨_,rfl,_,rfl,c,lt,xts,ts,rfl,hlt,htk,hne,hbt,fun r t H' S hr hb ho et=>q r t H' S hr ⟨by have:=hb.2; lia,by have:=hb.1; lia⟩ (fun _=>hb) (fun h6=>by lia) (fun _=>⟨_,.odd ho⟩) (fun h6=>by lia) (by rw [et]; unfold wordF; rw [if_neg (fun z=>h (decide_eq_true z)),if_neg (fun z=>h4 (decide_eq_true z)),if_pos h5])⟩
 have w5:¬ way≤4:=fun z=>by
  have h1:¬ way<4:=fun y=>h4 (decide_eq_true y)
  have:way=4:=by lia
  exact h5 (by rw [this]; exact decide_eq_true rfl)
 have pok:∀ {vs:List T}{ps:List (List Nat)},Ts vs ps→∀ p∈ps,p≠[]:=fun hts p hp=>(ts_ok hts p hp).1
 dsimp only [tNext]
 refine setQ (fun v=>[some (.int c),some (.int way),some (.ref lt),some (.ref lh),none,some v,none,none,none]) (fun _=>rfl) (fun v H'=>H'=H∧∃ k:Nat,v=.int (k:Int)∧k≤ws.length∧k=(pickZ c 29 ((ws.length:Int)+1)).toNat) (fun R r=>⟨_,rfl,_,rfl,lh,xs,rfl,.inl hlh,_,_,rfl,rfl,c,29,_,rfl,by lia,fun i i0 i1 ei=>r _ _ ⟨rfl,i.toNat,by rw [Int.toNat_of_nonneg i0],by lia,by rw [ei,hwl]⟩⟩) (fun v1 H1 h1=>?_)
 obtain⟨rfl,k,rfl,hk,ek⟩:=h1
 refine⟨_,rfl,rfl,_,rfl,ite2 (fun h6=>?_) (fun h6=>?_)⟩
 ·refine setQ (fun v=>[some (.int c),some (.int way),some (.ref lt),some (.ref lh),none,some (.int (k:Int)),some v,none,none]) (fun _=>rfl) (fun v H'=>Same H1 H'∧TXd K H' ws v) (fun R r=>⟨_,rfl,lh,xs,ws,rfl,hlh,hw,by lia,fun r2 H2 S2 h2=>r _ _ ⟨S2,h2⟩⟩) (fun v2 H2 h2=>?_)
  obtain⟨S2,a,x,ps,rfl,qa,ta,hts⟩:=h2
  refine⟨8,rfl,by lia,fun r3 H3 S3 h3=>?_⟩
  obtain⟨a3,v3,rfl,q3,t3⟩:=h3
  refine⟨a3,_,0,v3,rfl,rfl,q3,atI_nat (j:=0) rfl,(by show 1≤sizeLine; decide),fun p4 g4=>?_⟩
  obtain⟨S4,t4⟩:=tupN (K:=K) g4 (trs1 t3)
  have S34:=S3.trans S4
  have hwlen:=T.len_le_parts ws
  refine⟨_,rfl,a,_,0,x,rfl,rfl,sqT_mono (.of S34) qa,atI_nat (j:=0) rfl,nCat t4 (ta.mono (.of S34)) (small (by show 1+_≤_; lia)) (fun z5 H5 S5 t5=>?_)⟩
  have S35:=S34.trans S5
  refine⟨_,rfl,a,_,1,_,rfl,rfl,sqT_mono (.of S35) qa,atI_nat (j:=1) rfl,(by show 3≤sizeLine; decide),fun p6 g6=>?_⟩
  have hsz:=ts_sz hts
  have hjl:=joinL_len [32] ps
  simp only [List.length_singleton,Nat.mul_one] at hjl
  unfold szP at hsz
  refine⟨p6,[joinL [32] [nmC 8,[91]],joinL [32] ps,joinL [32] [[93]]],rfl,?_,by show 3≤1000; lia,?_,fun H7 S7=>⟨(by show 2≤sizeLine; decide),fun p8 g8=>?_⟩⟩
  ·rw [upd_same,tx_whileB,tx_rb]
   rfl
  ·have:(joinL [32] [nmC 8,[91]]).length=7:=rfl
   have:(joinL [32] [[93]]).length=1:=rfl
   simp only [List.flatten_cons,List.flatten_nil,List.length_append,List.length_nil]
   lia
  ·have eb:=between_all (pss:=[[nmC 8,[91]],ps,[[93]]]) (fun l hl p hp=>by
    simp only [List.mem_cons,List.not_mem_nil,or_false] at hl
    rcases hl with rfl | rfl | rfl
    ·simp only [List.mem_cons,List.not_mem_nil,or_false] at hp
     rcases hp with rfl | rfl <;> decide
    ·exact pok hts p hp
    ·simp only [List.mem_cons,List.not_mem_nil,or_false] at hp
     rw [hp]; decide)
   have S68:=(same_new g6 (.lst [.str (PySem.Str.ofString "while ["),.str (tx (joinL [32] ps)),.str (PySem.Str.ofString "]")])).trans (S7.trans (same_new g8 (.tup [z5,.str (tx (joinL [32] ([joinL [32] [nmC 8,[91]],joinL [32] ps,joinL [32] [[93]]].filter fun c=>decide (c≠[]))))])))
   refine q _ (loopW ws) _ (S2.trans (S35.trans S68)) ⟨p8,z5,[nmC 8,[91]]++ps++[[93]],rfl,SqT.of (upd_same.trans ?_),t5.mono (.of S68),wr_loopW hts⟩ ⟨?_,?_⟩ (fun z=>absurd z w5) (fun _=>?_) (fun z=>absurd z w5) (fun _=>br_loop) (by have e5:=V.int.inj (of_decide_eq_true h6); unfold wordF; rw [if_neg (by lia),if_neg (by lia),if_neg (by lia),if_pos e5])
   ·rw [show ([joinL [32] [nmC 8,[91]],joinL [32] ps,joinL [32] [[93]]]:List (List Nat))=[[nmC 8,[91]],ps,[[93]]].map (joinL [32]) from rfl,eb]
    rw [show ([[nmC 8,[91]],ps,[[93]]]:List (List (List Nat))).flatten=[nmC 8,[91]]++ps++[[93]] by simp]
   ·show (T.node (leavesT 8::ws)).parts≤_
    rw [T.parts_node,T.partsL_cons]
    have:=(B_leaves 8).2
    lia
   ·show (T.node (leavesT 8::ws)).deep≤_
    rw [T.deep_node,T.deepL_cons]
    have:=(B_leaves 8).1
    lia
   ·show (T.node (leavesT 8::ws)).deep≤_
    rw [T.deep_node,T.deepL_cons]
    have:=(B_leaves 8).1
    lia
 have etd:ws.take k++ws.drop k=ws:=List.take_append_drop k ws
 have ptd:T.partsL (ws.take k)+T.partsL (ws.drop k)=T.partsL ws:=by rw [← T.partsL_append,etd]
 have dtd:max (T.deepL (ws.take k)) (T.deepL (ws.drop k))=T.deepL ws:=by rw [← deepL_app,etd]
 have ltd:=T.len_le_parts (ws.drop k)
 dsimp only [tNext]
 refine setQ (fun v=>[some (.int c),some (.int way),some (.ref lt),some (.ref lh),none,some (.int (k:Int)),none,some v,none]) (fun _=>rfl) (fun v H'=>Same H1 H'∧TXd K H' (ws.take k) v) (fun R r=>⟨_,rfl,_,rfl,_,rfl,lh,xs,rfl,hlh,fun p2 g2=>?_⟩) (fun v2 H2 h2=>?_)
 ·have S2:=same_new g2 (.lst (cutV xs none (some (k:Int))))
  exact⟨p2,_,ws.take k,rfl,SqL.of upd_same,(by have e2:=(hw.take k).imp fun _ _=>WRd.mono (Kt.of S2); rw [← cut_to xs k] at e2; exact e2),by lia,fun r2 H3 S3 h3=>r _ _ ⟨S2.trans S3,h3⟩⟩
 obtain⟨S2,ay,xy,py,rfl,qy,ty,hy⟩:=h2
 refine setQ (fun v=>[some (.int c),some (.int way),some (.ref lt),some (.ref lh),none,some (.int (k:Int)),none,some (.ref ay),some v]) (fun _=>rfl) (fun v H'=>Same H2 H'∧TXd K H' (ws.drop k) v) (fun R r=>⟨_,rfl,_,rfl,_,rfl,lh,xs,rfl,S2.seq hlh,fun p3 g3=>?_⟩) (fun v3 H3 h3=>?_)
 ·have S3:=same_new g3 (.lst (cutV xs (some (k:Int)) none))
  exact⟨p3,_,ws.drop k,rfl,SqL.of upd_same,(by have e2:=(hw.drop k).imp fun _ _=>WRd.mono (Kt.of (S2.trans S3)); rw [← cut_from xs k] at e2; exact e2),by lia,fun r2 H4 S4 h4=>r _ _ ⟨S3.trans S4,h4⟩⟩
 obtain⟨S3,an,xn,pn,rfl,qn,tn,hn⟩:=h3
 have qy:=sqT_mono (.of S3) qy
 have ty:=ty.mono (.of S3)
 refine⟨7,rfl,by lia,fun r4 H4 S4 h4=>?_⟩
 obtain⟨a4,v4,rfl,q4,t4⟩:=h4
 refine⟨a4,_,0,v4,rfl,rfl,q4,atI_nat (j:=0) rfl,_,rfl,ay,_,0,xy,rfl,rfl,sqT_mono (.of S4) qy,atI_nat (j:=0) rfl,(by show 2≤sizeLine; decide),fun p5 g5=>?_⟩
 obtain⟨S5,t5⟩:=tupN (K:=K) g5 (trs2 t4 (ty.mono (.of S4)))
 have S45:=S4.trans S5
 refine⟨_,rfl,an,_,0,xn,rfl,rfl,sqT_mono (.of S45) qn,atI_nat (j:=0) rfl,nCat t5 (tn.mono (.of S45)) (small (by show 2+_≤_; lia)) (fun z6 H6 S6 t6=>?_)⟩
 have S46:=S45.trans S6
 refine⟨_,rfl,ay,_,1,_,rfl,rfl,sqT_mono (.of S46) qy,atI_nat (j:=1) rfl,_,rfl,an,_,1,_,rfl,rfl,sqT_mono (.of S46) qn,atI_nat (j:=1) rfl,(by show 5≤sizeLine; decide),fun p7 g7=>?_⟩
 have z1:=ts_sz hy
 have z2:=ts_sz hn
 have j1:=joinL_len [32] py
 have j2:=joinL_len [32] pn
 simp only [List.length_singleton,Nat.mul_one] at j1 j2
 unfold szP at z1 z2
 refine⟨p7,[joinL [32] [nmC 7,[91]],joinL [32] py,joinL [32] [[124]],joinL [32] pn,joinL [32] [[93]]],rfl,?_,by show 5≤1000; lia,?_,fun H8 S8=>⟨(by show 2≤sizeLine; decide),fun p9 g9=>?_⟩⟩
 ·rw [upd_same,tx_forkB,tx_rb,tx_bar]
  rfl
 ·have:(joinL [32] [nmC 7,[91]]).length=6:=rfl
  have:(joinL [32] [[93]]).length=1:=rfl
  have:(joinL [32] [[124]]).length=1:=rfl
  simp only [List.flatten_cons,List.flatten_nil,List.length_append,List.length_nil]
  lia
 ·have eb:=between_all (pss:=[[nmC 7,[91]],py,[[124]],pn,[[93]]]) (fun l hl p hp=>by
   simp only [List.mem_cons,List.not_mem_nil,or_false] at hl
   rcases hl with rfl | rfl | rfl | rfl | rfl
   ·simp only [List.mem_cons,List.not_mem_nil,or_false] at hp
    rcases hp with rfl | rfl <;> decide
   ·exact pok hy p hp
   ·simp only [List.mem_cons,List.not_mem_nil,or_false] at hp
    rw [hp]; decide
   ·exact pok hn p hp
   ·simp only [List.mem_cons,List.not_mem_nil,or_false] at hp
    rw [hp]; decide)
  have S79:=(same_new g7 (.lst [.str (PySem.Str.ofString "fork ["),.str (tx (joinL [32] py)),.str (PySem.Str.ofString "|"),.str (tx (joinL [32] pn)),.str (PySem.Str.ofString "]")])).trans (S8.trans (same_new g9 (.tup [z6,.str (tx (joinL [32] ([joinL [32] [nmC 7,[91]],joinL [32] py,joinL [32] [[124]],joinL [32] pn,joinL [32] [[93]]].filter fun c=>decide (c≠[]))))])))
  have hfd:(forkW (ws.take k) (ws.drop k)).deep≤3+T.deepL ws:=by
   show (T.node (leavesT 7::.node (ws.take k)::ws.drop k)).deep≤_
   rw [T.deep_node,T.deepL_cons,T.deepL_cons,T.deep_node]
   have:=(B_leaves 7).1
   lia
  refine q _ (forkW (ws.take k) (ws.drop k)) _ (S2.trans (S3.trans (S46.trans S79))) ⟨p9,z6,[nmC 7,[91]]++py++[[124]]++pn++[[93]],rfl,SqT.of (upd_same.trans ?_),t6.mono (.of S79),wr_forkW hy hn⟩ ⟨?_,by lia⟩ (fun z=>absurd z w5) (fun _=>hfd) (fun z=>absurd z w5) (fun _=>br_fork k) (by have e5:way≠5:=(fun z=>h6 (by rw [z]; exact decide_eq_true rfl)); unfold wordF; rw [if_neg (by lia),if_neg (by lia),if_neg (by lia),if_neg e5,ek])
  ·rw [show ([joinL [32] [nmC 7,[91]],joinL [32] py,joinL [32] [[124]],joinL [32] pn,joinL [32] [[93]]]:List (List Nat))=[[nmC 7,[91]],py,[[124]],pn,[[93]]].map (joinL [32]) from rfl,eb]
   rw [show ([[nmC 7,[91]],py,[[124]],pn,[[93]]]:List (List (List Nat))).flatten=[nmC 7,[91]]++py++[[124]]++pn++[[93]] by simp]
  ·show (T.node (leavesT 7::.node (ws.take k)::ws.drop k)).parts≤_
   rw [T.parts_node,T.partsL_cons,T.partsL_cons,T.parts_node]
   have:=(B_leaves 7).2
   lia
end
end Sw25
namespace Sw25
open PySem PySem.Spec PyProof.Rows L2 Sw
section
variable {P:Program}{w:World}{K:PySem.W.Frag}{mg:Str→Option Value}{base:Heap}{f:Addr}{fd:FuncData}
def KdP (K:PySem.W.Frag) (way:Int) (kk:List T) (H':Hp) (v:V):Prop:=∃ l xs ks,v=.ref l∧H' l=some (.lst xs)∧Kids K H' ks xs∧oddT (.node ks)=true∧B 25 190 (.node ks)∧(way=1∨way=4→oddT (.node (ks.take 1))=true)∧ks=kk
theorem KdP.mono {K:PySem.W.Frag}{way:Int}{kk:List T}{H H':Hp}{v:V} (S:Same H H') (h:KdP K way kk H v):KdP K way kk H' v:=by
 obtain⟨l,xs,ks,rfl,h1,h2,h3⟩:=h
 exact⟨l,xs,ks,rfl,S _ _ h1,Kids.mono (.of S) h2,h3⟩
theorem ok__law_odd (m_len:mg "len"=none)
  {a__law_pick:Addr}{d__law_pick:FuncData} (F__law_pick:Fun K "_law_pick" "_law_pick" s__law_pick a__law_pick d__law_pick) (G__law_pick:FnOk P w K mg base CX0 32 a__law_pick d__law_pick ["_law_cell","_law_turn","_law_many"] spPickD) (b__law_pick:Binds K d__law_pick ["_law_cell","_law_turn","_law_many"] []) (m__law_pick:mg "_law_pick"=some (.ref a__law_pick))
  {a__law_leaves:Addr}{d__law_leaves:FuncData} (F__law_leaves:Fun K "_law_leaves" "_law_leaves" s__law_leaves a__law_leaves d__law_leaves) (G__law_leaves:FnOk P w K mg base CX0 32 a__law_leaves d__law_leaves ["_law_many"] (spLeavesP K)) (b__law_leaves:Binds K d__law_leaves ["_law_many"] []) (m__law_leaves:mg "_law_leaves"=some (.ref a__law_leaves))
  {a__law_joined:Addr}{d__law_joined:FuncData} (F__law_joined:Fun K "_law_joined" "_law_joined" s__law_joined a__law_joined d__law_joined) (G__law_joined:FnOk P w K mg base CX0 32 a__law_joined d__law_joined ["_law_kids"] (spJoinedP K)) (b__law_joined:Binds K d__law_joined ["_law_kids"] []) (m__law_joined:mg "_law_joined"=some (.ref a__law_joined))
  (F:Fun K "_law_odd" "_law_odd" s__law_odd f fd):FnOk P w K mg base CX0 33 f fd ["_law_cell","_law_trees"] (spOddY K):=by
 refine okQ F sc__law_odd (fun vs H Q E h=>?_) (fun cdv A outer s H vs Q E hr h=>?_)
 ·obtain⟨c,lt,xts,ts,rfl,_⟩:=h
  rfl
 obtain⟨c,lt,xts,ts,rfl,hlt,htk,hne,hbt,q⟩:=h
 refine⟨_,(qss_cons (qs_set (i:=2) sc__law_odd.nd rfl (Or.inl rfl) (qe_call G__law_pick hr rfl m__law_pick F__law_pick.kp b__law_pick .nil pass0 (qa_cons (qv 0) (qa_cons qe_int (qa_cons qe_int qa_nil)))))
   (qss_cons (qs_set (i:=3) sc__law_odd.nd rfl (Or.inl rfl) (qe_ix ix_list (qv 1) (qe_call G__law_pick hr rfl m__law_pick F__law_pick.kp b__law_pick .nil pass0 (qa_cons (qv 0) (qa_cons qe_int (qa_cons (qe_callB call_len_seq rfl m_len bt_len (qa_cons (qv 1) qa_nil)) qa_nil)))) (fun _ _=>rfl)))
   (qss_cons (qs_set (i:=4) sc__law_odd.nd rfl (Or.inl rfl) (qe_ix ix_list (qv 1) (qe_call G__law_pick hr rfl m__law_pick F__law_pick.kp b__law_pick .nil pass0 (qa_cons (qv 0) (qa_cons qe_int (qa_cons (qe_callB call_len_seq rfl m_len bt_len (qa_cons (qv 1) qa_nil)) qa_nil)))) (fun _ _=>rfl)))
   (qss_cons (qs_set (i:=5) sc__law_odd.nd rfl (Or.inl rfl) (qe_lst qa_nil))
   (qss_cons (qs_if (qt_cmpR op_eq (qv 2) qe_int (nomark _)) (qss_one (qs_set (i:=5) sc__law_odd.nd rfl (Or.inl rfl) (qe_lst (qa_cons (qe_call G__law_leaves hr rfl m__law_leaves F__law_leaves.kp b__law_leaves .nil pass0 (qa_cons (qe_op op_add qe_int (qe_call G__law_pick hr rfl m__law_pick F__law_pick.kp b__law_pick .nil pass0 (qa_cons (qv 0) (qa_cons qe_int (qa_cons qe_int qa_nil))))) qa_nil)) (qa_cons (qv 3) qa_nil))))) qss_nil)
   (qss_cons (qs_if (qt_cmpR op_eq (qv 2) qe_int (nomark _)) (qss_one (qs_set (i:=5) sc__law_odd.nd rfl (Or.inl rfl) (qe_lst (qa_cons (qe_call G__law_leaves hr rfl m__law_leaves F__law_leaves.kp b__law_leaves .nil pass0 (qa_cons (qe_op op_add qe_int (qe_call G__law_pick hr rfl m__law_pick F__law_pick.kp b__law_pick .nil pass0 (qa_cons (qv 0) (qa_cons qe_int (qa_cons qe_int qa_nil))))) qa_nil)) (qa_cons (qv 3) (qa_cons (qv 4) qa_nil)))))) qss_nil)
   (qss_cons (qs_if (qt_cmpR op_eq (qv 2) qe_int (nomark _)) (qss_one (qs_set (i:=5) sc__law_odd.nd rfl (Or.inl rfl) (qe_lst (qa_cons (qe_call G__law_leaves hr rfl m__law_leaves F__law_leaves.kp b__law_leaves .nil pass0 (qa_cons qe_int qa_nil)) qa_nil)))) qss_nil)
   (qss_cons (qs_if (qt_cmpR op_eq (qv 2) qe_int (nomark _)) (qss_cons (qs_set (i:=6) sc__law_odd.nd rfl (Or.inl rfl) (qe_call G__law_pick hr rfl m__law_pick F__law_pick.kp b__law_pick .nil pass0 (qa_cons (qv 0) (qa_cons qe_int (qa_cons qe_int qa_nil)))))
   (qss_cons (qs_set (i:=7) sc__law_odd.nd rfl (Or.inl rfl) (qe_call G__law_pick hr rfl m__law_pick F__law_pick.kp b__law_pick .nil pass0 (qa_cons (qv 0) (qa_cons qe_int (qa_cons (qe_op op_add (qv 6) qe_int) qa_nil)))))
   (qss_cons (qs_set (i:=8) sc__law_odd.nd rfl (Or.inl rfl) (qe_op op_cat (qe_op op_cat (qe_op op_rep (qe_lst (qa_cons (qe_tup (qa_cons (qe_tup qa_nil) (qa_cons qe_str qa_nil))) qa_nil)) (qv 7)) (qe_lst (qa_cons (qe_call G__law_joined hr rfl m__law_joined F__law_joined.kp b__law_joined .nil pass0 (qa_cons (qe_lst (qa_cons (qv 3) qa_nil)) qa_nil)) qa_nil))) (qe_op op_rep (qe_lst (qa_cons (qe_tup (qa_cons (qe_tup qa_nil) (qa_cons qe_str qa_nil))) qa_nil)) (qe_op op_sub (qv 6) (qv 7)))))
   (qss_one (qs_set (i:=5) sc__law_odd.nd rfl (Or.inl rfl) (qe_lst (qa_cons (qe_call G__law_joined hr rfl m__law_joined F__law_joined.kp b__law_joined .nil pass0 (qa_cons (qv 8) qa_nil)) (qa_cons (qv 4) qa_nil)))))))) qss_nil)
   (qss_cons (qs_if (QW.pt (qw_and (qt_cmpR op_in_seq (qv 2) (qe_tup (qa_cons qe_int (qa_cons qe_int qa_nil))) rfl) (qw_and1 (qt_cmpR op_eq (qe_call G__law_pick hr rfl m__law_pick F__law_pick.kp b__law_pick .nil pass0 (qa_cons (qv 0) (qa_cons qe_int (qa_cons qe_int qa_nil)))) qe_int (nomark _))))) (qss_one (qs_set (i:=5) sc__law_odd.nd rfl (Or.inl rfl) (qe_slice sl_list (qv 5) qo_none (qo_some qe_int)))) qss_nil)
   (qss_cons (qs_set (i:=9) sc__law_odd.nd rfl (Or.inl rfl) (qe_call G__law_joined hr rfl m__law_joined F__law_joined.kp b__law_joined .nil pass0 (qa_cons (qv 5) qa_nil)))
   (qss_one (qs_ret (qe_tup (qa_cons (qe_ix ix_tup (qv 9) qe_int (fun _ _=>rfl)) (qa_cons (qe_op op_add_str qe_str (qe_ix ix_tup (qv 9) qe_int (fun _ _=>rfl))) qa_nil))))))))))))))),?_⟩
 have hxl:=htk.length
 have htk:Kids K H ts xts:=htk
 have hpos:(0:Int)<(xts.length:Int):=by
  have:0<ts.length:=List.length_pos_iff.mpr hne
  lia
 have one:∀ (n:Int) (R:VK),∀ i:Int,(∀ v,(∃ t,KidR K H t v∧B 20 60 t∧t=nthT ts i)→R v H)→0≤i→i<(xts.length:Int)→∃ x,atI xts i=some x∧R x H:=fun n R i r i0 i1=>by
  obtain⟨x,t,ex,e,hm,et⟩:=all_pickD htk i0 i1
  exact⟨x,ex,r x ⟨t,e,hbt t hm,et⟩⟩
 refine setQ (fun v=>[some (.int c),some (.ref lt),some v,none,none,none,none,none,none,none]) (fun _=>rfl) (fun v H'=>H'=H∧∃ way:Int,v=.int way∧0≤way∧way<5∧way=pickZ c 22 5) (fun R r=>⟨_,rfl,c,22,5,rfl,by decide,fun i i0 i1 ei=>r _ _ ⟨rfl,i,rfl,i0,i1,ei⟩⟩) (fun v1 H1 h1=>?_)
 obtain⟨rfl,way,rfl,w0,w5,ew⟩:=h1
 refine setQ (fun v=>[some (.int c),some (.ref lt),some (.int way),some v,none,none,none,none,none,none]) (fun _=>rfl) (fun v H'=>H'=H1∧∃ t,KidR K H1 t v∧B 20 60 t∧t=nthT ts (pickZ c 23 (ts.length:Int))) (fun R r=>⟨_,rfl,_,rfl,_,rfl,lt,xts,rfl,.inl hlt,c,23,_,rfl,hpos,fun i i0 i1 ei=>?_⟩) (fun v2 H2 h2=>?_)
 ·rw [hxl] at ei
  obtain⟨x,ex,q1⟩:=one 0 R i (fun v hv=>r _ _ ⟨rfl,by rw [← ei]; exact hv⟩) i0 i1
  exact⟨lt,_,_,_,rfl,rfl,hlt,ex,q1⟩
 obtain⟨rfl,t1,k1,b1,et1⟩:=h2
 refine setQ (fun v=>[some (.int c),some (.ref lt),some (.int way),some v2,some v,none,none,none,none,none]) (fun _=>rfl) (fun v H'=>H'=H2∧∃ t,KidR K H2 t v∧B 20 60 t∧t=nthT ts (pickZ c 24 (ts.length:Int))) (fun R r=>⟨_,rfl,_,rfl,_,rfl,lt,xts,rfl,.inl hlt,c,24,_,rfl,hpos,fun i i0 i1 ei=>?_⟩) (fun v3 H3 h3=>?_)
 ·rw [hxl] at ei
  obtain⟨x,ex,q1⟩:=one 0 R i (fun v hv=>r _ _ ⟨rfl,by rw [← ei]; exact hv⟩) i0 i1
  exact⟨lt,_,_,_,rfl,rfl,hlt,ex,q1⟩
 obtain⟨rfl,t2,k2,b2,et2⟩:=h3
 refine setQ (fun v=>[some (.int c),some (.ref lt),some (.int way),some v2,some v3,some v,none,none,none,none]) (fun _=>rfl) (fun v H'=>Same H3 H'∧KdP K way [] H' v) (fun R r=>⟨Nat.zero_le _,fun p g=>r _ _ ⟨same_new g _,p,[],[],rfl,upd_same,.nil,odd_leaf,B_nil.le (by lia) (by lia),fun _=>odd_leaf,rfl⟩⟩) (fun v4 H4 h4=>?_)
 obtain⟨S4,kd4⟩:=h4
 refine ifSetQ (fun v=>[some (.int c),some (.ref lt),some (.int way),some v2,some v3,some v,none,none,none,none]) (fun _=>rfl) (fun v H'=>Same H3 H'∧KdP K way (kids1 c way t1) H' v) v4 rfl (fun v5 H5 h5=>?_) (fun A B' hA hB=>⟨_,rfl,rfl,_,rfl,ite2 (fun h=>hA _ fun R r=>⟨_,rfl,c,25,5,rfl,by decide,fun i i0 i1 ei=>⟨_,_,rfl,rfl,(9+i).toNat,(by rw [Int.toNat_of_nonneg (by lia)]; rfl),by lia,fun r5 H5 S5 h5=>⟨_,rfl,(by show 2≤sizeLine; decide),fun p g=>r _ _ ⟨S4.trans (S5.trans (same_new g _)),p,[r5,v2],[leavesT (9+i).toNat,t1],rfl,upd_same,.cons (h5.mono (.new g)) (.cons (k1.mono (.of (S4.trans (S5.trans (same_new g _))))) .nil),odd_nine (by lia) _,(B_cons (B_leaves _) (B_tup1 b1)).le (by lia) (by lia),fun _=>odd_nine (by lia) _,by unfold kids1; rw [if_pos (V.int.inj (of_decide_eq_true h)),← ei]⟩⟩⟩⟩) (fun h=>hB _ ⟨S4,by unfold kids1; rw [if_neg (fun z=>h (by rw [z]; exact decide_eq_true rfl))]; exact kd4⟩)⟩)
 obtain⟨S5,kd5⟩:=h5
 refine ifSetQ (fun v=>[some (.int c),some (.ref lt),some (.int way),some v2,some v3,some v,none,none,none,none]) (fun _=>rfl) (fun v H'=>Same H3 H'∧KdP K way (kids2 c way t1 t2) H' v) v5 rfl (fun v6 H6 h6=>?_) (fun A B' hA hB=>⟨_,rfl,rfl,_,rfl,ite2 (fun h=>hA _ fun R r=>⟨_,rfl,c,25,6,rfl,by decide,fun i i0 i1 ei=>⟨_,_,rfl,rfl,(1+i).toNat,(by rw [Int.toNat_of_nonneg (by lia)]; rfl),by lia,fun r5 H7 S7 h7=>⟨_,rfl,_,rfl,(by show 3≤sizeLine; decide),fun p g=>r _ _ ⟨S5.trans (S7.trans (same_new g _)),p,[r5,v2,v3],[leavesT (1+i).toNat,t1,t2],rfl,upd_same,.cons (h7.mono (.new g)) (.cons (k1.mono (.of (S5.trans (S7.trans (same_new g _))))) (.cons (k2.mono (.of (S5.trans (S7.trans (same_new g _))))) .nil)),odd_load (by lia) (by lia) _ _,(B_cons (B_leaves _) (B_cons b1 (B_tup1 b2))).le (by lia) (by lia),(fun hz=>by have:=V.int.inj (of_decide_eq_true h); lia),by unfold kids2; rw [if_pos (V.int.inj (of_decide_eq_true h)),← ei]⟩⟩⟩⟩) (fun h=>hB _ ⟨S5,by unfold kids2; rw [if_neg (fun z=>h (by rw [z]; exact decide_eq_true rfl))]; exact kd5⟩)⟩)
 obtain⟨S6,kd6⟩:=h6
 refine ifSetQ (fun v=>[some (.int c),some (.ref lt),some (.int way),some v2,some v3,some v,none,none,none,none]) (fun _=>rfl) (fun v H'=>Same H3 H'∧KdP K way (kids3 c way t1 t2) H' v) v6 rfl (fun v7 H7 h7=>?_) (fun A B' hA hB=>⟨_,rfl,rfl,_,rfl,ite2 (fun h=>hA _ fun R r=>⟨7,rfl,by lia,fun r5 H8 S8 h8=>⟨(by show 1≤sizeLine; decide),fun p g=>r _ _ ⟨S6.trans (S8.trans (same_new g _)),p,[r5],[leavesT 7],rfl,upd_same,.cons (h8.mono (.new g)) .nil,odd_seven,(B_tup1 (B_leaves 7)).le (by lia) (by lia),fun _=>odd_seven,by unfold kids3; rw [if_pos (V.int.inj (of_decide_eq_true h))]⟩⟩⟩) (fun h=>hB _ ⟨S6,by unfold kids3; rw [if_neg (fun z=>h (by rw [z]; exact decide_eq_true rfl))]; exact kd6⟩)⟩)
 obtain⟨S7,kd7⟩:=h7
 refine ifAny (fun σ' H'=>∃ (v:V) (o6 o7 o8:Option V),σ'=[some (.int c),some (.ref lt),some (.int way),some v2,some v3,some v,o6,o7,o8,none]∧Same H3 H'∧KdP K way (kids4 c way t1 t2) H' v) (fun σ' H8 h8=>?_) (fun A B' hA hB=>⟨_,rfl,rfl,_,rfl,ite2 (fun h=>hA _ fun N hN=>?_) (fun h=>hB _ ⟨v7,_,_,_,rfl,S7,by unfold kids4; rw [if_neg (fun z=>h (by rw [z]; exact decide_eq_true rfl))]; exact kd7⟩)⟩)
 rotate_left
 ·refine setQ (fun v=>[some (.int c),some (.ref lt),some (.int way),some v2,some v3,some v7,some v,none,none,none]) (fun _=>rfl) (fun v H'=>H'=H7∧∃ m:Nat,v=.int (m:Int)∧m<12∧m=(pickZ c 25 12).toNat) (fun R r=>⟨_,rfl,c,25,12,rfl,by decide,fun i i0 i1 ei=>r _ _ ⟨rfl,i.toNat,by rw [Int.toNat_of_nonneg i0],by lia,by rw [ei]⟩⟩) (fun w1 G1 e1=>?_)
  obtain⟨rfl,m,rfl,hm,em⟩:=e1
  refine setQ (fun v=>[some (.int c),some (.ref lt),some (.int way),some v2,some v3,some v7,some (.int (m:Int)),some v,none,none]) (fun _=>rfl) (fun v H'=>H'=G1∧∃ k:Nat,v=.int (k:Int)∧k≤m∧k=(pickZ c 26 ((m:Int)+1)).toNat) (fun R r=>⟨_,rfl,_,rfl,_,_,rfl,rfl,c,26,_,rfl,by lia,fun i i0 i1 ei=>r _ _ ⟨rfl,i.toNat,by rw [Int.toNat_of_nonneg i0],by lia,by rw [ei]⟩⟩) (fun w2 G2 e2=>?_)
  obtain⟨rfl,k,rfl,hk,ekk⟩:=e2
  have k1:=k1.mono (.of S7)
  have k2:=k2.mono (.of S7)
  have z62:=two62
  refine setQ (fun v=>[some (.int c),some (.ref lt),some (.int way),some v2,some v3,some v7,some (.int (m:Int)),some (.int (k:Int)),some v,none]) (fun _=>rfl) (fun v H'=>Same G2 H'∧∃ l xs,v=.ref l∧H' l=some (.lst xs)∧Kids K H' (List.replicate k leaf++[.node [t1]]++List.replicate (m - k) leaf) xs) (fun R r=>⟨Nat.zero_le _,fun p1 g1=>⟨(by show 2≤sizeLine; decide),fun p2 g2=>⟨(by show 1≤sizeLine; decide),fun p3 g3=>?_⟩⟩⟩) (fun w3 G3 e3=>?_)
  ·have s1:=same_new g1 (.tup [])
   have s2:=same_new g2 (.tup [.ref p1,.str (PySem.Str.ofString "()")])
   have s3:=same_new g3 (.lst [.ref p2])
   have kl:KidR K _ leaf (.ref p2):=⟨p2,.ref p1,rfl,SqT.of (upd_same.trans (by rw [tx_leaf]; rfl)),(leaf_tr upd_same).mono (.of s2)⟩
   have s13:=s1.trans (s2.trans s3)
   refine⟨_,rfl,p3,(k:Int),_,rfl,rfl,upd_same,by lia,by lia,?_,fun p4 g4=>?_⟩
   ·rw [Int.toNat_natCast]
    exact small (by show 1 * k≤_; lia)
   have s4:=same_new g4 (.lst (List.replicate ((k:Int)).toNat [V.ref p2]).flatten)
   refine⟨_,rfl,(by show 1≤sizeLine; decide),fun p5 g5=>?_⟩
   have s5:=same_new g5 (.lst [v2])
   have s15:=s13.trans (s4.trans s5)
   refine⟨p5,_,[t1],rfl,SqL.of upd_same,.cons (k1.mono (.of s15)) .nil,by rw [T.partsL_cons,T.partsL_nil]; have:=b1.2; lia,fun r6 H6 S6 h6=>⟨(by show 1≤sizeLine; decide),fun p7 g7=>?_⟩⟩
   have s7:=same_new g7 (.lst [r6])
   have hp4:=s7 _ _ (S6 _ _ (s5 _ _ (upd_same (H:=upd (upd (upd G2 p1 (.tup [])) p2 (.tup [.ref p1,.str (PySem.Str.ofString "()")])) p3 (.lst [.ref p2])) (a:=p4) (o:=.lst (List.replicate ((k:Int)).toNat [V.ref p2]).flatten))))
   refine⟨p4,p7,_,_,rfl,rfl,hp4,upd_same,?_,fun p8 g8=>?_⟩
   ·rw [flat_rep,List.length_replicate,Int.toNat_natCast]
    exact small (by show k+1≤_; lia)
   have s8:=same_new g8 (.lst ((List.replicate ((k:Int)).toNat [V.ref p2]).flatten++[r6]))
   refine⟨Nat.zero_le _,fun q1 h1=>⟨(by show 2≤sizeLine; decide),fun q2 h2=>⟨(by show 1≤sizeLine; decide),fun q3 h3=>?_⟩⟩⟩
   have u1:=same_new h1 (.tup [])
   have u2:=same_new h2 (.tup [.ref q1,.str (PySem.Str.ofString "()")])
   have u3:=same_new h3 (.lst [.ref q2])
   have ku:KidR K _ leaf (.ref q2):=⟨q2,.ref q1,rfl,SqT.of (upd_same.trans (by rw [tx_leaf]; rfl)),(leaf_tr upd_same).mono (.of u2)⟩
   refine⟨_,rfl,_,rfl,_,_,rfl,rfl,q3,((m:Int) - (k:Int)),_,rfl,rfl,upd_same,by lia,by lia,?_,fun q4 h4=>?_⟩
   ·exact small (by show 1 * ((m:Int) - (k:Int)).toNat≤_; lia)
   have u4:=same_new h4 (.lst (List.replicate (((m:Int) - (k:Int))).toNat [V.ref q2]).flatten)
   have hp8:=u4 _ _ (u3 _ _ (u2 _ _ (u1 _ _ (upd_same (H:=_) (a:=p8) (o:=.lst ((List.replicate ((k:Int)).toNat [V.ref p2]).flatten++[r6]))))))
   refine⟨p8,q4,_,_,rfl,rfl,hp8,upd_same,?_,fun q5 h5=>?_⟩
   ·rw [flat_rep,flat_rep,List.length_append,List.length_replicate,List.length_replicate]
    exact small (by show (k:Int).toNat+1+_≤_; lia)
   have u5:=same_new h5 (.lst ((List.replicate ((k:Int)).toNat [V.ref p2]).flatten++[r6]++(List.replicate (((m:Int) - (k:Int))).toNat [V.ref q2]).flatten))
   have sA:=s4.trans (s5.trans (S6.trans (s7.trans (s8.trans (u1.trans (u2.trans (u3.trans (u4.trans u5))))))))
   have sB:=s7.trans (s8.trans (u1.trans (u2.trans (u3.trans (u4.trans u5)))))
   refine r _ _ ⟨s13.trans sA,q5,_,rfl,upd_same,?_⟩
   have el:(List.replicate ((k:Int)).toNat [V.ref p2]).flatten++[r6]++(List.replicate (((m:Int) - (k:Int))).toNat [V.ref q2]).flatten=List.replicate k (V.ref p2)++[r6]++List.replicate (m - k) (V.ref q2):=by
    rw [flat_rep,flat_rep,Int.toNat_natCast,show ((m:Int) - (k:Int)).toNat=m - k by lia]
   have hA:=((all2_rep ((kl.mono (.of s3)).mono (.of sA)) k).append (All2.one (h6.mono (.of sB)))).append (all2_rep (ku.mono (.of (u3.trans (u4.trans u5)))) (m - k))
   rw [← el] at hA
   exact hA
  obtain⟨S9,l9,xs9,rfl,hl9,kd9⟩:=e3
  have bi:B 22 100 (.node (List.replicate k leaf++[.node [t1]]++List.replicate (m - k) leaf)):=by
   have r1:∀ n,n≤12→B 1 13 (.node (List.replicate n leaf)):=fun n hn=>(B_leaves n).le (by lia) (by lia)
   exact (B_cat (r1 (m - k) (by lia)) (B_cat (B_tup1 (B_tup1 b1)) (r1 k (by lia)))).le (by lia) (by lia)
  refine⟨_,rfl,l9,_,_,rfl,SqL.of hl9,kd9,?_,fun r10 H10 S10 h10=>⟨_,rfl,(by show 2≤sizeLine; decide),fun p11 g11=>?_⟩⟩
  ·have:=bi.2
   rw [T.parts_node] at this
   lia
  have s11:=same_new g11 (.lst [r10,v3])
  have od:∀ us,oddT (.node (.node (List.replicate k leaf++[.node [t1]]++List.replicate (m - k) leaf)::us))=true:=fun us=>odd_in (t:=.node [t1]) (by simp) (by intro z; cases z) us
  exact hN _ _ ⟨_,_,_,_,rfl,S7.trans (S9.trans (S10.trans s11)),p11,[r10,v3],[_,t2],rfl,upd_same,.cons (h10.mono (.new g11)) (.cons (k2.mono (.of (S9.trans (S10.trans s11)))) .nil),od _,(B_cons bi (B_tup1 b2)).le (by lia) (by lia),fun _=>od _,by unfold kids4; rw [if_pos (V.int.inj (of_decide_eq_true h)),← em,← ekk]⟩
 obtain⟨v8,o6,o7,o8,rfl,S8,kd8⟩:=h8
 refine ifSetQ (fun v=>[some (.int c),some (.ref lt),some (.int way),some v2,some v3,some v,o6,o7,o8,none]) (fun _=>rfl) (fun v H'=>Same H3 H'∧KdP K 0 (kids5 c way t1 t2) H' v) v8 rfl (fun v9 H9 h9=>?_) (fun A B' hA hB=>?_)
 rotate_left
 ·have kd0:∀ {H':Hp},¬ ((way=1∨way=4)∧pickZ c 32 2=1)→Same H8 H'→KdP K 0 (kids5 c way t1 t2) H' v8:=fun hz S=>by
   obtain⟨l,xs,ks,rfl,e1,e2,e3,e4,_,e6⟩:=kd8.mono S
   exact⟨l,xs,ks,rfl,e1,e2,e3,e4,(fun z=>by lia),by unfold kids5; rw [if_neg hz]; exact e6⟩
  refine⟨_,rfl,(by show 2≤sizeLine; decide),fun p1 g1=>⟨p1,_,rfl,.inr (SqT.of upd_same),rfl,rfl,_,rfl,?_⟩⟩
  have s1:=same_new g1 (.tup [.int 1,.int 4])
  have ei:(if false=true then !inV (.int way) [.int 1,.int 4] else inV (.int way) [.int 1,.int 4])=decide (way=1∨way=4):=by
   rw [if_neg (by decide)]
   unfold inV
   rw [List.any_cons,List.any_cons,List.any_nil,Bool.or_false]
   show (((1:Int) == way) || ((4:Int) == way))=_
   rw [Bool.eq_iff_iff,Bool.or_eq_true,beq_iff_eq,beq_iff_eq,decide_eq_true_iff]
   lia
  rw [ei]
  refine ite2 (fun hw=>?_) (fun hw=>iteF (hB _ ⟨S8.trans s1,kd0 (fun z=>hw (decide_eq_true z.1)) s1⟩))
  refine⟨_,rfl,c,32,2,rfl,by decide,fun i i0 i1 ei=>⟨rfl,_,rfl,ite2 (fun hi1=>hA _ fun R r=>?_) (fun hi1=>hB _ ⟨S8.trans s1,kd0 (fun z=>hi1 (by rw [ei,z.2]; exact decide_eq_true rfl)) s1⟩)⟩⟩
  obtain⟨l,xs,ks,rfl,e1,e2,e3,e4,e5,e6⟩:=kd8.mono s1
  have hi1:=V.int.inj (of_decide_eq_true hi1)
  refine⟨_,rfl,1,rfl,l,xs,rfl,SqL.of e1,fun p2 g2=>r _ _ ⟨S8.trans (s1.trans (same_new g2 _)),p2,xs.take 1,ks.take 1,rfl,?_,Kids.mono (.new g2) (e2.take 1),e5 (of_decide_eq_true hw),?_,(fun z=>by lia),by unfold kids5; rw [if_pos ⟨of_decide_eq_true hw,by rw [← ei]; exact hi1⟩,e6]⟩⟩
  ·rw [upd_same,show (some (1:Int))=some ((1:Nat):Int) from rfl,cut_to]
  ·have:B 25 190 (.node (ks.take 1++ks.drop 1)):=by rw [List.take_append_drop]; exact e4
   exact B_left this
 obtain⟨S9,l9,xs9,ks9,rfl,hl9,kk9,od9,b9,_,ek9⟩:=h9
 refine setQ (fun v=>[some (.int c),some (.ref lt),some (.int way),some v2,some v3,some (.ref l9),o6,o7,o8,some v]) (fun _=>rfl) (fun v H'=>Same H9 H'∧KidR K H' (.node ks9) v) (fun R r=>⟨_,rfl,l9,_,ks9,rfl,SqL.of hl9,kk9,by have:=b9.2; rw [T.parts_node] at this; lia,fun r10 H10 S10 h10=>r _ _ ⟨S10,h10⟩⟩) (fun v10 H10 h10=>?_)
 obtain⟨S10,a,x,rfl,qa,ta⟩:=h10
 refine⟨_,rfl,a,_,0,x,rfl,rfl,qa,atI_nat (j:=0) rfl,_,rfl,a,_,1,_,rfl,rfl,qa,atI_nat (j:=1) rfl,_,_,rfl,rfl,?_,(by show 2≤sizeLine; decide),fun p11 g11=>?_⟩
 ·rw [tx_bang,tx_len,tx_len,T.wr_len]
  exact small (by have:=b9.2; show 1+_≤_; lia)
 ·refine q _ (.node ks9) _ (S9.trans (S10.trans (same_new g11 _))) ⟨p11,x,[33::(T.node ks9).wr],rfl,SqT.of (upd_same.trans ?_),ta.mono (.new g11),.odd od9⟩ (b9.le (by lia) (by lia)) od9 (by rw [ek9,ew,et1,et2]; rfl)
  rw [tx_bang,tx_append]
  rfl
end
end Sw25
namespace Sw25
open PySem PySem.Spec PyProof.Rows L2 Sw
section
variable {P:Program}{w:World}{K:PySem.W.Frag}{mg:Str→Option Value}{base:Heap}{f:Addr}{fd:FuncData}
def spWordsX (K:PySem.W.Frag):Sp:=fun vs H Q _=>∃ (lc lt:Addr) (ns:List Int) (xts:List V) (ts:List T),vs=[.ref lc,.ref lt]∧H lc=some (.lst (ns.map V.int))∧ns.length≤99∧SqL K H lt xts∧Kids K H ts xts∧ts≠[]∧(∀ t∈ts,B 20 60 t) ∧
 ∀ l xs ws H',Same H H'→H' l=some (.lst xs)→All2 (WRd K H') ws xs→ws.length≤99→T.partsL ws≤30000→T.deepL ws≤300→Dn ws 99→ws=wordsN ts ns ns.length→Q (.ref l) H'
theorem ok__law_words (m_enumerate:mg "enumerate"=none) (m_min:mg "min"=none) (m_len:mg "len"=none)
  {a__law_pick:Addr}{d__law_pick:FuncData} (F__law_pick:Fun K "_law_pick" "_law_pick" s__law_pick a__law_pick d__law_pick) (G__law_pick:FnOk P w K mg base CX0 34 a__law_pick d__law_pick ["_law_cell","_law_turn","_law_many"] spPickD) (b__law_pick:Binds K d__law_pick ["_law_cell","_law_turn","_law_many"] []) (m__law_pick:mg "_law_pick"=some (.ref a__law_pick))
  {a__law_word:Addr}{d__law_word:FuncData} (F__law_word:Fun K "_law_word" "_law_word" s__law_word a__law_word d__law_word) (G__law_word:FnOk P w K mg base CX0 34 a__law_word d__law_word ["_law_cell","_law_way","_law_trees","_law_held"] (spWordY K)) (b__law_word:Binds K d__law_word ["_law_cell","_law_way","_law_trees","_law_held"] []) (m__law_word:mg "_law_word"=some (.ref a__law_word))
  (F:Fun K "_law_words" "_law_words" s__law_words f fd):FnOk P w K mg base CX0 35 f fd ["_law_cells","_law_trees"] (spWordsX K):=by
 refine okQ F sc__law_words (fun vs H Q E h=>?_) (fun cdv A outer s H vs Q E hr h=>?_)
 ·obtain⟨lc,lt,ns,xts,ts,rfl,_⟩:=h
  rfl
 obtain⟨lc,lt,ns,xts,ts,rfl,hlc,h99,hlt,htk,hne,hbt,q⟩:=h
 refine⟨_,(qss_cons (qs_set (i:=2) sc__law_words.nd rfl (Or.inl rfl) (qe_lst qa_nil))
   (qss_cons (qs_for PassesOwn.never rfl (qi_enumL rfl m_enumerate (qv 0)) (qg_tup rfl (qgs_cons (qg_name (i:=3) sc__law_words.nd rfl (Or.inl rfl)) (qgs_cons (qg_name (i:=4) sc__law_words.nd rfl (Or.inl rfl)) qgs_nil))) (qss_cons (qs_set (i:=5) sc__law_words.nd rfl (Or.inl rfl) (qe_callB (call_min2 rfl) rfl m_min bt_min (qa_cons (qe_callB call_len_seq rfl m_len bt_len (qa_cons (qv 2) qa_nil)) (qa_cons (qe_call G__law_pick hr rfl m__law_pick F__law_pick.kp b__law_pick .nil pass0 (qa_cons (qv 4) (qa_cons qe_int (qa_cons qe_int qa_nil)))) qa_nil))))
   (qss_cons (qs_set (i:=6) sc__law_words.nd rfl (Or.inl rfl) (qe_call G__law_pick hr rfl m__law_pick F__law_pick.kp b__law_pick .nil pass0 (qa_cons (qv 4) (qa_cons qe_int (qa_cons qe_int qa_nil)))))
   (qss_cons (qs_if (qt_cmpR op_gt (qv 3) qe_int (nomark _)) (qss_one (qs_set (i:=6) sc__law_words.nd rfl (Or.inl rfl) (qe_op op_mod (qv 6) qe_int))) qss_nil)
   (qss_cons (qs_set (i:=7) sc__law_words.nd rfl (Or.inl rfl) (qe_call G__law_word hr rfl m__law_word F__law_word.kp b__law_word .nil pass0 (qa_cons (qv 4) (qa_cons (qv 6) (qa_cons (qv 1) (qa_cons (qe_slice sl_list (qv 2) (qo_some (qe_op op_sub (qe_callB call_len_seq rfl m_len bt_len (qa_cons (qv 2) qa_nil)) (qv 5))) qo_none) qa_nil))))))
   (qss_cons (qs_if (qt_cmpR op_gt (qv 6) qe_int (nomark _)) (qss_one (qs_set (i:=2) sc__law_words.nd rfl (Or.inl rfl) (qe_slice sl_list (qv 2) qo_none (qo_some (qe_op op_sub (qe_callB call_len_seq rfl m_len bt_len (qa_cons (qv 2) qa_nil)) (qv 5)))))) qss_nil)
   (qss_one (qs_set (i:=2) sc__law_words.nd rfl (Or.inl rfl) (qe_op op_cat (qv 2) (qe_lst (qa_cons (qv 7) qa_nil)))))))))))
   (qss_one (qs_ret (qv 2))))),?_⟩
 refine⟨Nat.zero_le _,fun p1 g1=>?_⟩
 have S1:=same_new g1 (.lst [])
 refine⟨_,rfl,lc,rfl,⟨_,SqL.of (S1 _ _ hlc)⟩,?_⟩
 refine for_enumL (K:=K) (xs:=ns.map V.int) (fun i σ' H'=>∃ (l:Addr) (xs:List V) (ws:List T) (o3 o4 o5 o6 o7:Option V),σ'=[some (.ref lc),some (.ref lt),some (.ref l),o3,o4,o5,o6,o7]∧Same H H'∧H' l=some (.lst xs)∧All2 (WRd K H') ws xs∧ws.length≤i∧T.partsL ws≤300 * i∧T.deepL ws≤40+4 * min i 56∧Dn ws i∧ws=wordsN ts ns i) ?_ ?_ ?_ ?_
 ·exact⟨p1,[],[],_,_,_,_,_,rfl,S1,upd_same,.nil,Nat.le_refl _,Nat.zero_le _,by rw [T.deepL_nil]; lia,Dn.nil,rfl⟩
 ·rintro i σ' H' _ ⟨l,xs,ws,o3,o4,o5,o6,o7,rfl,S,h1,_⟩
  exact SqL.of (S _ _ hlc)
 ·rintro i x σ' H2 p hx ⟨l,xs,ws,o3,o4,o5,o6,o7,rfl,S,hl,hw,hn,hp,hd,dn,hew⟩ gp
  rw [List.getElem?_map] at hx
  cases hi:ns[i]? with
  | none=>rw [hi] at hx; cases hx
  | some c =>
  rw [hi] at hx
  have hx:V.int c=x:=Option.some.inj hx
  subst hx
  have hlt99:i<ns.length:=(List.getElem?_eq_some_iff.mp hi).1
  have Sp:=same_new gp (.tup [.int i,.int c])
  have hl:=Sp _ _ hl
  have hw:=hw.imp fun _ _=>WRd.mono (Kt.of Sp)
  have S:=S.trans Sp
  have hxl:=hw.length
  have hp3:upd H2 p (.tup [.int i,.int c]) p=some (.tup [.int i,.int c]):=upd_same
  generalize upd H2 p (.tup [.int i,.int c])=H3 at *
  refine⟨p,_,rfl,SqT.of hp3,rfl,_,_,rfl,_,_,rfl,rfl,?_⟩
  refine setQ (fun v=>[some (.ref lc),some (.ref lt),some (.ref l),some (.int i),some (.int c),some v,o6,o7]) (fun _=>rfl) (fun v H'=>H'=H3∧∃ m:Nat,v=.int (m:Int)∧m≤ws.length∧m=manyF ws.length c) (fun R r=>⟨_,rfl,l,xs,rfl,.inl (SqL.of hl),_,rfl,c,30,5,rfl,by decide,fun j j0 j1 ej=>⟨_,_,rfl,r _ _ ⟨rfl,(if j<(xs.length:Int) then j else (xs.length:Int)).toNat,?_,?_,by unfold manyF; rw [← ej,hxl]⟩⟩⟩) (fun v4 H4 h4=>?_)
  ·rw [Int.toNat_of_nonneg (by split <;> lia)]
  ·split <;> lia
  obtain⟨rfl,m,rfl,hm,emm⟩:=h4
  refine setQ (fun v=>[some (.ref lc),some (.ref lt),some (.ref l),some (.int i),some (.int c),some (.int (m:Int)),some v,o7]) (fun _=>rfl) (fun v H'=>H'=H4∧∃ w':Int,v=.int w'∧0≤w'∧w'<8∧w'=pickZ c 27 8) (fun R r=>⟨_,rfl,c,27,8,rfl,by decide,fun j j0 j1 ej=>r _ _ ⟨rfl,j,rfl,j0,j1,ej⟩⟩) (fun v5 H5 h5=>?_)
  obtain⟨rfl,w0,rfl,w00,w08,ew0⟩:=h5
  refine ifSetQ (fun v=>[some (.ref lc),some (.ref lt),some (.ref l),some (.int i),some (.int c),some (.int (m:Int)),some v,o7]) (fun _=>rfl) (fun v H'=>H'=H5∧∃ w':Int,v=.int w'∧(4<w'→i≤55)∧w'=wayF i c) (.int w0) rfl (fun v6 H6 h6=>?_) (fun A B' hA hB=>⟨_,rfl,_,_,rfl,rfl,_,rfl,ite2 (fun h=>hA _ fun R r=>⟨_,rfl,_,_,rfl,rfl,(by show (0:Int)<5; decide),r _ _ ⟨rfl,w0 % 5,rfl,(fun z=>by have:=Int.emod_lt_of_pos w0 (show (0:Int)<5 by decide); lia),by have h55:=of_decide_eq_true h; unfold wayF; rw [if_pos (by lia),ew0]⟩⟩) (fun h=>hB _ ⟨rfl,w0,rfl,(fun _=>by have:¬ (55:Int)<(i:Int):=fun z=>h (decide_eq_true z); lia),by have h55:¬ (55:Int)<(i:Int):=(fun z=>h (decide_eq_true z)); unfold wayF; rw [if_neg (by lia),ew0]⟩)⟩)
  obtain⟨rfl,way,rfl,hway,ewy⟩:=h6
  have hcut:((xs.length:Int) - (m:Int))=((ws.length - m:Nat):Int):=by lia
  have etd:ws.take (ws.length - m)++ws.drop (ws.length - m)=ws:=List.take_append_drop _ ws
  have ptd:T.partsL (ws.take (ws.length - m))+T.partsL (ws.drop (ws.length - m))=T.partsL ws:=by rw [← T.partsL_append,etd]
  have dtd:max (T.deepL (ws.take (ws.length - m))) (T.deepL (ws.drop (ws.length - m)))=T.deepL ws:=by rw [← deepL_app,etd]
  have S0:=S
  refine setQ (fun v=>[some (.ref lc),some (.ref lt),some (.ref l),some (.int i),some (.int c),some (.int (m:Int)),some (.int way),some v]) (fun _=>rfl) (fun v H'=>Same H6 H'∧∃ t,WRd K H' t v∧(way≤4→B 30 200 t)∧(4<way→t.parts≤200+T.partsL (ws.drop (ws.length - m))∧t.deep≤3+T.deepL ws)∧(way≤4→∃ p,One t p)∧(4<way→Br (ws.drop (ws.length - m)) t)∧t=wordF c way ts (ws.drop (ws.length - m))) (fun R r=>⟨_,rfl,_,rfl,_,rfl,_,rfl,_,rfl,l,xs,rfl,.inl (SqL.of hl),_,rfl,_,_,rfl,rfl,_,rfl,l,xs,rfl,SqL.of hl,fun p7 g7=>?_⟩) (fun v7 H7 h7=>?_)
  ·have S7:=same_new g7 (.lst (cutV xs (some ((xs.length:Int) - (m:Int))) none))
   have S67:=S0.trans S7
   refine⟨c,way,lt,p7,xts,_,ts,ws.drop (ws.length - m),rfl,S67.seq hlt,Kids.mono (.of S67) htk,hne,hbt,SqL.of upd_same,?_,?_,by lia,fun r8 t H8 S8 h8 hpd h4 h5 o6 o7 o8=>r _ _ ⟨S7.trans S8,t,h8,h4,fun z=>⟨hpd.1,by have:=h5 z; lia⟩,o6,o7,o8⟩⟩
   ·have e2:=(hw.drop (ws.length - m)).imp fun _ _=>WRd.mono (Kt.of S7)
    rw [← cut_from xs (ws.length - m),← hcut] at e2
    exact e2
   ·rw [List.length_drop]
    lia
  obtain⟨S7,t,wt,wt4,wt5,wt6,wt7,wt8⟩:=h7
  have wt':WRd K H7 t v7:=wt
  refine ifSetQ (fun v=>[some (.ref lc),some (.ref lt),some v,some (.int i),some (.int c),some (.int (m:Int)),some (.int way),some v7]) (fun _=>rfl) (fun v H'=>Same H7 H'∧∃ l' xs' ws',v=.ref l'∧H' l'=some (.lst xs')∧All2 (WRd K H') ws' xs'∧ws'.length≤ws.length∧T.partsL ws'+t.parts≤T.partsL ws+200∧T.deepL ws'≤T.deepL ws∧t.deep+1≤40+4 * min (i+1) 56∧Dn (ws'++[t]) (i+1)∧ws'=if 4<way then ws.take (ws.length - m) else ws) (.ref l) rfl (fun v8 H8 h8=>?_) (fun A B' hA hB=>⟨_,rfl,_,_,rfl,rfl,_,rfl,ite2 (fun h=>hA _ fun R r=>⟨_,rfl,_,rfl,l,xs,rfl,.inl (SqL.of (S7 _ _ hl)),_,rfl,_,_,rfl,rfl,_,rfl,l,xs,rfl,SqL.of (S7 _ _ hl),fun p8 g8=>r _ _ ?_⟩) (fun h=>hB _ ?_)⟩)
  rotate_left
  ·have h5:=of_decide_eq_true h
   have hi55:=hway h5
   have hw5:=wt5 h5
   have S8:=same_new g8 (.lst (cutV xs none (some ((xs.length:Int) - (m:Int)))))
   refine⟨S8,p8,_,ws.take (ws.length - m),rfl,upd_same,?_,by rw [List.length_take]; lia,by lia,by lia,by lia,Dn.br (by rw [etd]; exact dn) (wt7 h5),by rw [if_pos h5]⟩
   have e2:=(hw.take (ws.length - m)).imp fun _ _=>WRd.mono (Kt.of (S7.trans S8))
   rw [← cut_to xs (ws.length - m),← hcut] at e2
   exact e2
  ·have h5:¬ 4<way:=fun z=>h (decide_eq_true z)
   have b4:=wt4 (by lia)
   exact⟨Same.refl _,l,xs,ws,rfl,S7 _ _ hl,hw.imp fun _ _=>WRd.mono (Kt.of S7),Nat.le_refl _,by have:=b4.2; lia,Nat.le_refl _,by have:=b4.1; lia,by obtain⟨p,ho⟩:=wt6 (by lia); exact dn.one ho b4,by rw [if_neg h5]⟩
  obtain⟨S8,l',xs',ws',rfl,hl',hw',hn',hp',hd',ht',dn',ews'⟩:=h8
  have hxl':=hw'.length
  refine⟨_,rfl,_,rfl,(by show 1≤sizeLine; decide),fun p9 g9=>⟨l',p9,xs',[v7],rfl,rfl,(same_new g9 _) _ _ hl',upd_same,small (by show xs'.length+1≤_; lia),fun p10 g10=>?_⟩⟩
  have s9:=(same_new g9 (.lst [v7])).trans (same_new g10 (.lst (xs'++[v7])))
  refine⟨p10,xs'++[v7],ws'++[t],_,_,_,_,_,rfl,S0.trans (S7.trans (S8.trans s9)),upd_same,(hw'.imp fun _ _=>WRd.mono (Kt.of s9)).append (All2.one (wt'.mono (Kt.of (S8.trans s9)))),?_,?_,?_,dn',by rw [wordsN,← hew,getD_of hi]; unfold wStep; rw [← ewy,← emm,← wt8,← ews']⟩
  ·rw [List.length_append,List.length_singleton]
   lia
  ·rw [T.partsL_append,T.partsL_cons,T.partsL_nil]
   lia
  ·rw [deepL_app,T.deepL_cons,T.deepL_nil]
   lia
 ·rintro σ' H' ⟨l,xs,ws,o3,o4,o5,o6,o7,rfl,S,hl,hw,hn,hp,hd,dn,hew⟩
  rw [List.length_map] at hn hp hd dn hew
  exact⟨_,rfl,q l xs ws H' S hl hw (by lia) (by lia) (by lia) (dn.mono h99) hew⟩
end
end Sw25
namespace Sw25
open PySem PySem.Spec PyProof.Rows L2 Sw
section
variable {P:Program}{w:World}{K:PySem.W.Frag}{mg:Str→Option Value}{base:Heap}{f:Addr}{fd:FuncData}
def spDrawnW (K:PySem.W.Frag):Sp:=fun vs H Q _=>∃ (l:Addr) (ns:List Int),vs=[.ref l,.int 2]∧SqL K H l (ns.map V.int)∧ns.length≤63 ∧
 ∀ l xs ws H',Same H H'→H' l=some (.lst xs)→All2 (WRd K H') ws xs→ws.length≤99→T.partsL ws≤30000→T.deepL ws≤300→Dn ws 99→ws=drawnF ns→Q (.ref l) H'
theorem one_parts {w:T}{p:List Nat} (h:One w p):w.parts≤p.length+12:=(one_small (f:=w.deep+(loadT w).deep) h (by
 intro c l t e ht
 cases h with
 | odd ho=>cases e; rw [treeP_wr] at ht; cases ht; lia
 | lay ho hs=>cases e; rw [treeP_wr] at ht; cases ht; lia
 | plain ho h1 h6=>exact flat_nm h1 h6 c l t e ht)).2
mutual
theorem wr_parts:∀ {w:T}{ps:List (List Nat)},Wr w ps→w.parts≤lenP ps
 | w,_,.odd h=>by have:=one_parts (One.odd h); rw [lenP,lenP]; lia
 | w,_,.lay h hs=>by have:=one_parts (One.lay h hs); rw [lenP,lenP]; lia
 | w,_,.plain h h1 h6=>by have:=one_parts (One.plain h h1 h6); rw [lenP,lenP]; lia
 | w,_,.fork (ps:=ps) (qs:=qs) h hs hy hn=>by
  have e:=fork_of h hs
  have s:=(fork_small (ats (loadT w).kids 0).kids (loadT (loadT w)).kids).2
  rw [← e] at s
  have a1:=ts_parts hy
  have b1:=ts_parts hn
  have e1:lenP [nmC 7,[91]]=29:=by decide
  rw [lenP_app,lenP_app,lenP_app,lenP_app]
  lia
 | w,_,.loop (ps:=ps) h hs hb=>by
  have e:=loop_of h hs
  have s:=(loop_small (loadT w).kids).2
  rw [← e] at s
  have a1:=ts_parts hb
  have e1:lenP [nmC 8,[91]]=30:=by decide
  rw [lenP_app,lenP_app]
  lia
theorem ts_parts:∀ {ws:List T}{ps:List (List Nat)},Ts ws ps→T.partsL ws≤lenP ps
 | _,_,.nil=>by rw [T.partsL_nil]; lia
 | _,_,.cons h g=>by
  have a1:=wr_parts h
  have b1:=ts_parts g
  rw [T.partsL_cons,lenP_app]
  lia
end
mutual
theorem wr_deep {f:Nat}:∀ {w:T}{ps:List (List Nat)},Wr w ps→(∀ p∈ps,FlatQ f p)→w.deep≤f+2+2 * nP [93] ps
 | w,_,.odd h,hf=>by have:=(one_small (One.odd h) (hf _ List.mem_cons_self)).1; lia
 | w,_,.lay h hs,hf=>by have:=(one_small (One.lay h hs) (hf _ List.mem_cons_self)).1; lia
 | w,_,.plain h h1 h6,hf=>by have:=(one_small (One.plain h h1 h6) (hf _ List.mem_cons_self)).1; lia
 | w,_,.fork (ps:=ps) (qs:=qs) h hs hy hn,hf=>by
  have e:=fork_of h hs
  have s:=(fork_small (ats (loadT w).kids 0).kids (loadT (loadT w)).kids).1
  rw [← e] at s
  have a1:=ts_deep (f:=f) hy (fun q hq=>hf q (by simp [hq]))
  have b1:=ts_deep (f:=f) hn (fun q hq=>hf q (by simp [hq]))
  have e1:nP [93] [[93]]=1:=by decide
  rw [nP_app,nP_app,nP_app,nP_app]
  lia
 | w,_,.loop (ps:=ps) h hs hb,hf=>by
  have e:=loop_of h hs
  have s:=(loop_small (loadT w).kids).1
  rw [← e] at s
  have a1:=ts_deep (f:=f) hb (fun q hq=>hf q (by simp [hq]))
  have e1:nP [93] [[93]]=1:=by decide
  rw [nP_app,nP_app]
  lia
theorem ts_deep {f:Nat}:∀ {ws:List T}{ps:List (List Nat)},Ts ws ps→(∀ p∈ps,FlatQ f p)→T.deepL ws≤f+3+2 * nP [93] ps
 | _,_,.nil,_=>by rw [T.deepL_nil]; lia
 | _,_,.cons h g,hf=>by
  have a1:=wr_deep (f:=f) h (fun q hq=>hf q (List.mem_append.mpr (.inl hq)))
  have b1:=ts_deep (f:=f) g (fun q hq=>hf q (List.mem_append.mpr (.inr hq)))
  rw [T.deepL_cons,nP_app]
  lia
end
theorem flat_lenP (ps:List (List Nat)):ps.flatten.length+ps.length≤lenP ps:=by
 induction ps with
 | nil=>exact Nat.zero_le _
 | cons p l ih=>rw [List.flatten_cons,List.length_append,List.length_cons,lenP]; lia
theorem join_lenP (ps:List (List Nat)):(joinL [32] ps).length≤lenP ps:=by
 have h1:=joinL_len [32] ps
 have h3:=flat_lenP ps
 simp only [List.length_singleton,Nat.mul_one] at h1
 lia
theorem ts_pss:∀ {ws:List T}{ps:List (List Nat)},Ts ws ps→∃ pss:List (List (List Nat)),All2 Wr ws pss∧pss.flatten=ps
 | _,_,.nil=>⟨[],.nil,rfl⟩
 | _,_,.cons h g=>by
  obtain⟨pss,h1,h2⟩:=ts_pss g
  exact⟨_::pss,.cons h h1,by rw [List.flatten_cons,h2]⟩
theorem pss_mem:∀ {pss:List (List (List Nat))}{qs:List (List Nat)},qs∈pss→(∀ p∈qs,p∈pss.flatten)∧nP [93] qs≤nP [93] pss.flatten∧lenP qs≤lenP pss.flatten
 | p::pss,qs,h=>by
  rw [List.flatten_cons,nP_app,lenP_app]
  rcases List.mem_cons.mp h with z | z
  ·subst z
   exact⟨fun p hp=>List.mem_append.mpr (.inl hp),by lia,by lia⟩
  ·obtain⟨h1,h2,h3⟩:=pss_mem z
   exact⟨fun p hp=>List.mem_append.mpr (.inr (h1 p hp)),by lia,by lia⟩
theorem wr_fork {w:T}{ps:List (List Nat)} (h:Wr w ps) (ho:oddT w=false) (hs:sortT w=7):∃ py pn,ps=[nmC 7,[91]]++py++[[124]]++pn++[[93]]∧Ts (ats (loadT w).kids 0).kids py∧Ts (loadT (loadT w)).kids pn:=by
 cases h with
 | odd h=>rw [ho] at h; cases h
 | lay _ z=>lia
 | plain _ _ z=>lia
 | fork _ _ hy hn=>exact⟨_,_,rfl,hy,hn⟩
 | loop _ z _=>lia
theorem wr_loop {w:T}{ps:List (List Nat)} (h:Wr w ps) (ho:oddT w=false) (hs:sortT w=8):∃ pb,ps=[nmC 8,[91]]++pb++[[93]]∧Ts (loadT w).kids pb:=by
 cases h with
 | odd h=>rw [ho] at h; cases h
 | lay _ z=>lia
 | plain _ _ z=>lia
 | fork _ z _ _=>lia
 | loop _ _ hb=>exact⟨_,rfl,hb⟩
theorem head_cons (u:T) (us:List T):headOdd (.node (u::us))=u.kids.any fun t=>!T.beq t leaf:=by
 unfold headOdd
 rw [beq_no (by intro z; cases z)]
 rfl
theorem any_all (ts:List T):(!(ts.any fun t=>!T.beq t leaf))=(ts.map fun t=>T.beq t leaf).all id:=by
 induction ts with
 | nil=>rfl
 | cons t ts ih=>rw [List.any_cons,Bool.not_or,ih,List.map_cons,List.all_cons,Bool.not_not]; rfl
def spBr (K:PySem.W.Frag) (n:Nat):Sp:=fun vs H Q _=>∃ x t,vs=[x]∧TR K H t x∧t.deep≤n∧t.parts≤100000∧∀ H',Same H H'→Q (.str (tx t.wr)) H'
def spIsPl (K:PySem.W.Frag):Sp:=fun vs H Q _=>∃ x w,vs=[x]∧TR K H w x∧w.deep≤400∧w.parts≤100000∧∀ H',Same H H'→Q (.bl (!headOdd w)) H'
def spWW (K:PySem.W.Frag) (n:Nat):Sp:=fun vs H Q _=>∃ x w ps fb,vs=[x]∧TR K H w x∧Wr w ps∧(∀ p∈ps,FlatQ fb p)∧fb+2 * nP [93] ps+3≤n∧n≤401∧lenP ps≤90000∧∀ H',Same H H'→Q (.str (tx (joinL [32] ps))) H'
def spWT (K:PySem.W.Frag) (n:Nat):Sp:=fun vs H Q _=>∃ x ws ps fb,vs=[x]∧TR K H (.node ws) x∧Ts ws ps∧(∀ p∈ps,FlatQ fb p)∧fb+2 * nP [93] ps+4≤n∧n≤401∧lenP ps≤90000∧∀ H',Same H H'→Q (.str (tx (joinL [32] ps))) H'
theorem ok__law_drawn (m_range:mg "range"=none)
  {a__law_at:Addr}{d__law_at:FuncData} (F__law_at:Fun K "_law_at" "_law_at" s__law_at a__law_at d__law_at) (G__law_at:FnOk P w K mg base CX0 35 a__law_at d__law_at ["_law_script","_law_k"] (spAtD K)) (b__law_at:Binds K d__law_at ["_law_script","_law_k"] []) (m__law_at:mg "_law_at"=some (.ref a__law_at))
  {a__law_pick:Addr}{d__law_pick:FuncData} (F__law_pick:Fun K "_law_pick" "_law_pick" s__law_pick a__law_pick d__law_pick) (G__law_pick:FnOk P w K mg base CX0 35 a__law_pick d__law_pick ["_law_cell","_law_turn","_law_many"] spPickD) (b__law_pick:Binds K d__law_pick ["_law_cell","_law_turn","_law_many"] []) (m__law_pick:mg "_law_pick"=some (.ref a__law_pick))
  {a__law_grown:Addr}{d__law_grown:FuncData} (F__law_grown:Fun K "_law_grown" "_law_grown" s__law_grown a__law_grown d__law_grown) (G__law_grown:FnOk P w K mg base CX0 35 a__law_grown d__law_grown ["_law_cells"] (spGrownP K)) (b__law_grown:Binds K d__law_grown ["_law_cells"] []) (m__law_grown:mg "_law_grown"=some (.ref a__law_grown))
  {a__law_words:Addr}{d__law_words:FuncData} (F__law_words:Fun K "_law_words" "_law_words" s__law_words a__law_words d__law_words) (G__law_words:FnOk P w K mg base CX0 35 a__law_words d__law_words ["_law_cells","_law_trees"] (spWordsX K)) (b__law_words:Binds K d__law_words ["_law_cells","_law_trees"] []) (m__law_words:mg "_law_words"=some (.ref a__law_words))
  (F:Fun K "_law_drawn" "_law_drawn" s__law_drawn f fd):FnOk P w K mg base CX0 36 f fd ["_law_script","_law_start"] (spDrawnW K):=by
 refine okQ F sc__law_drawn (fun vs H Q E h=>?_) (fun cdv A outer s H vs Q E hr h=>?_)
 ·obtain⟨l,ns,rfl,_⟩:=h
  rfl
 obtain⟨l,ns,rfl,hl,h63,q⟩:=h
 refine⟨_,(qss_cons (qs_set (i:=2) sc__law_drawn.nd rfl (Or.inl rfl) (qe_slice sl_list (qv 0) (qo_some (qv 1)) (qo_some (qe_op op_add (qv 1) qe_int))))
   (qss_cons (qs_if (qt_cmpR op_eq (qe_op op_mod (qe_call G__law_at hr rfl m__law_at F__law_at.kp b__law_at .nil pass0 (qa_cons (qv 0) (qa_cons qe_int qa_nil))) qe_int) qe_int (nomark _)) (qss_one (qs_setLC (i:=2) sc__law_drawn.nd rfl (Or.inl rfl) rfl (lc_free (fr:=["_law_script"]) (js:=[0]) (sc:=defScope s__law_drawn) rfl rfl rfl (by decide +kernel) (by decide +kernel) (by decide +kernel) (by decide +kernel) (by exact⟨⟨rfl,rfl,rfl⟩,trivial⟩) (by decide +kernel) (fun y hy=>cell_has hy)) (qi_range1 rfl m_range (qa_cons (qe_op op_mod (qe_op op_fdiv (qe_call G__law_at hr rfl m__law_at F__law_at.kp b__law_at .nil pass0 (qa_cons (qv 0) (qa_cons qe_int qa_nil))) qe_int) qe_int) qa_nil)) (fun _ _ _ _ _=>(qe_call G__law_pick hr rfl m__law_pick F__law_pick.kp b__law_pick .nil pass0 (qa_cons (qe_op op_add (qe_call G__law_at hr rfl m__law_at F__law_at.kp b__law_at .nil pass0 (qa_cons (qv 1) (qa_cons qe_int qa_nil))) (qv 0)) (qa_cons qe_int (qa_cons qe_int qa_nil))))))) qss_nil)
   (qss_cons (qs_set (i:=3) sc__law_drawn.nd rfl (Or.inl rfl) (qe_op op_cat (qe_lst (qa_cons (qe_tup (qa_cons (qe_tup qa_nil) (qa_cons qe_str qa_nil))) qa_nil)) (qe_call G__law_grown hr rfl m__law_grown F__law_grown.kp b__law_grown .nil pass0 (qa_cons (qe_lc rfl (lc_free (fr:=["_law_script"]) (js:=[0]) (sc:=defScope s__law_drawn) rfl rfl rfl (by decide +kernel) (by decide +kernel) (by decide +kernel) (by decide +kernel) (by exact⟨⟨rfl,rfl,rfl⟩,trivial⟩) (by decide +kernel) (fun y hy=>cell_has hy)) (qi_range1 rfl m_range (qa_cons qe_int qa_nil)) (fun _ _ _ _ _=>(qe_op op_add (qe_call G__law_at hr rfl m__law_at F__law_at.kp b__law_at .nil pass0 (qa_cons (qv 1) (qa_cons (qe_op op_add qe_int (qv 0)) qa_nil))) (qv 0)))) qa_nil))))
   (qss_one (qs_ret (qe_call G__law_words hr rfl m__law_words F__law_words.kp b__law_words .nil pass0 (qa_cons (qv 2) (qa_cons (qv 3) qa_nil)))))))),?_⟩
 refine setQ (fun v=>[some (.ref l),some (.int 2),some v,none]) (fun _=>rfl) (fun v H'=>Same H H'∧∃ (lc:Addr) (ms:List Int),v=.ref lc∧H' lc=some (.lst (ms.map V.int))∧ms.length≤99∧ms=(ns.drop (min 2 ns.length)).take (min 58 ns.length - min 2 ns.length)) (fun R r=>?_) (fun v1 H1 h1=>?_)
 ·refine⟨_,rfl,_,rfl,2,rfl,_,rfl,_,_,rfl,rfl,58,rfl,l,_,rfl,hl,fun p1 g1=>r _ _ ⟨same_new g1 _,?_⟩⟩
  exact⟨p1,_,rfl,by rw [upd_same,cut258],by rw [List.length_take,List.length_drop]; lia,rfl⟩
 obtain⟨S1,lc1,ms1,rfl,hc1,hm1,em1⟩:=h1
 refine ifSetQ (fun v=>[some (.ref l),some (.int 2),some v,none]) (fun _=>rfl) (fun v H'=>Same H H'∧∃ (lc:Addr) (ms:List Int),v=.ref lc∧H' lc=some (.lst (ms.map V.int))∧ms.length≤99∧ms=cellsF ns) (.ref lc1) rfl (fun v2 H2 h2=>?_) (fun A B' hA hB=>⟨_,rfl,l,0,ns,rfl,S1.seq hl,by decide,fun i0 H2 S2 ei0=>⟨_,_,rfl,rfl,(by show (0:Int)<6; decide),rfl,_,rfl,ite2 (fun h=>hA _ fun R r=>?_) (fun h=>hB _ ⟨S1.trans S2,lc1,ms1,rfl,S2 _ _ hc1,hm1,by unfold cellsF; rw [if_neg (fun z=>h (by rw [ei0]; exact decide_eq_true (p:=V.int (atZ ns 0 % 6)=V.int 1) (by rw [z]))),em1]⟩)⟩⟩)
 rotate_left
 ·refine⟨_,rfl,l,0,ns,rfl,(S1.trans S2).seq hl,by decide,fun i1 H3 S3 ei1=>⟨_,_,rfl,rfl,⟨by decide,by decide⟩,_,_,rfl,rfl,(by show (0:Int)<100; decide),_,rfl,?_⟩⟩
  have m0:0≤i1 / 6 % 100:=Int.emod_nonneg _ (by decide)
  have m1:i1 / 6 % 100<100:=Int.emod_lt_of_pos _ (by decide)
  have h:=V.int.inj (of_decide_eq_true h)
  refine⟨by lia,by lia,lc_numsD (n:=(i1 / 6 % 100).toNat) (fun k:Nat=>pickZ (atZ ns 1+(k:Int)) 31 999983) (small (by lia)) (fun i H4 R4 hi S4 r4=>⟨_,rfl,l,1,ns,rfl,(S1.trans (S2.trans (S3.trans S4))).seq hl,by decide,fun i2 H5 S5 ei2=>⟨_,rfl,_,_,rfl,rfl,_,_,_,rfl,by decide,fun z _ _ ez=>(by rw [ez,ei2,Int.zero_add]; exact r4 _ S5)⟩⟩) (fun D H4 S4 h4=>r _ _ ⟨S1.trans (S2.trans (S3.trans S4)),D,_,rfl,h4,by rw [List.length_map,List.length_range]; lia,by unfold cellsF; rw [if_pos (by rw [← ei0]; exact h),ei1]⟩)⟩
 obtain⟨S2,lc2,ms2,rfl,hc2,hm2,em2⟩:=h2
 refine setQ (fun v=>[some (.ref l),some (.int 2),some (.ref lc2),some v]) (fun _=>rfl) (fun v H'=>Same H2 H'∧∃ (lt:Addr) (xts:List V) (ts:List T),v=.ref lt∧H' lt=some (.lst xts)∧Kids K H' ts xts∧ts≠[]∧(∀ t∈ts,B 20 60 t)∧ts=leaf::grownN ((List.range 9).map fun k:Nat=>atZ ns (2+(k:Int))+(k:Int)) 9) (fun R r=>?_) (fun v3 H3 h3=>?_)
 ·refine⟨Nat.zero_le _,fun p3 g3=>⟨(by show 2≤sizeLine; decide),fun p4 g4=>⟨(by show 1≤sizeLine; decide),fun p5 g5=>?_⟩⟩⟩
  obtain⟨S3,t3⟩:=tupN (K:=K) (ts:=[]) g3 (TRs_nil.mpr rfl)
  have S4:=same_new g4 (.tup [.ref p3,.str (PySem.Str.ofString "()")])
  have k4:KidR K (upd (upd H2 p3 (.tup [])) p4 (.tup [.ref p3,.str (PySem.Str.ofString "()")])) (.node []) (.ref p4):=⟨p4,.ref p3,rfl,SqT.of (by rw [upd_same,tx_leaf]; rfl),t3.mono (.of S4)⟩
  have S5:=same_new g5 (.lst [V.ref p4])
  have h5:=upd_same (H:=upd (upd H2 p3 (.tup [])) p4 (.tup [.ref p3,.str (PySem.Str.ofString "()")])) (a:=p5) (o:=.lst [V.ref p4])
  have k5:=k4.mono (.of S5)
  have S25:=S3.trans (S4.trans S5)
  generalize upd (upd (upd H2 p3 (.tup [])) p4 (.tup [.ref p3,.str (PySem.Str.ofString "()")])) p5 (.lst [V.ref p4])=H5 at S25 k5 h5
  refine⟨9,rfl,by decide,by decide,lc_numsD (n:=9) (fun k:Nat=>atZ ns (2+(k:Int))+(k:Int)) (small (by lia)) (fun i H6 R6 hi S6 r6=>⟨_,rfl,_,rfl,_,_,rfl,rfl,l,_,ns,rfl,(S2.trans (S25.trans S6)).seq hl,by lia,fun i2 H7 S7 ei2=>⟨_,rfl,_,_,rfl,rfl,(by rw [ei2,Int.zero_add]; exact r6 _ S7)⟩⟩) (fun D H6 S6 h6=>⟨D,_,rfl,SqL.of h6,by rw [List.length_map,List.length_range]; lia,fun r7 xs7 ts7 H7 S7 h7 k7 z7 _ e7=>?_⟩)⟩
  rw [List.length_map,List.length_range] at z7 e7
  have hx7:=k7.length
  have hp7:=T.len_le_parts ts7
  refine⟨p5,r7,_,xs7,rfl,rfl,(S6.trans S7) _ _ h5,h7,small (by show 1+xs7.length≤_; lia),fun p8 g8=>r _ _ ⟨S25.trans (S6.trans (S7.trans (same_new g8 _))),p8,_,.node []::ts7,rfl,upd_same,?_,by simp,(fun t ht=>?_),by rw [e7]; rfl⟩⟩
  ·have S8:=same_new g8 (.lst ([V.ref p4]++xs7))
   exact All2.cons (k5.mono (.of (S6.trans (S7.trans S8)))) (k7.imp fun _ _ z=>z.mono (.of S8))
  ·rcases List.mem_cons.mp ht with rfl | ht
   ·exact⟨by rw [T.deep_node,T.deepL_nil]; lia,by rw [T.parts_node,T.partsL_nil]; lia⟩
   ·have h1:=T.mem_parts ht
    have h2:=T.deep_lt t
    exact⟨by lia,by lia⟩
 obtain⟨S3,lt,xts,ts,rfl,hlt,hkt,hne,hbt,ets⟩:=h3
 exact⟨_,rfl,_,rfl,lc2,lt,ms2,xts,ts,rfl,S3 _ _ hc2,hm2,SqL.of hlt,hkt,hne,hbt,fun l' xs ws H' S' h1 h2 h3 h4 h5 h6 h7=>q l' xs ws H' (S2.trans (S3.trans S')) h1 h2 h3 h4 h5 h6 (by rw [h7,em2,ets]; rfl)⟩
theorem okN_brackets
  {a_t:Addr}{d_t:FuncData} (F__law_brackets:Fun K "_law_brackets" "_law_brackets" s__law_brackets a_t d_t) (b__law_brackets:Binds K d_t ["_law_tree"] []) (m__law_brackets:mg "_law_brackets"=some (.ref a_t)) :
  ∀ n:Nat,FnOk P w K mg base CX0 (32+n) a_t d_t ["_law_tree"] (spBr K n):=by
 have step:∀ n:Nat,∀ (sp:Sp),FnOk P w K mg base CX0 (31+n) a_t d_t ["_law_tree"] sp→(∀ x t H Q E,TR K H t x→t.deep+1≤n→t.parts≤100000→(∀ H',Same H H'→Q (.str (tx t.wr)) H')→sp [x] H Q E)→FnOk P w K mg base CX0 (32+n) a_t d_t ["_law_tree"] (spBr K n):=by
  intro n sp G__law_brackets hsp
  have e32:32+n=(31+n)+1:=by lia
  rw [e32]
  refine okQ (k:=31+n) F__law_brackets sc__law_brackets (fun vs H Q E h=>?_) (fun cdv A outer s H vs Q E hr h=>?_)
  ·obtain⟨x,t,rfl,_⟩:=h
   rfl
  obtain⟨x,t,rfl,ht,hd,hp,q⟩:=h
  refine⟨_,(qss_one (qs_ret (qe_op op_add_str (qe_op op_add_str qe_str (qe_bm PySem.F.plainAttrs_str PySem.F.slot_str_join PySem.F.type_str_join mt_join qe_str (qa_cons (qe_lc rfl (lc_free (fr:=[]) (js:=[]) (sc:=defScope s__law_brackets) rfl rfl rfl (by decide +kernel) (by decide +kernel) (by decide +kernel) (by decide +kernel) (by exact trivial) (by decide +kernel) (fun y hy=>cell_has hy)) (qi_tup (qv 0)) (fun _ _ _ _ _=>(qe_call G__law_brackets hr rfl m__law_brackets F__law_brackets.kp b__law_brackets .nil pass0 (qa_cons (qv 0) qa_nil)))) qa_nil))) qe_str))),?_⟩
  cases t with
  | node ts =>
  obtain⟨a,xs,rfl,ha,ra⟩:=TR_node.mp ht
  have hl:=ra.length
  have hlp:=T.len_le_parts ts
  have hwl:=T.wrL_len ts
  rw [T.parts_node] at hp
  refine⟨rfl,_,rfl,a,rfl,⟨xs,ha⟩,?_⟩
  refine lc_tupI (K:=K) (xs:=xs) (fun D i ys H'=>H D=none∧Same H H'∧H' D=some (.lst ys)∧ys=((ts.take i).map T.wr).map (fun c=>V.str (tx c))∧i≤ts.length) (small (by lia)) (fun D hD=>⟨hD,same_new hD _,upd_same,rfl,Nat.zero_le _⟩) (fun D i ys H' j=>⟨j.2.2.1,?_,sqT_mono (.of j.2.1) ha⟩) (fun D i x ys H' R hx j hR=>?_) (fun D ys H' j=>?_)
  ·rw [j.2.2.2.1,List.length_map,List.length_map,List.length_take]
   exact Nat.min_eq_left j.2.2.2.2
  ·obtain⟨hD,S,h1,h2,_⟩:=j
   obtain⟨u,hu,hxu⟩:=ra.get hx
   have hm:=List.mem_of_getElem? hu
   have hud:=T.mem_deep hm
   have hup:=T.mem_parts hm
   rw [T.deep_node] at hd
   refine⟨_,rfl,hsp x u H' _ _ (hxu.mono (.of S)) (by lia) (by lia) fun H3 S3=>?_⟩
   refine hR _ _ (S3 _ _ h1) ⟨hD,same_upd (S.trans S3) hD,upd_same,?_,(List.getElem?_eq_some_iff.mp hu).1⟩
   rw [h2,List.take_succ,hu,List.map_append,List.map_append]
   rfl
  ·obtain⟨hD,S,h1,h2,_⟩:=j
   rw [List.take_of_length_le (by lia)] at h2
   refine⟨D,ts.map T.wr,tx_nil ▸ rfl,rfl,SqL.of (by rw [h1,h2]),?_,?_⟩
   ·rw [T.wrL_flat]; lia
   rw [T.wrL_flat]
   have e8:(Str.ofString "(":Str)=tx [40]:=tx_lp
   have e9:(Str.ofString ")":Str)=tx [41]:=tx_rp
   refine⟨_,_,rfl,rfl,?_,?_⟩
   ·rw [e8,tx_len,tx_len]; exact small (by simp only [List.length_cons,List.length_nil]; lia)
   refine⟨_,_,rfl,rfl,?_,?_⟩
   ·rw [e8,e9,tx_append,tx_len,tx_len]; exact small (by simp only [List.length_cons,List.length_nil,List.length_append]; lia)
   have ew:(Str.ofString "("++tx (T.wrL ts)++Str.ofString ")":Str)=tx (T.node ts).wr:=by
    rw [e8,e9,tx_append,tx_append,T.wr_node]; rfl
   rw [ew]
   exact q _ S
 intro n
 induction n with
 | zero =>
  refine step 0 (fun _ _ _ _=>False) ?_ (fun x t H Q E _ h=>absurd h (by lia))
  refine okQ (k:=30) F__law_brackets sc__law_brackets (fun vs H Q E h=>h.elim) (fun cdv A outer s H vs Q E hr h=>h.elim)
 | succ n ih =>
  refine step (n+1) (spBr K n) ?_ (fun x t H Q E h1 h2 h3 h4=>⟨x,t,rfl,h1,by lia,h3,h4⟩)
  have e:31+(n+1)=32+n:=by lia
  rw [e]
  exact ih
theorem ok__law_is_plain (m_all:mg "all"=none) (m_len:mg "len"=none)
  (F:Fun K "_law_is_plain" "_law_is_plain" s__law_is_plain f fd):FnOk P w K mg base CX0 31 f fd ["_law_word_here"] (spIsPl K):=by
 refine okQ F sc__law_is_plain (fun vs H Q E h=>?_) (fun cdv A outer s H vs Q E hr h=>?_)
 ·obtain⟨x,w,rfl,_⟩:=h
  rfl
 obtain⟨x,w,rfl,ht,hd,hp,q⟩:=h
 have hE:=hr.un
 have hE:(A.deeper (envOfC "_law_is_plain" (defScope s__law_is_plain) s.heap.objs.size f cdv)).units+401<cLine:=by lia
 refine⟨_,(qss_one (qs_ret (qe_and (qe_cmpR op_gt (qe_callB call_len_seq rfl m_len bt_len (qa_cons (qv 0) qa_nil)) qe_int (nomark _)) (qe_one (qe_callB (call_all rfl) rfl m_all bt_all (qa_cons (qe_lc rfl (lc_free (fr:=[]) (js:=[]) (sc:=defScope s__law_is_plain) rfl rfl rfl (by decide +kernel) (by decide +kernel) (by decide +kernel) (by decide +kernel) (by exact trivial) (by decide +kernel) (fun y hy=>cell_has hy)) (qi_tup (qe_ix ix_tup (qv 0) qe_int (fun _ _=>rfl))) (fun _ _ _ _ _=>(qe_cmpR (op_eqTrK (K:=K) rfl rfl hE) (qv 0) (qe_tup qa_nil) (nomark _)))) qa_nil)))))),?_⟩
 cases w with
 | node ts =>
 obtain⟨a,xs,rfl,ha,ra⟩:=TR_node.mp ht
 have hl:=ra.length
 cases ts with
 | nil =>
  have hx:xs=[]:=List.length_eq_zero_iff.mp (by rw [hl]; rfl)
  subst hx
  refine⟨_,rfl,a,_,rfl,.inr ha,_,_,rfl,rfl,_,rfl,iteFb rfl ?_⟩
  exact q _ (Same.refl _)
 | cons u us =>
  obtain⟨y,ys,rfl,hy,_⟩:=TRs_cons.mp ra
  refine⟨_,rfl,a,_,rfl,.inr ha,_,_,rfl,rfl,_,rfl,iteTb (decide_eq_true (by show (0:Int)<((y::ys).length:Int); rw [List.length_cons]; lia)) ?_⟩
  obtain⟨a2,xs2,rfl,q2,r2⟩:=TR_of hy
  have hud:T.deepL u.kids≤399:=by rw [T.deep_node,T.deepL_cons] at hd; rw [← deep_eq]; lia
  have hup:=T.len_le_parts u.kids
  have hup2:=T.parts_kids u
  rw [T.parts_node,T.partsL_cons] at hp
  refine⟨_,rfl,a,_,0,_,rfl,rfl,ha,atI_nat (j:=0) rfl,a2,rfl,⟨_,q2⟩,lc_mapT (fun t=>.bl (T.beq t leaf)) q2 r2 (small (by rw [r2.length]; lia)) (fun t z H' R hm S tz hR=>⟨_,rfl,Nat.zero_le _,fun p3 g3=>⟨t,leaf,tz.mono (.new g3),leaf_tr upd_same,by have:=T.mem_deep hm; lia,hR _ (same_new g3 _)⟩⟩) (fun D H3 S3 h3=>?_)⟩
  refine⟨D,u.kids.map fun t=>T.beq t leaf,rfl,SqL.of (by rw [h3,List.map_map]; rfl),?_⟩
  rw [head_cons,any_all] at q
  exact q _ S3
theorem okN_written (m_len:mg "len"=none)
  {a__law_is_plain:Addr}{d__law_is_plain:FuncData} (F__law_is_plain:Fun K "_law_is_plain" "_law_is_plain" s__law_is_plain a__law_is_plain d__law_is_plain) (b__law_is_plain:Binds K d__law_is_plain ["_law_word_here"] []) (m__law_is_plain:mg "_law_is_plain"=some (.ref a__law_is_plain))
  {a__law_between:Addr}{d__law_between:FuncData} (F__law_between:Fun K "_law_between" "_law_between" s__law_between a__law_between d__law_between) (b__law_between:Binds K d__law_between ["_law_some"] []) (m__law_between:mg "_law_between"=some (.ref a__law_between))
  {a__law_brackets:Addr}{d__law_brackets:FuncData} (F__law_brackets:Fun K "_law_brackets" "_law_brackets" s__law_brackets a__law_brackets d__law_brackets) (b__law_brackets:Binds K d__law_brackets ["_law_tree"] []) (m__law_brackets:mg "_law_brackets"=some (.ref a__law_brackets))
  (G0_plain:FnOk P w K mg base CX0 31 a__law_is_plain d__law_is_plain ["_law_word_here"] (spIsPl K)) (G0_between:FnOk P w K mg base CX0 31 a__law_between d__law_between ["_law_some"] (spBetween K)) (G0_brackets:∀ n:Nat,FnOk P w K mg base CX0 (32+n) a__law_brackets d__law_brackets ["_law_tree"] (spBr K n))
  {a__law_written:Addr}{d__law_written:FuncData} (F__law_written:Fun K "_law_written" "_law_written" s__law_written a__law_written d__law_written) (b__law_written:Binds K d__law_written ["_law_text_here"] []) (m__law_written:mg "_law_written"=some (.ref a__law_written))
  {a__law_written_word:Addr}{d__law_written_word:FuncData} (F__law_written_word:Fun K "_law_written_word" "_law_written_word" s__law_written_word a__law_written_word d__law_written_word) (b__law_written_word:Binds K d__law_written_word ["_law_word_here"] []) (m__law_written_word:mg "_law_written_word"=some (.ref a__law_written_word)) :
  ∀ n:Nat,FnOk P w K mg base CX0 (33+n) a__law_written_word d__law_written_word ["_law_word_here"] (spWW K n)∧FnOk P w K mg base CX0 (33+n) a__law_written d__law_written ["_law_text_here"] (spWT K n):=by
 intro n
 induction n with
 | zero =>
  refine⟨okQ (k:=32) F__law_written_word sc__law_written_word (fun vs H Q E h=>?_) (fun cdv A outer s H vs Q E hr h=>?_),okQ (k:=32) F__law_written sc__law_written (fun vs H Q E h=>?_) (fun cdv A outer s H vs Q E hr h=>?_)⟩
  all_goals
   obtain⟨x,w,ps,fb,_,_,_,_,hn,_⟩:=h
   lia
 | succ n ih =>
 obtain⟨G__law_written_word,G__law_written⟩:=ih
 have G__law_is_plain:=G0_plain.mono (show 31≤33+n by lia)
 have G__law_between:=G0_between.mono (show 31≤33+n by lia)
 have G__law_brackets:=G0_brackets (n+1)
 rw [show 32+(n+1)=33+n by lia] at G__law_brackets
 rw [show 33+(n+1)=(33+n)+1 by lia]
 refine⟨okQ (k:=33+n) F__law_written_word sc__law_written_word (fun vs H Q E h=>?_) (fun cdv A outer s H vs Q E hr h=>?_),okQ (k:=33+n) F__law_written sc__law_written (fun vs H Q E h=>?_) (fun cdv A outer s H vs Q E hr h=>?_)⟩
 ·obtain⟨x,w,ps,fb,rfl,_⟩:=h
  rfl
 ·obtain⟨x,w,ps,fb,rfl,ht,hw,hf,hn,hn4,hlp,q⟩:=h
  have hE:=hr.un
  have hE:(A.deeper (envOfC "_law_written_word" (defScope s__law_written_word) s.heap.objs.size a__law_written_word cdv)).units+401<cLine:=by lia
  refine⟨_,(qss_cons (qs_if (qt_not (qt_val (qe_call G__law_is_plain hr rfl m__law_is_plain F__law_is_plain.kp b__law_is_plain .nil pass0 (qa_cons (qv 0) qa_nil)))) (qss_one (qs_ret (qe_op op_add_str qe_str (qe_call G__law_brackets hr rfl m__law_brackets F__law_brackets.kp b__law_brackets .nil pass0 (qa_cons (qv 0) qa_nil))))) qss_nil)
   (qss_cons (qs_set (i:=1) sc__law_written_word.nd rfl (Or.inl rfl) (qe_callB call_len_seq rfl m_len bt_len (qa_cons (qe_ix ix_tup (qv 0) qe_int (fun _ _=>rfl)) qa_nil)))
   (qss_cons (qs_set (i:=2) sc__law_written_word.nd rfl (Or.inl rfl) (qe_slice sl_tupA (qv 0) (qo_some qe_int) qo_none))
   (qss_cons (qs_if (qt_cmpR op_eq (qv 1) qe_int (nomark _)) (qss_one (qs_ret (qe_op op_add_str qe_str (qe_call G__law_brackets hr rfl m__law_brackets F__law_brackets.kp b__law_brackets .nil pass0 (qa_cons (qv 2) qa_nil))))) qss_nil)
   (qss_cons (qs_if (QW.pt (qw_and (qt_cmpR op_lt (qv 1) qe_int (nomark _)) (qw_and1 (qt_cmpR (op_eqTr hE) (qv 2) (qe_tup qa_nil) (nomark _))))) (qss_one (qs_ret (qe_ix ix_list (qe_lst (qa_cons qe_str (qa_cons qe_str (qa_cons qe_str (qa_cons qe_str (qa_cons qe_str (qa_cons qe_str qa_nil))))))) (qe_op op_sub (qv 1) qe_int) (fun _ _=>rfl)))) qss_nil)
   (qss_cons (qs_if (QW.pt (qw_and (qt_cmpR op_eq (qv 1) qe_int (nomark _)) (qw_and1 (qt_cmpR (op_neTr hE) (qv 2) (qe_tup qa_nil) (nomark _))))) (qss_one (qs_ret (qe_call G__law_between hr rfl m__law_between F__law_between.kp b__law_between .nil pass0 (qa_cons (qe_lst (qa_cons qe_str (qa_cons (qe_call G__law_written hr rfl m__law_written F__law_written.kp b__law_written .nil pass0 (qa_cons (qe_ix ix_tup (qv 2) qe_int (fun _ _=>rfl)) qa_nil)) (qa_cons qe_str (qa_cons (qe_call G__law_written hr rfl m__law_written F__law_written.kp b__law_written .nil pass0 (qa_cons (qe_slice sl_tupA (qv 2) (qo_some qe_int) qo_none) qa_nil)) (qa_cons qe_str qa_nil)))))) qa_nil)))) qss_nil)
   (qss_cons (qs_if (qt_cmpR op_eq (qv 1) qe_int (nomark _)) (qss_one (qs_ret (qe_call G__law_between hr rfl m__law_between F__law_between.kp b__law_between .nil pass0 (qa_cons (qe_lst (qa_cons qe_str (qa_cons (qe_call G__law_written hr rfl m__law_written F__law_written.kp b__law_written .nil pass0 (qa_cons (qv 2) qa_nil)) (qa_cons qe_str qa_nil)))) qa_nil)))) qss_nil)
   (qss_one (qs_ret (qe_op op_add_str qe_str (qe_call G__law_brackets hr rfl m__law_brackets F__law_brackets.kp b__law_brackets .nil pass0 (qa_cons (qv 0) qa_nil)))))))))))),?_⟩
  have hdp:=wr_deep hw hf
  have hpp:=wr_parts hw
  have hwl:=T.wr_len w
  have hd:w.deep≤400:=by lia
  have odd1:ps=[33::w.wr]→∀ H1,Same H H1→∃ v0,[some x,none,none][0]?=some (some v0)∧spBr K (n+1) [v0] H1 (fun v H2=>∃ i j,V.str (PySem.Str.ofString "!")=.str i∧v=.str j∧i.length+j.length≤sizeLine∧Q (.str (i++j)) H2) E:=fun e H1 S1=>by
   subst e
   have hwd:=hf _ List.mem_cons_self 33 w.wr w rfl (treeP_wr w)
   refine⟨_,rfl,x,w,rfl,ht.mono (.of S1),by lia,by lia,fun H2 S2=>⟨_,_,rfl,rfl,?_,?_⟩⟩
   ·rw [tx_bang,tx_len,tx_len]; exact small (by rw [List.length_singleton]; lia)
   ·rw [tx_bang,tx_append]; exact q _ (S1.trans S2)
  refine⟨_,rfl,x,w,rfl,ht,hd,by lia,fun H1 S1=>⟨_,rfl,?_⟩⟩
  cases hh:headOdd w with
  | true =>
   refine iteTb rfl ?_
   have eo:oddT w=true:=by unfold oddT; rw [if_pos hh]
   have e:ps=[33::w.wr]:=wr_fun hw (.odd eo)
   exact odd1 e _ S1
  | false =>
  refine iteFb rfl ?_
  dsimp only [tNext]
  cases w with
  | node ts =>
  cases ts with
  | nil=>exact absurd hh (by decide)
  | cons u us =>
  obtain⟨a,xs,rfl,ha,ra⟩:=TR_node.mp ht
  obtain⟨y,ys,rfl,hy,hys⟩:=TRs_cons.mp ra
  obtain⟨a2,xs2,rfl,q2,r2⟩:=TR_of hy
  have r2l:=r2.length
  have esort:sortT (.node (u::us))=min 9 u.kids.length:=rfl
  have eload:loadT (.node (u::us))=.node us:=rfl
  refine setQ (fun v=>[some (.ref a),some v,none]) (fun _=>rfl) (fun v H'=>v=.int ((u.kids.length:Nat):Int)∧H'=H1) (fun R r=>⟨_,rfl,a,_,0,_,rfl,rfl,sqT_mono (.of S1) ha,atI_nat (j:=0) rfl,a2,xs2,rfl,.inr (sqT_mono (.of S1) q2),r _ _ ⟨by rw [r2l],rfl⟩⟩) (fun v1 H1' h1=>?_)
  obtain⟨rfl,rfl⟩:=h1
  refine setQ (fun v=>[some (.ref a),some (.int ((u.kids.length:Nat):Int)),some v]) (fun _=>rfl) (fun v H'=>Same H1' H'∧TR K H' (.node us) v) (fun R r=>⟨_,rfl,1,rfl,a,_,rfl,sqT_mono (.of S1) ha,fun p2 H2 S2 hq2=>r _ _ ⟨S2,?_⟩⟩) (fun v2 H2 h2=>?_)
  ·have ec:cutV (V.ref a2::ys) (some 1) none=ys:=cut_from (V.ref a2::ys) 1
   rw [ec] at hq2
   exact TR_mk hq2 (hys.mono (.of (S1.trans S2)))
  obtain⟨S2,t2⟩:=h2
  have S12:=S1.trans S2
  have eo:oddT (.node (u::us))=if min 9 u.kids.length=0∨min 9 u.kids.length=8 then false else if min 9 u.kids.length=7 then T.beq (.node us) leaf else (decide (min 9 u.kids.length=9) || !T.beq (.node us) leaf):=by unfold oddT; rw [if_neg (by rw [hh]; decide)]; rfl
  have hld:(T.node us).deep≤400:=by have:=load_deep (.node (u::us)); rw [eload] at this; lia
  generalize hk:u.kids.length=k at *
  have jl:=joinL_len [32] ps
  by_cases k0:k=0
  ·subst k0
   have ho:oddT (.node (u::us))=false:=by rw [eo,if_pos (.inl rfl)]
   have e:ps=[39::(T.node us).wr]:=wr_fun hw (.lay ho (by rw [esort]; rfl))
   subst e
   have hwd:=hf _ List.mem_cons_self 39 (T.node us).wr (.node us) rfl (treeP_wr _)
   have hul:(T.node us).parts≤90000:=by rw [T.parts_node,T.partsL_cons] at hpp; rw [T.parts_node]; lia
   have hwl:=T.wr_len (.node us)
   refine⟨_,rfl,rfl,_,rfl,iteTb (by decide) ?_⟩
   refine⟨_,rfl,v2,.node us,rfl,t2,by lia,by lia,fun H3 S3=>⟨_,_,rfl,rfl,?_,?_⟩⟩
   ·rw [tx_tick,tx_len,tx_len]; exact small (by rw [List.length_singleton]; lia)
   ·rw [tx_tick,tx_append]; exact q _ (S12.trans S3)
  refine⟨_,rfl,rfl,_,rfl,iteFb (decide_eq_false (fun z=>k0 (by have:=V.int.inj z; lia))) ?_⟩
  dsimp only [tNext]
  have fin:∀ H3,Same H2 H3→ps=[33::(T.node (u::us)).wr]→∃ v0,[some (V.ref a),some (V.int ((k:Nat):Int)),some v2][0]?=some (some v0)∧spBr K (n+1) [v0] H3 (fun v H2=>∃ i j,V.str (PySem.Str.ofString "!")=.str i∧v=.str j∧i.length+j.length≤sizeLine∧Q (.str (i++j)) H2) E:=fun H3 S3 e=>by
   obtain⟨v0,e0,h0⟩:=odd1 e H3 (S12.trans S3)
   exact⟨v0,e0,h0⟩
  refine⟨_,rfl,_,_,rfl,rfl,_,rfl,?_⟩
  by_cases k7:k<7
  ·refine iteTb (decide_eq_true (by lia)) ?_
   refine⟨_,rfl,Nat.zero_le _,fun p3 g3=>⟨.node us,leaf,t2.mono (.new g3),leaf_tr upd_same,by lia,_,rfl,?_⟩⟩
   have S3:=same_new g3 (.tup [])
   generalize upd H2 p3 (.tup [])=H3 at S3
   cases hb:T.beq (.node us) leaf with
   | true =>
    refine iteTb rfl ?_
    have ho:oddT (.node (u::us))=false:=by rw [eo,if_neg (by lia),if_neg (by lia),hb,decide_eq_false (by lia)]; rfl
    have e:ps=[nmC k]:=by
     have:=wr_fun hw (.plain ho (by rw [esort]; lia) (by rw [esort]; lia))
     rw [esort,show min 9 k=k by lia] at this
     exact this
    subst e
    refine⟨(by show 6≤sizeLine; decide),fun p4 g4=>⟨_,rfl,_,_,rfl,rfl,p4,_,_,_,rfl,rfl,SqL.of upd_same,(by rw [six_tx]; exact six_at (by lia) (by lia)),q _ (S12.trans (S3.trans (same_new g4 _)))⟩⟩
   | false =>
    refine iteFb rfl ?_
    dsimp only [tNext]
    have ho:oddT (.node (u::us))=true:=by rw [eo,if_neg (by lia),if_neg (by lia),hb,decide_eq_false (by lia)]; rfl
    have e:ps=[33::(T.node (u::us)).wr]:=wr_fun hw (.odd ho)
    refine⟨_,rfl,rfl,_,rfl,iteFb (decide_eq_false (fun z=>by have:=V.int.inj z; lia)) (iteF ?_)⟩
    dsimp only [tNext]
    refine⟨_,rfl,rfl,_,rfl,iteFb (decide_eq_false (fun z=>by have:=V.int.inj z; lia)) ?_⟩
    exact fin _ S3 e
  refine iteFb (decide_eq_false (by lia)) (iteF ?_)
  dsimp only [tNext]
  by_cases e7:k=7
  ·subst e7
   refine⟨_,rfl,rfl,_,rfl,iteTb (by decide) ?_⟩
   refine⟨_,rfl,Nat.zero_le _,fun p3 g3=>⟨.node us,leaf,t2.mono (.new g3),leaf_tr upd_same,by lia,_,rfl,?_⟩⟩
   have S3:=same_new g3 (.tup [])
   generalize upd H2 p3 (.tup [])=H3 at S3
   cases hb:T.beq (.node us) leaf with
   | true =>
    refine iteFb rfl ?_
    dsimp only [tNext]
    have ho:oddT (.node (u::us))=true:=by rw [eo,if_neg (by decide),if_pos (show min 9 7=7 from rfl),hb]
    have e:ps=[33::(T.node (u::us)).wr]:=wr_fun hw (.odd ho)
    refine⟨_,rfl,rfl,_,rfl,iteFb (by decide) ?_⟩
    exact fin _ S3 e
   | false =>
    refine iteTb rfl ?_
    have ho:oddT (.node (u::us))=false:=by rw [eo,if_neg (by decide),if_pos (show min 9 7=7 from rfl),hb]
    obtain⟨py,pn,e,hy',hn'⟩:=wr_fork hw ho (by rw [esort]; rfl)
    rw [eload] at hy' hn'
    cases us with
    | nil=>exact absurd hb (by decide)
    | cons v vs =>
    have hy':Ts v.kids py:=hy'
    have hn':Ts vs pn:=hn'
    subst e
    have e1:nP [93] [nmC 7,[91]]=0:=by decide
    have e2:nP [93] [[93]]=1:=by decide
    have e3:nP [93] [[124]]=0:=by decide
    rw [nP_app,nP_app,nP_app,nP_app] at hn
    rw [lenP_app,lenP_app,lenP_app,lenP_app] at hlp
    have j1:=join_lenP py
    have j2:=join_lenP pn
    obtain⟨a3,xs3,rfl,q3,r3⟩:=TR_node.mp t2
    obtain⟨y3,ys3,rfl,hy3,hys3⟩:=TRs_cons.mp r3
    refine⟨_,rfl,a3,_,0,_,rfl,rfl,sqT_mono (.of S3) q3,atI_nat (j:=0) rfl,y3,v.kids,py,fb,rfl,TR_kids (hy3.mono (.of S3)),hy',(fun p hp=>hf p (by simp [hp])),by lia,by lia,by lia,fun H4 S4=>?_⟩
    have S34:=S3.trans S4
    refine⟨_,rfl,1,rfl,a3,_,rfl,sqT_mono (.of S34) q3,fun p5 H5 S5 hq5=>?_⟩
    have ec:cutV (y3::ys3) (some 1) none=ys3:=cut_from (y3::ys3) 1
    rw [ec] at hq5
    have S35:=S34.trans S5
    refine⟨.ref p5,vs,pn,fb,rfl,TR_mk hq5 (hys3.mono (.of S35)),hn',(fun p hp=>hf p (by simp [hp])),by lia,by lia,by lia,fun H6 S6=>⟨(by show 5≤sizeLine; decide),fun l7 g7=>?_⟩⟩
    refine⟨l7,[joinL [32] [nmC 7,[91]],joinL [32] py,joinL [32] [[124]],joinL [32] pn,joinL [32] [[93]]],rfl,?_,by show 5≤1000; lia,?_,fun H8 S8=>?_⟩
    ·rw [upd_same,tx_forkB,tx_rb,tx_bar]
     rfl
    ·have:(joinL [32] [nmC 7,[91]]).length=6:=rfl
     have:(joinL [32] [[93]]).length=1:=rfl
     have:(joinL [32] [[124]]).length=1:=rfl
     simp only [List.flatten_cons,List.flatten_nil,List.length_append,List.length_nil]
     lia
    ·have eb:joinL [32] ([joinL [32] [nmC 7,[91]],joinL [32] py,joinL [32] [[124]],joinL [32] pn,joinL [32] [[93]]].filter fun c=>decide (c≠[]))=joinL [32] [[nmC 7,[91]],py,[[124]],pn,[[93]]].flatten:=between_all (pss:=[[nmC 7,[91]],py,[[124]],pn,[[93]]]) (fun l hl p hp=>by
      simp only [List.mem_cons,List.not_mem_nil,or_false] at hl
      rcases hl with rfl | rfl | rfl | rfl | rfl
      ·simp only [List.mem_cons,List.not_mem_nil,or_false] at hp
       rcases hp with rfl | rfl <;> decide
      ·exact (ts_ok hy' p hp).1
      ·simp only [List.mem_cons,List.not_mem_nil,or_false] at hp
       rw [hp]; decide
      ·exact (ts_ok hn' p hp).1
      ·simp only [List.mem_cons,List.not_mem_nil,or_false] at hp
       rw [hp]; decide)
     have ef:[[nmC 7,[91]],py,[[124]],pn,[[93]]].flatten=[nmC 7,[91]]++py++[[124]]++pn++[[93]]:=by simp
     rw [eb,ef]
     exact q _ (S12.trans (S35.trans (S6.trans ((same_new g7 _).trans S8))))
  refine⟨_,rfl,rfl,_,rfl,iteFb (decide_eq_false (fun z=>by have:=V.int.inj z; lia)) (iteF ?_)⟩
  dsimp only [tNext]
  by_cases e8:k=8
  ·subst e8
   have ho:oddT (.node (u::us))=false:=by rw [eo,if_pos (.inr rfl)]
   obtain⟨pb,e,hb'⟩:=wr_loop hw ho (by rw [esort]; rfl)
   rw [eload] at hb'
   have hb':Ts us pb:=hb'
   subst e
   have e1:nP [93] [nmC 8,[91]]=0:=by decide
   have e2:nP [93] [[93]]=1:=by decide
   rw [nP_app,nP_app] at hn
   rw [lenP_app,lenP_app] at hlp
   have j1:=join_lenP pb
   refine⟨_,rfl,rfl,_,rfl,iteTb (by decide) ?_⟩
   refine⟨_,rfl,v2,us,pb,fb,rfl,t2,hb',(fun p hp=>hf p (by simp [hp])),by lia,by lia,by lia,fun H6 S6=>⟨(by show 3≤sizeLine; decide),fun l7 g7=>?_⟩⟩
   refine⟨l7,[joinL [32] [nmC 8,[91]],joinL [32] pb,joinL [32] [[93]]],rfl,?_,by show 3≤1000; lia,?_,fun H8 S8=>?_⟩
   ·rw [upd_same,tx_whileB,tx_rb]
    rfl
   ·have:(joinL [32] [nmC 8,[91]]).length=7:=rfl
    have:(joinL [32] [[93]]).length=1:=rfl
    simp only [List.flatten_cons,List.flatten_nil,List.length_append,List.length_nil]
    lia
   ·have eb:joinL [32] ([joinL [32] [nmC 8,[91]],joinL [32] pb,joinL [32] [[93]]].filter fun c=>decide (c≠[]))=joinL [32] [[nmC 8,[91]],pb,[[93]]].flatten:=between_all (pss:=[[nmC 8,[91]],pb,[[93]]]) (fun l hl p hp=>by
     simp only [List.mem_cons,List.not_mem_nil,or_false] at hl
     rcases hl with rfl | rfl | rfl
     ·simp only [List.mem_cons,List.not_mem_nil,or_false] at hp
      rcases hp with rfl | rfl <;> decide
     ·exact (ts_ok hb' p hp).1
     ·simp only [List.mem_cons,List.not_mem_nil,or_false] at hp
      rw [hp]; decide)
    have ef:[[nmC 8,[91]],pb,[[93]]].flatten=[nmC 8,[91]]++pb++[[93]]:=by simp
    rw [eb,ef]
    exact q _ (S12.trans (S6.trans ((same_new g7 _).trans S8)))
  ·have ho:oddT (.node (u::us))=true:=by rw [eo,if_neg (by lia),if_neg (by lia),decide_eq_true (by lia)]; rfl
   have e:ps=[33::(T.node (u::us)).wr]:=wr_fun hw (.odd ho)
   refine⟨_,rfl,rfl,_,rfl,iteFb (decide_eq_false (fun z=>by have:=V.int.inj z; lia)) ?_⟩
   exact fin _ (Same.refl _) e
 ·obtain⟨x,w,ps,fb,rfl,_⟩:=h
  rfl
 ·obtain⟨x,ws,ps,fb,rfl,ht,hw,hf,hn,hn4,hlp,q⟩:=h
  refine⟨_,(qss_one (qs_ret (qe_bm PySem.F.plainAttrs_str PySem.F.slot_str_join PySem.F.type_str_join mt_joinS qe_str (qa_cons (qe_lc rfl (lc_free (fr:=[]) (js:=[]) (sc:=defScope s__law_written) rfl rfl rfl (by decide +kernel) (by decide +kernel) (by decide +kernel) (by decide +kernel) (by exact trivial) (by decide +kernel) (fun y hy=>cell_has hy)) (qi_tup (qv 0)) (fun _ _ _ _ _=>(qe_call G__law_written_word hr rfl m__law_written_word F__law_written_word.kp b__law_written_word .nil pass0 (qa_cons (qv 0) qa_nil)))) qa_nil)))),?_⟩
  obtain⟨pss,hal,hfl⟩:=ts_pss hw
  subst hfl
  obtain⟨a,xs,rfl,ha,ra⟩:=TR_node.mp ht
  have hl:=ra.length
  have hl2:=hal.length
  have hne:∀ l∈pss,l≠[]:=fun l hl=>by
   obtain⟨i,hi⟩:=List.getElem?_of_mem hl
   obtain⟨w',_,hw'⟩:=hal.get hi
   exact wr_ne hw'
  have hsz:=join_sz pss hne
  have hfz:=flat_lenP pss.flatten
  have hwn:=T.len_le_parts ws
  have hwp:=ts_parts hw
  unfold szP at hsz
  refine⟨rfl,_,rfl,a,rfl,⟨xs,ha⟩,?_⟩
  refine lc_tupI (K:=K) (xs:=xs) (fun D i ys H'=>H D=none∧Same H H'∧H' D=some (.lst ys)∧ys=((pss.take i).map (joinL [32])).map (fun c=>V.str (tx c))∧i≤pss.length) (small (by lia)) (fun D hD=>⟨hD,same_new hD _,upd_same,rfl,Nat.zero_le _⟩) (fun D i ys H' j=>⟨j.2.2.1,?_,sqT_mono (.of j.2.1) ha⟩) (fun D i x ys H' R hx j hR=>?_) (fun D ys H' j=>?_)
  ·rw [j.2.2.2.1,List.length_map,List.length_map,List.length_take]
   exact Nat.min_eq_left j.2.2.2.2
  ·obtain⟨hD,S,h1,h2,_⟩:=j
   obtain⟨u,hu,hxu⟩:=ra.get hx
   have hi:i<pss.length:=by have:=(List.getElem?_eq_some_iff.mp hu).1; lia
   have hqi:=List.getElem?_eq_getElem hi
   obtain⟨u',hu',hwu⟩:=hal.get hqi
   rw [hu] at hu'
   cases hu'
   obtain⟨m1,m2,m3⟩:=pss_mem (List.mem_of_getElem? hqi)
   generalize pss[i]=qs at hqi hwu m1 m2 m3
   refine⟨_,rfl,x,u,qs,fb,rfl,hxu.mono (.of S),hwu,(fun p hp=>hf p (m1 p hp)),by lia,by lia,by lia,fun H3 S3=>?_⟩
   refine hR _ _ (S3 _ _ h1) ⟨hD,same_upd (S.trans S3) hD,upd_same,?_,hi⟩
   rw [h2,List.take_succ,hqi,List.map_append,List.map_append]
   rfl
  ·obtain⟨hD,S,h1,h2,_⟩:=j
   rw [List.take_of_length_le (by lia)] at h2
   refine⟨D,[32],pss.map (joinL [32]),(by rw [tx_blank]),rfl,SqL.of (by rw [h1,h2]),?_,?_⟩
   ·rw [List.length_map]
    show _+_ * 1≤_
    lia
   ·rw [join_join hne]
    exact q _ S
end
end Sw25
namespace Sw25
open PySem PySem.Spec PyProof.Rows L2 Sw
section
variable {P:Program}{w:World}{K:PySem.W.Frag}{mg:Str→Option Value}{base:Heap}{f:Addr}{fd:FuncData}
def pcA:List (List Nat):=[[100,114,111,112],[116,119,105,110],[115,119,97,112],[102,114,111,110,116],[112,97,114,116],[116,117,114,110],[102,111,114,107,32,91],[119,104,105,108,101,32,91],[124],[93],[93],[102,111,114,107]]
theorem pcA_tx:[V.str (PySem.Str.ofString "drop"),V.str (PySem.Str.ofString "twin"),V.str (PySem.Str.ofString "swap"),V.str (PySem.Str.ofString "front"),V.str (PySem.Str.ofString "part"),V.str (PySem.Str.ofString "turn"),V.str (PySem.Str.ofString "fork ["),V.str (PySem.Str.ofString "while ["),V.str (PySem.Str.ofString "|"),V.str (PySem.Str.ofString "]"),V.str (PySem.Str.ofString "]"),V.str (PySem.Str.ofString "fork")]=pcA.map fun c=>V.str (tx c):=by
 rw [show PySem.Str.ofString "drop"=tx [100,114,111,112] by decide +kernel,show PySem.Str.ofString "twin"=tx [116,119,105,110] by decide +kernel,show PySem.Str.ofString "swap"=tx [115,119,97,112] by decide +kernel,show PySem.Str.ofString "front"=tx [102,114,111,110,116] by decide +kernel,show PySem.Str.ofString "part"=tx [112,97,114,116] by decide +kernel,show PySem.Str.ofString "turn"=tx [116,117,114,110] by decide +kernel,show PySem.Str.ofString "fork ["=tx [102,111,114,107,32,91] by decide +kernel,show PySem.Str.ofString "while ["=tx [119,104,105,108,101,32,91] by decide +kernel,show PySem.Str.ofString "|"=tx [124] by decide +kernel,show PySem.Str.ofString "]"=tx [93] by decide +kernel,show PySem.Str.ofString "fork"=tx [102,111,114,107] by decide +kernel]
 rfl
def pcB:List (List Nat):=[[91],[39,40,41],[33,40,41]]
theorem pcB_tx:[V.str (PySem.Str.ofString "["),V.str (PySem.Str.ofString "'()"),V.str (PySem.Str.ofString "!()")]=pcB.map fun c=>V.str (tx c):=by
 rw [show PySem.Str.ofString "["=tx [91] by decide +kernel,show PySem.Str.ofString "'()"=tx [39,40,41] by decide +kernel,show PySem.Str.ofString "!()"=tx [33,40,41] by decide +kernel]
 rfl
def pbA:List (List Nat):=[[100,114,111,112],[116,119,105,110],[115,119,97,112],[102,114,111,110,116],[112,97,114,116],[116,117,114,110],[102,111,114,107,32,91],[119,104,105,108,101,32,91],[124],[93]]
theorem pbA_tx:[V.str (PySem.Str.ofString "drop"),V.str (PySem.Str.ofString "twin"),V.str (PySem.Str.ofString "swap"),V.str (PySem.Str.ofString "front"),V.str (PySem.Str.ofString "part"),V.str (PySem.Str.ofString "turn"),V.str (PySem.Str.ofString "fork ["),V.str (PySem.Str.ofString "while ["),V.str (PySem.Str.ofString "|"),V.str (PySem.Str.ofString "]")]=pbA.map fun c=>V.str (tx c):=by
 rw [show PySem.Str.ofString "drop"=tx [100,114,111,112] by decide +kernel,show PySem.Str.ofString "twin"=tx [116,119,105,110] by decide +kernel,show PySem.Str.ofString "swap"=tx [115,119,97,112] by decide +kernel,show PySem.Str.ofString "front"=tx [102,114,111,110,116] by decide +kernel,show PySem.Str.ofString "part"=tx [112,97,114,116] by decide +kernel,show PySem.Str.ofString "turn"=tx [116,117,114,110] by decide +kernel,show PySem.Str.ofString "fork ["=tx [102,111,114,107,32,91] by decide +kernel,show PySem.Str.ofString "while ["=tx [119,104,105,108,101,32,91] by decide +kernel,show PySem.Str.ofString "|"=tx [124] by decide +kernel,show PySem.Str.ofString "]"=tx [93] by decide +kernel]
 rfl
def pbB:List (List Nat):=[[93],[100,114,111,112],[39,40,41],[33,40,41],[124,32,93]]
theorem pbB_tx:[V.str (PySem.Str.ofString "]"),V.str (PySem.Str.ofString "drop"),V.str (PySem.Str.ofString "'()"),V.str (PySem.Str.ofString "!()"),V.str (PySem.Str.ofString "| ]")]=pbB.map fun c=>V.str (tx c):=by
 rw [show PySem.Str.ofString "]"=tx [93] by decide +kernel,show PySem.Str.ofString "drop"=tx [100,114,111,112] by decide +kernel,show PySem.Str.ofString "'()"=tx [39,40,41] by decide +kernel,show PySem.Str.ofString "!()"=tx [33,40,41] by decide +kernel,show PySem.Str.ofString "| ]"=tx [124,32,93] by decide +kernel]
 rfl
def tkB:List (List Nat):=[[39],[33]]
theorem tkB_tx:[V.str (PySem.Str.ofString "'"),V.str (PySem.Str.ofString "!")]=tkB.map fun c=>V.str (tx c):=by
 rw [show PySem.Str.ofString "'"=tx [39] by decide +kernel,show PySem.Str.ofString "!"=tx [33] by decide +kernel]
 rfl
theorem psQ_all {ps:List (List Nat)}{m f:Nat} (hm:7≤m) (h:(ps.all fun p=>decide (p.length≤7) && decide (p.count 32≤1) && decide (p.count 93≤1) && decide (pkP 0 p≤1))=true):∀ p∈ps,PsQ m f p:=fun p hp=>by
 have:=List.all_eq_true.mp h p hp
 simp only [Bool.and_eq_true,decide_eq_true_eq] at this
 obtain⟨⟨⟨a1,a2⟩,a3⟩,a4⟩:=this
 exact⟨by lia,a2,a3,by lia⟩
theorem pc_all:∀ p∈pcA++pcB,PsQ 63 62 p:=psQ_all (by decide) (by decide +kernel)
theorem pb_all:∀ p∈pbA++pbB,PsQ 403 200 p:=psQ_all (by decide) (by decide +kernel)
def Sg4 (l:List Nat):Prop:=∀ c∈l,c=33∨c=39∨c=40∨c=41
theorem Sg4.app {a b:List Nat} (h:Sg4 a) (g:Sg4 b):Sg4 (a++b):=fun c hc=>(List.mem_append.mp hc).elim (h c) (g c)
theorem Sg4.take {a:List Nat} (h:Sg4 a) (n:Nat):Sg4 (a.take n):=fun c hc=>h c (List.mem_of_mem_take hc)
theorem Sg4.drop {a:List Nat} (h:Sg4 a) (n:Nat):Sg4 (a.drop n):=fun c hc=>h c (List.mem_of_mem_drop hc)
theorem Sg4.psQ {a:List Nat} (h:Sg4 a) (hl:a.length≤63):PsQ 63 62 a:=by
 have e:∀ c,c≠33→c≠39→c≠40→c≠41→a.count c=0:=fun c h1 h2 h3 h4=>List.count_eq_zero.mpr fun z=>by rcases h c z with y | y | y | y <;> contradiction
 have:=pk_len a
 exact⟨hl,by rw [e 32 (by decide) (by decide) (by decide) (by decide)]; lia,by rw [e 93 (by decide) (by decide) (by decide) (by decide)]; lia,by lia⟩
theorem sg4_tree {c:Nat} (h:c=33∨c=39) (t:T):Sg4 (c::t.wr):=fun d hd=>by
 rcases List.mem_cons.mp hd with z | z
 ·rw [z]; rcases h with y | y <;> simp [y]
 ·rcases wr_only t d z with y | y <;> simp [y]
theorem cutL_to (l:List Nat) (k:Nat):cutL l none (some (k:Int))=l.take k:=by
 unfold cutL
 rw [HT.sIx_nat]
 show (l.drop 0).take (min k l.length - 0)=_
 rw [List.drop_zero,Nat.sub_zero,← List.take_take,List.take_length]
theorem cutL_from (l:List Nat) (k:Nat):cutL l (some (k:Int)) none=l.drop k:=by
 unfold cutL
 rw [HT.sIx_nat]
 show (l.drop (min k l.length)).take (l.length - min k l.length)=_
 rw [List.take_of_length_le (by rw [List.length_drop]; lia)]
 by_cases h:k≤l.length
 ·rw [Nat.min_eq_left h]
 ·rw [Nat.min_eq_right (by lia),List.drop_length,List.drop_of_length_le (by lia)]
def spDigits (K:PySem.W.Frag):Sp:=fun vs H Q _=>∃ (a:Addr) (ns:List Int) (sp m:Nat),vs=[.ref a,.int (sp:Int),.int (m:Int)]∧SqL K H a (ns.map V.int)∧ns.length≤63∧2≤sp∧sp≤94∧m≤300 ∧
 ∀ (l:Addr) (ds:List Nat) H',Same H H'→H' l=some (.lst (ds.map fun d:Nat=>V.int (d:Int)))→(∀ d∈ds,d<sp)→ds.length≤m→Q (.ref l) H'
def spTreeBy (K:PySem.W.Frag):Sp:=fun vs H Q _=>∃ (l:Addr) (ds:List Nat),vs=[.ref l]∧SqL K H l (ds.map fun d:Nat=>V.int (d:Int))∧ds.length≤200∧∀ r t H',Same H H'→KidR K H' t r→t.parts≤201→Q r H'
def spPieceBy (K:PySem.W.Frag):Sp:=fun vs H Q _=>∃ (d:Nat) (lt:Addr) (x0 x1:V) (t:T),vs=[.int (d:Int),.ref lt]∧d<64∧SqL K H lt [x0,x1]∧KidR K H (.node []) x0∧KidR K H t x1∧t.parts≤201∧∀ p H',Same H H'→PsQ 403 200 p→Q (.str (tx p)) H'
def spPiece (K:PySem.W.Frag):Sp:=fun vs H Q _=>∃ (c:Int) (lt:Addr) (xts:List V) (ts:List T),vs=[.int c,.ref lt]∧SqL K H lt xts∧Kids K H ts xts∧ts≠[]∧(∀ t∈ts,t.parts≤30)∧∀ p H',Same H H'→PsQ 63 62 p→Q (.str (tx p)) H'
def spChanged:Sp:=fun vs H Q _=>∃ (c:Int) (X:List Nat),vs=[.int c,.str (tx X)]∧Chg X∧∀ Y,StrOk Y→Q (.str (tx Y)) H
theorem ok__law_digits (m_range:mg "range"=none)
  (F:Fun K "_law_digits" "_law_digits" s__law_digits f fd):FnOk P w K mg base CX0 31 f fd ["_law_script","_law_span","_law_most"] (spDigits K):=by
 refine okQ F sc__law_digits (fun vs H Q E h=>?_) (fun cdv A outer s H vs Q E hr h=>?_)
 ·obtain⟨a,ns,sp,m,rfl,_⟩:=h
  rfl
 obtain⟨a,ns,sp,m,rfl,hl,h63,hs2,hs94,hm3,q⟩:=h
 refine⟨_,(qss_cons (qs_set (i:=3) sc__law_digits.nd rfl (Or.inl rfl) (qe_lst qa_nil))
   (qss_cons (qs_for PassesOwn.never rfl (qi_list (qe_slice sl_list (qv 0) (qo_some qe_int) (qo_some qe_int))) (qg_name (i:=4) sc__law_digits.nd rfl (Or.inl rfl)) (qss_cons (qs_set (i:=5) sc__law_digits.nd rfl (Or.inl rfl) (qe_op op_mod (qv 4) (qe_op op_pow (qv 1) qe_int)))
   (qss_one (qs_for PassesOwn.never rfl (qi_range1 rfl m_range (qa_cons qe_int qa_nil)) (qg_name (i:=6) sc__law_digits.nd rfl (Or.inl rfl)) (qss_one (qs_if (QW.pt (qw_or (qt_cmpR op_eq (qv 6) qe_int (nomark _)) (qw_or1 (qt_cmpR op_gt (qv 5) qe_int (nomark _))))) (qss_cons (qs_expr (qe_bm PySem.F.plainAttrs_list PySem.F.slot_list_append PySem.F.type_list_append mt_append (qv 3) (qa_cons (qe_op op_mod (qv 5) (qv 1)) qa_nil)))
   (qss_one (qs_set (i:=5) sc__law_digits.nd rfl (Or.inl rfl) (qe_op op_fdiv (qv 5) (qv 1))))) qss_nil))))))
   (qss_one (qs_ret (qe_slice sl_list (qv 3) qo_none (qo_some (qv 2))))))),?_⟩
 have hsp:(0:Int)<(sp:Int):=by lia
 have hpw:(0:Int)<(sp:Int) ^ (60:Int).toNat:=Int.pow_pos hsp
 refine⟨Nat.zero_le _,fun p0 g0=>?_⟩
 have S0:=same_new g0 (.lst [])
 have h0:=upd_same (H:=H) (a:=p0) (o:=.lst [])
 generalize upd H p0 (.lst [])=H0 at S0 h0
 refine⟨_,rfl,1,rfl,63,rfl,a,_,rfl,S0.seq hl,fun p1 g1=>⟨p1,rfl,⟨_,SqL.of upd_same⟩,?_⟩⟩
 have n01:p0≠p1:=ne_of_none h0 g1
 have hp1:H p1=none:=S0.free g1
 obtain⟨cs,ecs,hcs⟩:∃ cs:List Int,cutV (ns.map V.int) (some 1) (some 63)=cs.map V.int∧cs.length≤63:=by
  refine⟨(ns.drop (min 1 ns.length)).take (min 63 ns.length - min 1 ns.length),?_,?_⟩
  ·rw [show (some (1:Int))=some ((1:Nat):Int) from rfl,show (some (63:Int))=some ((63:Nat):Int) from rfl]
   unfold cutV
   rw [HT.sIx_nat,HT.sIx_nat,List.length_map,List.map_take,List.map_drop]
  ·rw [List.length_take]; lia
 rw [ecs]
 refine for_list (xs:=cs.map V.int) (fun i σ' H'=>∃ (ds:List Nat) (o4 o5 o6:Option V),σ'=[some (.ref a),some (.int (sp:Int)),some (.int (m:Int)),some (.ref p0),o4,o5,o6]∧Same H H'∧H' p1=some (.lst (cs.map V.int))∧H' p0=some (.lst (ds.map fun d:Nat=>V.int (d:Int)))∧(∀ d∈ds,d<sp)∧ds.length≤60 * i) ?_ ?_ ?_ ?_
 ·exact⟨[],_,_,_,rfl,S0.trans (same_new g1 _),upd_same,by rw [upd_ne n01]; exact h0,(fun d hd=>by cases hd),Nat.zero_le _⟩
 ·rintro i σ' H' _ ⟨ds,o4,o5,o6,rfl,S,h1,_⟩
  exact SqL.of h1
 ·rintro i x σ' H' hx ⟨ds,o4,o5,o6,rfl,S,h1,h2,h3,h4⟩
  have hi:i<cs.length:=by
   have:=(List.getElem?_eq_some_iff.mp hx).1
   rw [List.length_map] at this
   exact this
  obtain⟨c,rfl⟩:∃ c,x=.int c:=by
   rw [List.getElem?_map,List.getElem?_eq_getElem hi] at hx
   exact⟨_,(Option.some.inj hx).symm⟩
  dsimp only [gName]
  refine setQ (fun v=>[some (.ref a),some (.int (sp:Int)),some (.int (m:Int)),some (.ref p0),some (.int c),some v,o6]) (fun _=>rfl) (fun v H''=>H''=H'∧∃ z:Int,v=.int z∧0≤z) (fun R r=>⟨_,rfl,_,rfl,_,_,rfl,rfl,⟨by decide,by decide,by show (sp:Int).natAbs<2 ^ 64; lia⟩,_,_,rfl,rfl,hpw,r _ _ ⟨rfl,_,rfl,Int.emod_nonneg _ (by lia)⟩⟩) (fun v1 H1 hv1=>?_)
  obtain⟨rfl,z,rfl,hz⟩:=hv1
  refine⟨60,rfl,by decide,by decide,?_⟩
  refine for_range (n:=60) (fun j σ' H'=>∃ (ds:List Nat) (z:Int) (o6:Option V),σ'=[some (.ref a),some (.int (sp:Int)),some (.int (m:Int)),some (.ref p0),some (.int c),some (.int z),o6]∧0≤z∧Same H H'∧H' p1=some (.lst (cs.map V.int))∧H' p0=some (.lst (ds.map fun d:Nat=>V.int (d:Int)))∧(∀ d∈ds,d<sp)∧ds.length≤60 * i+j) ?_ ?_ ?_
  ·exact⟨ds,z,_,rfl,hz,S,h1,h2,h3,by lia⟩
  ·rintro j σ' H' hj ⟨ds,z,o6,rfl,hz,S,h1,h2,h3,h4⟩
   dsimp only [gName]
   have hb0:0≤z % (sp:Int):=Int.emod_nonneg _ (by lia)
   have hb1:z % (sp:Int)<(sp:Int):=Int.emod_lt_of_pos _ hsp
   obtain⟨d,hd⟩:∃ d:Nat,z % (sp:Int)=(d:Int):=⟨(z % (sp:Int)).toNat,by lia⟩
   have hq0:0≤z / (sp:Int):=Int.ediv_nonneg hz (by lia)
   have S2:Same H (upd H' p0 (.lst ((ds.map fun d:Nat=>V.int (d:Int))++[V.int (z % (sp:Int))]))):=same_upd S g0
   have e1:upd H' p0 (.lst ((ds.map fun d:Nat=>V.int (d:Int))++[V.int (z % (sp:Int))])) p1=some (.lst (cs.map V.int)):=by rw [upd_ne (Ne.symm n01)]; exact h1
   have e2:upd H' p0 (.lst ((ds.map fun d:Nat=>V.int (d:Int))++[V.int (z % (sp:Int))])) p0=some (.lst ((ds++[d]).map fun d:Nat=>V.int (d:Int))):=by rw [upd_same,hd,List.map_append]; rfl
   have e3:∀ d'∈ds++[d],d'<sp:=fun d' hd'=>by
    rcases List.mem_append.mp hd' with y | y
    ·exact h3 d' y
    ·rw [List.mem_singleton.mp y]; lia
   have e4:(ds++[d]).length≤60 * i+(j+1):=by rw [List.length_append,List.length_singleton]; lia
   have hsz:(ds.map fun d:Nat=>V.int (d:Int)).length<sizeLine:=smallL (by rw [List.length_map]; lia)
   refine⟨_,rfl,rfl,_,rfl,ite2 (fun _=>?_) (fun _=>?_)⟩
   ·exact⟨_,rfl,.inl ⟨rfl,_,SqL.of h2⟩,_,rfl,_,rfl,_,_,rfl,rfl,hsp,p0,_,_,rfl,rfl,h2,hsz,_,rfl,_,rfl,_,_,rfl,rfl,⟨hsp,by lia⟩,ds++[d],_,_,rfl,hq0,S2,e1,e2,e3,e4⟩
   ·refine⟨_,rfl,_,_,rfl,rfl,_,rfl,ite2 (fun _=>?_) (fun _=>?_)⟩
    ·exact⟨_,rfl,.inl ⟨rfl,_,SqL.of h2⟩,_,rfl,_,rfl,_,_,rfl,rfl,hsp,p0,_,_,rfl,rfl,h2,hsz,_,rfl,_,rfl,_,_,rfl,rfl,⟨hsp,by lia⟩,ds++[d],_,_,rfl,hq0,S2,e1,e2,e3,e4⟩
    ·exact⟨ds,z,_,rfl,hz,S,h1,h2,h3,by lia⟩
  ·rintro σ' H' ⟨ds,z,o6,rfl,hz,S,h1,h2,h3,h4⟩
   exact⟨ds,_,_,_,rfl,S,h1,h2,h3,by lia⟩
 ·rintro σ' H' ⟨ds,o4,o5,o6,rfl,S,h1,h2,h3,h4⟩
  refine⟨_,rfl,_,rfl,_,rfl,p0,_,rfl,SqL.of h2,fun p9 g9=>q p9 (ds.take m) _ (S.trans (same_new g9 _)) ?_ (fun d hd=>h3 d (List.mem_of_mem_take hd)) (by rw [List.length_take]; lia)⟩
  rw [upd_same,cut_to,List.map_take]
theorem ok__law_tree_by (m_min:mg "min"=none) (m_len:mg "len"=none)
  {a__law_joined:Addr}{d__law_joined:FuncData} (F__law_joined:Fun K "_law_joined" "_law_joined" s__law_joined a__law_joined d__law_joined) (G__law_joined:FnOk P w K mg base CX0 32 a__law_joined d__law_joined ["_law_kids"] (spJoinedP K)) (b__law_joined:Binds K d__law_joined ["_law_kids"] []) (m__law_joined:mg "_law_joined"=some (.ref a__law_joined))
  (F:Fun K "_law_tree_by" "_law_tree_by" s__law_tree_by f fd):FnOk P w K mg base CX0 33 f fd ["_law_digits_here"] (spTreeBy K):=by
 refine okQ F sc__law_tree_by (fun vs H Q E h=>?_) (fun cdv A outer s H vs Q E hr h=>?_)
 ·obtain⟨l,ds,rfl,_⟩:=h
  rfl
 obtain⟨l,ds,rfl,hl,hz,q⟩:=h
 refine⟨_,(qss_cons (qs_set (i:=1) sc__law_tree_by.nd rfl (Or.inl rfl) (qe_lst qa_nil))
   (qss_cons (qs_for PassesOwn.never rfl (qi_list (qv 0)) (qg_name (i:=2) sc__law_tree_by.nd rfl (Or.inl rfl)) (qss_cons (qs_set (i:=3) sc__law_tree_by.nd rfl (Or.inl rfl) (qe_callB (call_min2 rfl) rfl m_min bt_min (qa_cons (qe_callB call_len_seq rfl m_len bt_len (qa_cons (qv 1) qa_nil)) (qa_cons (qe_op op_mod (qv 2) qe_int) qa_nil))))
   (qss_one (qs_set (i:=1) sc__law_tree_by.nd rfl (Or.inl rfl) (qe_op op_cat (qe_slice sl_list (qv 1) qo_none (qo_some (qe_op op_sub (qe_callB call_len_seq rfl m_len bt_len (qa_cons (qv 1) qa_nil)) (qv 3)))) (qe_lst (qa_cons (qe_call G__law_joined hr rfl m__law_joined F__law_joined.kp b__law_joined .nil pass0 (qa_cons (qe_slice sl_list (qv 1) (qo_some (qe_op op_sub (qe_callB call_len_seq rfl m_len bt_len (qa_cons (qv 1) qa_nil)) (qv 3))) qo_none) qa_nil)) qa_nil)))))))
   (qss_one (qs_ret (qe_call G__law_joined hr rfl m__law_joined F__law_joined.kp b__law_joined .nil pass0 (qa_cons (qv 1) qa_nil)))))),?_⟩
 refine⟨Nat.zero_le _,fun p0 hp0=>?_⟩
 have hl0:=sqL_new (o:=.lst []) hl hp0
 refine⟨_,rfl,l,rfl,⟨_,hl0⟩,?_⟩
 refine for_list (xs:=ds.map fun d:Nat=>V.int (d:Int)) (fun i σ' H'=>∃ p xs ts o2 o3,σ'=[some (.ref l),some (.ref p),o2,o3]∧Same H H'∧H' p=some (.lst xs)∧Kids K H' ts xs∧T.partsL ts≤i) ?_ ?_ ?_ ?_
 ·exact⟨p0,[],[],_,_,rfl,same_new hp0 _,upd_same,.nil,by rw [T.partsL_nil]; lia⟩
 ·rintro i σ' H' _ ⟨p,xs,ts,o2,o3,rfl,S,_⟩
  exact S.seq hl
 ·rintro i x σ' H2 hx ⟨p,xs,ts,o2,o3,rfl,S2,hpx,hk2',hpl⟩
  have hi:i<ds.length:=by
   have:=(List.getElem?_eq_some_iff.mp hx).1
   rw [List.length_map] at this
   exact this
  obtain⟨c,rfl⟩:∃ c:Int,x=.int c:=by
   rw [List.getElem?_map,List.getElem?_eq_getElem hi] at hx
   exact⟨_,(Option.some.inj hx).symm⟩
  have hlen:=hk2'.length
  have hlp:=T.len_le_parts ts
  have hx2:SqL K H2 p xs:=SqL.of hpx
  have hm0:0≤c % 12:=Int.emod_nonneg c (by decide)
  refine⟨_,rfl,p,xs,rfl,.inl hx2,_,rfl,_,_,rfl,rfl,(by show (0:Int)<12; decide),_,_,rfl,?_⟩
  generalize hmv:(if c % 12<(xs.length:Int) then c % 12 else (xs.length:Int))=mv
  have hv0:0≤mv:=by rw [← hmv]; split <;> lia
  have hv1:mv≤(xs.length:Int):=by rw [← hmv]; split <;> lia
  obtain⟨k,hk1,hk2⟩:∃ k:Nat,(xs.length:Int) - mv=(k:Int)∧k≤xs.length:=⟨((xs.length:Int) - mv).toNat,by lia,by lia⟩
  have c1:cutV xs none (some ((xs.length:Int) - mv))=xs.take k:=by rw [hk1,cut_to]
  have c2:cutV xs (some ((xs.length:Int) - mv)) none=xs.drop k:=by rw [hk1,cut_from]
  refine⟨_,rfl,_,rfl,p,xs,rfl,.inl hx2,_,rfl,_,_,rfl,rfl,_,rfl,p,xs,rfl,hx2,fun p4 hp4=>?_⟩
  have S4:Same H2 (upd H2 p4 (.lst (cutV xs none (some ((xs.length:Int) - mv))))):=same_new hp4 _
  have e4:upd H2 p4 (.lst (cutV xs none (some ((xs.length:Int) - mv)))) p4=some (.lst (xs.take k)):=by rw [upd_same,c1]
  refine⟨_,rfl,_,rfl,p,xs,rfl,.inl (S4.seq hx2),_,rfl,_,_,rfl,rfl,_,rfl,p,xs,rfl,S4.seq hx2,fun p5 hp5=>?_⟩
  have S5:=S4.trans (same_new hp5 (.lst (cutV xs (some ((xs.length:Int) - mv)) none)))
  refine⟨p5,xs.drop k,ts.drop k,rfl,SqL.of (by rw [upd_same,c2]),(Kids.mono (.of S5) hk2').drop k,by (have:=T.partsL_take_drop k ts); lia,fun r H6 S6 kr=>?_⟩
  refine⟨(by show 1≤sizeLine; decide),fun p7 hp7=>?_⟩
  have e4':=S6 _ _ ((same_new hp5 _) _ _ e4)
  have n7:p4≠p7:=ne_of_none e4' hp7
  refine⟨p4,p7,xs.take k,[r],rfl,rfl,by rw [upd_ne n7]; exact e4',upd_same,small (by rw [List.length_take,List.length_singleton]; lia),fun p8 hp8=>?_⟩
  have S8:=S6.trans ((same_new hp7 (.lst [r])).trans (same_new hp8 (.lst (xs.take k++[r]))))
  have S8':=((same_new hp7 (.lst [r])).trans (same_new hp8 (.lst (xs.take k++[r]))))
  have hdl:=T.len_le_parts (ts.take k)
  have hpt:=T.partsL_take_drop k ts
  refine⟨p8,xs.take k++[r],ts.take k++[.node (ts.drop k)],_,_,rfl,S2.trans (S5.trans S8),upd_same,?_,?_⟩
  ·exact All2.append ((Kids.mono (.of (S5.trans S8)) hk2').take k) (All2.one (kr.mono (.of S8')))
  ·rw [T.partsL_append,T.partsL_cons,T.partsL_nil,T.parts_node]
   lia
 ·rintro σ' H' ⟨p,xs,ts,o2,o3,rfl,S,hp,hk,hpl⟩
  rw [List.length_map] at hpl
  exact⟨_,rfl,p,xs,ts,rfl,SqL.of hp,hk,by lia,fun r H2 S2 kr=>q r _ H2 (S.trans S2) kr (by rw [T.parts_node]; lia)⟩
theorem ok__law_piece_by
  (F:Fun K "_law_piece_by" "_law_piece_by" s__law_piece_by f fd):FnOk P w K mg base CX0 31 f fd ["_law_digit","_law_trees"] (spPieceBy K):=by
 refine okQ F sc__law_piece_by (fun vs H Q E h=>?_) (fun cdv A outer s H vs Q E hr h=>?_)
 ·obtain⟨d,lt,x0,x1,t,rfl,_⟩:=h
  rfl
 obtain⟨d,lt,x0,x1,t,rfl,hd64,hlt,hk0,hk1,hpt,q⟩:=h
 refine⟨_,(qss_cons (qs_set (i:=2) sc__law_piece_by.nd rfl (Or.inl rfl) (qe_lst (qa_cons qe_str (qa_cons qe_str (qa_cons qe_str (qa_cons qe_str (qa_cons qe_str (qa_cons qe_str (qa_cons qe_str (qa_cons qe_str (qa_cons qe_str (qa_cons qe_str qa_nil))))))))))))
   (qss_cons (qs_set (i:=2) sc__law_piece_by.nd rfl (Or.inl rfl) (qe_op op_cat (qv 2) (qe_lst (qa_cons qe_str (qa_cons qe_str (qa_cons qe_str (qa_cons qe_str (qa_cons qe_str qa_nil))))))))
   (qss_cons (qs_if (qt_cmpR op_lt (qv 0) qe_int (nomark _)) (qss_one (qs_ret (qe_ix ix_list (qv 2) (qe_op op_mod (qv 0) qe_int) (fun _ _=>rfl)))) qss_nil)
   (qss_one (qs_ret (qe_op op_add_str (qe_ix ix_list (qe_lst (qa_cons qe_str (qa_cons qe_str qa_nil))) (qe_op op_mod (qv 0) qe_int) (fun _ _=>rfl)) (qe_ix ix_tup (qe_ix ix_list (qv 1) (qe_op op_fdiv (qv 0) qe_int) (fun _ _=>rfl)) qe_int (fun _ _=>rfl)))))))),?_⟩
 refine setQ (fun v=>[some (.int (d:Int)),some (.ref lt),some v]) (fun _=>rfl) (fun v H'=>∃ l,v=.ref l∧Same H H'∧H' l=some (.lst (pbA.map fun c=>V.str (tx c)))) (fun R r=>⟨(by show 10≤sizeLine; decide),fun l g=>r _ _ ⟨l,rfl,same_new g _,by rw [upd_same,← pbA_tx]⟩⟩) (fun v1 H1 h1=>?_)
 obtain⟨l1,rfl,S1,hl1⟩:=h1
 refine setQ (fun v=>[some (.int (d:Int)),some (.ref lt),some v]) (fun _=>rfl) (fun v H'=>∃ l,v=.ref l∧Same H H'∧H' l=some (.lst ((pbA++pbB).map fun c=>V.str (tx c)))) (fun R r=>⟨_,rfl,(by show 5≤sizeLine; decide),fun l g=>?_⟩) (fun v2 H2 h2=>?_)
 ·refine⟨l1,l,_,_,rfl,rfl,(same_new g _) _ _ hl1,upd_same,small (by rw [List.length_map]; decide),fun p6 g6=>r _ _ ⟨p6,rfl,S1.trans ((same_new g _).trans (same_new g6 _)),?_⟩⟩
  rw [upd_same,pbB_tx,List.map_append]
 obtain⟨l2,rfl,S2,hl2⟩:=h2
 refine⟨_,rfl,_,_,rfl,rfl,_,rfl,ite2 (fun hk=>?_) (fun hk=>?_)⟩
 ·have hlt':d % 15<(pbA++pbB).length:=by show d % 15<15; lia
  have e:=List.getElem?_eq_getElem hlt'
  refine⟨_,rfl,_,rfl,_,_,rfl,rfl,(by show (0:Int)<15; decide),l2,_,_,_,rfl,rfl,SqL.of hl2,(by rw [show ((d:Int) % 15)=((d % 15:Nat):Int) by lia]; exact atI_nat (by rw [List.getElem?_map,e]; rfl)),q _ _ S2 (pb_all _ (List.getElem_mem hlt'))⟩
 ·have hd60:60≤d:=by
   have:¬ ((d:Int)<60):=fun z=>hk (decide_eq_true z)
   lia
  dsimp only [tNext]
  refine⟨(by show 2≤sizeLine; decide),fun p3 g3=>?_⟩
  have S3:=same_new g3 (.lst [V.str (PySem.Str.ofString "'"),V.str (PySem.Str.ofString "!")])
  have hlt':d % 2<tkB.length:=by show d % 2<2; lia
  have e:=List.getElem?_eq_getElem hlt'
  have h23:=S2.trans S3
  have hc:tkB[d % 2]=[39]∨tkB[d % 2]=[33]:=by
   have:d % 2=0∨d % 2=1:=by lia
   rcases this with z | z
   ·left; simp only [z]; rfl
   ·right; simp only [z]; rfl
  have hl3:SqL K (upd H2 p3 (.lst [V.str (PySem.Str.ofString "'"),V.str (PySem.Str.ofString "!")])) p3 (tkB.map fun c=>V.str (tx c)):=SqL.of (by rw [upd_same,← tkB_tx])
  refine⟨_,rfl,_,_,rfl,rfl,(by show (0:Int)<2; decide),p3,_,_,_,rfl,rfl,hl3,(by rw [show ((d:Int) % 2)=((d % 2:Nat):Int) by lia]; exact atI_nat (by rw [List.getElem?_map,e]; rfl)),?_⟩
  generalize tkB[d % 2]=ch at hc
  have go:∀ (j:Nat) (x:V) (u:T),((d:Int) / 62)=(j:Int)→[x0,x1][j]?=some x→KidR K H u x→u.parts≤201→∃ v,[some (V.int (d:Int)),some (V.ref lt),some (V.ref l2)][1]?=some (some v)∧∃ v',[some (V.int (d:Int)),some (V.ref lt),some (V.ref l2)][0]?=some (some v')∧rI CDiv (fun i j=>.int (i / j)) v' (.int 62) (upd H2 p3 (.lst [V.str (PySem.Str.ofString "'"),V.str (PySem.Str.ofString "!")])) fun y H'=>rIxL K v y H' fun z H''=>rIxT K z (.int 1) H'' fun s H3=>∃ i j,V.str (tx ch)=.str i∧s=.str j∧i.length+j.length≤sizeLine∧Q (.str (i++j)) H3:=by
   intro j x u ej ex kx hu
   obtain⟨ax,vx,rfl,qx,tx'⟩:=kx
   have hwl:=T.wr_len u
   refine⟨_,rfl,_,rfl,_,_,rfl,rfl,⟨by decide,by decide⟩,lt,_,_,_,rfl,rfl,h23.seq hlt,(by rw [ej]; exact atI_nat ex),ax,_,1,_,rfl,rfl,sqT_mono (.of h23) qx,atI_nat (j:=1) rfl,_,_,rfl,rfl,?_,?_⟩
   ·rw [tx_len,tx_len]; exact small (by rcases hc with rfl | rfl <;> (rw [List.length_singleton]; lia))
   ·rw [tx_append]
    have hdp:=T.deep_lt u
    have hpk:=(wr_pk u 0).2
    have hw32:=wr_cnt u (c:=32) (by decide) (by decide)
    have hw93:=wr_cnt u (c:=93) (by decide) (by decide)
    refine q _ _ h23 ⟨?_,?_,?_,?_⟩
    ·rcases hc with rfl | rfl <;> (rw [List.length_append,List.length_singleton]; lia)
    ·rw [List.count_append,hw32]; rcases hc with rfl | rfl <;> decide
    ·rw [List.count_append,hw93]; rcases hc with rfl | rfl <;> decide
    ·have e0:pkP 0 ch=0:=by rcases hc with rfl | rfl <;> rfl
     have:=pk_add ch u.wr
     lia
  by_cases h62:d<62
  ·exact go 0 x0 _ (by lia) rfl hk0 (by rw [T.parts_node,T.partsL_nil]; lia)
  ·exact go 1 x1 t (by lia) rfl hk1 hpt
theorem ok__law_piece (m_len:mg "len"=none)
  {a__law_pick:Addr}{d__law_pick:FuncData} (F__law_pick:Fun K "_law_pick" "_law_pick" s__law_pick a__law_pick d__law_pick) (G__law_pick:FnOk P w K mg base CX0 32 a__law_pick d__law_pick ["_law_cell","_law_turn","_law_many"] spPickD) (b__law_pick:Binds K d__law_pick ["_law_cell","_law_turn","_law_many"] []) (m__law_pick:mg "_law_pick"=some (.ref a__law_pick))
  (F:Fun K "_law_piece" "_law_piece" s__law_piece f fd):FnOk P w K mg base CX0 33 f fd ["_law_cell","_law_trees"] (spPiece K):=by
 refine okQ F sc__law_piece (fun vs H Q E h=>?_) (fun cdv A outer s H vs Q E hr h=>?_)
 ·obtain⟨c,lt,xts,ts,rfl,_⟩:=h
  rfl
 obtain⟨c,lt,xts,ts,rfl,hlt,htk,hne,hbt,q⟩:=h
 refine⟨_,(qss_cons (qs_set (i:=2) sc__law_piece.nd rfl (Or.inl rfl) (qe_lst (qa_cons qe_str (qa_cons qe_str (qa_cons qe_str (qa_cons qe_str (qa_cons qe_str (qa_cons qe_str (qa_cons qe_str (qa_cons qe_str (qa_cons qe_str (qa_cons qe_str (qa_cons qe_str (qa_cons qe_str qa_nil))))))))))))))
   (qss_cons (qs_set (i:=2) sc__law_piece.nd rfl (Or.inl rfl) (qe_op op_cat (qv 2) (qe_lst (qa_cons qe_str (qa_cons qe_str (qa_cons qe_str qa_nil))))))
   (qss_cons (qs_set (i:=3) sc__law_piece.nd rfl (Or.inl rfl) (qe_call G__law_pick hr rfl m__law_pick F__law_pick.kp b__law_pick .nil pass0 (qa_cons (qv 0) (qa_cons qe_int (qa_cons qe_int qa_nil)))))
   (qss_cons (qs_if (qt_cmpR op_lt (qv 3) qe_int (nomark _)) (qss_one (qs_ret (qe_ix ix_list (qv 2) (qv 3) (fun _ _=>rfl)))) qss_nil)
   (qss_cons (qs_set (i:=4) sc__law_piece.nd rfl (Or.inl rfl) (qe_op op_add_str (qe_ix ix_list (qe_lst (qa_cons qe_str (qa_cons qe_str qa_nil))) (qe_op op_mod (qv 3) qe_int) (fun _ _=>rfl)) (qe_ix ix_tup (qe_ix ix_list (qv 1) (qe_call G__law_pick hr rfl m__law_pick F__law_pick.kp b__law_pick .nil pass0 (qa_cons (qv 0) (qa_cons qe_int (qa_cons (qe_callB call_len_seq rfl m_len bt_len (qa_cons (qv 1) qa_nil)) qa_nil)))) (fun _ _=>rfl)) qe_int (fun _ _=>rfl))))
   (qss_cons (qs_set (i:=5) sc__law_piece.nd rfl (Or.inl rfl) (qe_call G__law_pick hr rfl m__law_pick F__law_pick.kp b__law_pick .nil pass0 (qa_cons (qv 0) (qa_cons qe_int (qa_cons (qe_callB call_len_str rfl m_len bt_len (qa_cons (qv 4) qa_nil)) qa_nil)))))
   (qss_cons (qs_if (qt_cmpR op_lt (qv 3) qe_int (nomark _)) (qss_one (qs_ret (qv 4))) qss_nil)
   (qss_one (qs_ret (qe_ix ix_list (qe_lst (qa_cons (qe_op op_add_str (qe_slice sl_str (qv 4) qo_none (qo_some (qv 5))) (qe_slice sl_str (qv 4) (qo_some (qe_op op_add (qv 5) qe_int)) qo_none)) (qa_cons (qe_op op_add_str (qe_op op_add_str (qe_slice sl_str (qv 4) qo_none (qo_some (qv 5))) (qe_ix ix_str qe_str (qe_op op_mod (qv 5) qe_int) (fun _ _=>rfl))) (qe_slice sl_str (qv 4) (qo_some (qv 5)) qo_none)) qa_nil))) (qe_op op_mod (qv 3) qe_int) (fun _ _=>rfl))))))))))),?_⟩
 have hxl:=htk.length
 have hpos:(0:Int)<(xts.length:Int):=by
  have:0<ts.length:=List.length_pos_iff.mpr hne
  lia
 refine setQ (fun v=>[some (.int c),some (.ref lt),some v,none,none,none]) (fun _=>rfl) (fun v H'=>∃ l,v=.ref l∧Same H H'∧H' l=some (.lst (pcA.map fun c=>V.str (tx c)))) (fun R r=>⟨(by show 12≤sizeLine; decide),fun l g=>r _ _ ⟨l,rfl,same_new g _,by rw [upd_same,← pcA_tx]⟩⟩) (fun v1 H1 h1=>?_)
 obtain⟨l1,rfl,S1,hl1⟩:=h1
 refine setQ (fun v=>[some (.int c),some (.ref lt),some v,none,none,none]) (fun _=>rfl) (fun v H'=>∃ l,v=.ref l∧Same H H'∧H' l=some (.lst ((pcA++pcB).map fun c=>V.str (tx c)))) (fun R r=>⟨_,rfl,(by show 3≤sizeLine; decide),fun l g=>?_⟩) (fun v2 H2 h2=>?_)
 ·refine⟨l1,l,_,_,rfl,rfl,(same_new g _) _ _ hl1,upd_same,small (by rw [List.length_map]; decide),fun p6 g6=>r _ _ ⟨p6,rfl,S1.trans ((same_new g _).trans (same_new g6 _)),?_⟩⟩
  rw [upd_same,pcB_tx,List.map_append]
 obtain⟨l2,rfl,S2,hl2⟩:=h2
 refine setQ (fun v=>[some (.int c),some (.ref lt),some (.ref l2),some v,none,none]) (fun _=>rfl) (fun v H'=>H'=H2∧∃ k:Nat,v=.int (k:Int)∧k<19) (fun R r=>⟨_,rfl,c,51,19,rfl,by decide,fun i i0 i1 _=>r _ _ ⟨rfl,i.toNat,by rw [Int.toNat_of_nonneg i0],by lia⟩⟩) (fun v3 H3 h3=>?_)
 obtain⟨rfl,k,rfl,k19⟩:=h3
 refine⟨_,rfl,_,_,rfl,rfl,_,rfl,ite2 (fun hk=>?_) (fun _=>?_)⟩
 ·have hk:(k:Int)<15:=of_decide_eq_true hk
  have hlt':k<(pcA++pcB).length:=by show k<15; lia
  have e:=List.getElem?_eq_getElem hlt'
  exact⟨_,rfl,_,rfl,l2,_,_,_,rfl,rfl,SqL.of hl2,atI_nat (j:=k) (by rw [List.getElem?_map,e]; rfl),q _ _ S2 (pc_all _ (List.getElem_mem hlt'))⟩
 dsimp only [tNext]
 refine setQ (fun v=>[some (.int c),some (.ref lt),some (.ref l2),some (.int (k:Int)),some v,none]) (fun _=>rfl) (fun v H'=>Same H H'∧∃ X,v=.str (tx X)∧Sg4 X∧0<X.length∧X.length≤61) (fun R r=>⟨(by show 2≤sizeLine; decide),fun p3 g3=>?_⟩) (fun v4 H4 h4=>?_)
 ·have S3:=same_new g3 (.lst [V.str (PySem.Str.ofString "'"),V.str (PySem.Str.ofString "!")])
  have S23:=S2.trans S3
  have hlt':k % 2<tkB.length:=by show k % 2<2; lia
  have e:=List.getElem?_eq_getElem hlt'
  have hc:tkB[k % 2]=[39]∨tkB[k % 2]=[33]:=by
   have:k % 2=0∨k % 2=1:=by lia
   rcases this with z | z
   ·left; simp only [z]; rfl
   ·right; simp only [z]; rfl
  have hl3:SqL K (upd H3 p3 (.lst [V.str (PySem.Str.ofString "'"),V.str (PySem.Str.ofString "!")])) p3 (tkB.map fun c=>V.str (tx c)):=SqL.of (by rw [upd_same,← tkB_tx])
  refine⟨_,rfl,_,_,rfl,rfl,(by show (0:Int)<2; decide),p3,_,_,_,rfl,rfl,hl3,(by rw [show ((k:Int) % 2)=((k % 2:Nat):Int) by lia]; exact atI_nat (by rw [List.getElem?_map,e]; rfl)),?_⟩
  generalize tkB[k % 2]=ch at hc
  refine⟨_,rfl,_,rfl,_,rfl,lt,xts,rfl,.inl (S23.seq hlt),c,52,_,rfl,hpos,fun i i0 i1 _=>?_⟩
  obtain⟨x,t,ex,kx,hm⟩:=all_pick htk i0 i1
  obtain⟨ax,vx,rfl,qx,tx'⟩:=kx
  have hwl:=T.wr_len t
  have htp:=hbt t hm
  refine⟨lt,_,_,_,rfl,rfl,S23.seq hlt,ex,ax,_,1,_,rfl,rfl,sqT_mono (.of S23) qx,atI_nat (j:=1) rfl,_,_,rfl,rfl,?_,?_⟩
  ·rw [tx_len,tx_len]; exact small (by rcases hc with rfl | rfl <;> (rw [List.length_singleton]; lia))
  ·rw [tx_append]
   refine r _ _ ⟨S23,_,rfl,?_,?_,?_⟩
   ·rcases hc with rfl | rfl
    ·exact sg4_tree (.inr rfl) t
    ·exact sg4_tree (.inl rfl) t
   ·rcases hc with rfl | rfl <;> (rw [List.length_append,List.length_singleton]; lia)
   ·rcases hc with rfl | rfl <;> (rw [List.length_append,List.length_singleton]; lia)
 obtain⟨S4,X,rfl,sgX,hX0,hX⟩:=h4
 refine setQ (fun v=>[some (.int c),some (.ref lt),some (.ref l2),some (.int (k:Int)),some (.str (tx X)),some v]) (fun _=>rfl) (fun v H'=>H'=H4∧∃ n:Nat,v=.int (n:Int)∧n<X.length) (fun R r=>⟨_,rfl,_,rfl,_,rfl,small (by rw [tx_len]; lia),c,53,_,rfl,by rw [tx_len]; lia,fun i i0 i1 _=>r _ _ ⟨rfl,i.toNat,by rw [Int.toNat_of_nonneg i0],by rw [tx_len] at i1; lia⟩⟩) (fun v5 H5 h5=>?_)
 obtain⟨rfl,n,rfl,hn⟩:=h5
 refine⟨_,rfl,_,_,rfl,rfl,_,rfl,ite2 (fun _=>?_) (fun _=>?_)⟩
 ·exact⟨_,rfl,q _ _ S4 (sgX.psQ (by lia))⟩
 dsimp only [tNext]
 have hzs:X.length≤sizeLine:=small (by lia)
 have cl:∀ lo hi,(cutL X lo hi).length≤61:=fun lo hi=>Nat.le_trans (cutL_len X lo hi) hX
 refine⟨_,rfl,_,rfl,_,rfl,X,rfl,hzs,_,rfl,_,rfl,_,_,rfl,rfl,_,rfl,X,rfl,hzs,_,_,rfl,rfl,?_,?_⟩
 ·rw [tx_len,tx_len]; exact small (by have:=cl none (some (n:Int)); have:=cl (some ((n:Int)+1)) none; lia)
 refine⟨_,rfl,_,rfl,_,rfl,X,rfl,hzs,_,rfl,_,_,rfl,rfl,(by show (0:Int)<2; decide),?_⟩
 obtain⟨s,hs,ehs⟩:∃ s:Nat,(s=40∨s=41)∧atI (PySem.Str.ofString "()").cps.toList ((n:Int) % 2)=some s:=by
  have hm:n % 2=0∨n % 2=1:=by lia
  rcases hm with z | z
  ·exact⟨40,.inl rfl,by rw [show ((n:Int) % 2)=((0:Nat):Int) by lia]; exact atI_nat (by decide +kernel)⟩
  ·exact⟨41,.inr rfl,by rw [show ((n:Int) % 2)=((1:Nat):Int) by lia]; exact atI_nat (by decide +kernel)⟩
 refine⟨_,_,s,rfl,rfl,by decide +kernel,ehs,_,_,rfl,rfl,?_,_,rfl,_,rfl,_,rfl,X,rfl,hzs,_,_,rfl,rfl,?_,?_⟩
 ·rw [show (Str.mk #[s]:Str)=tx [s] from rfl,tx_len,tx_len]; exact small (by have:=cl none (some (n:Int)); rw [List.length_singleton]; lia)
 ·rw [show (Str.mk #[s]:Str)=tx [s] from rfl,tx_append,tx_len,tx_len]; exact small (by have:=cl none (some (n:Int)); have:=cl (some (n:Int)) none; rw [List.length_append,List.length_singleton]; lia)
 rw [show (Str.mk #[s]:Str)=tx [s] from rfl,tx_append,tx_append,tx_append,cutL_to,cutL_from,show ((n:Int)+1)=((n+1:Nat):Int) by lia,cutL_from]
 have p1:PsQ 63 62 (X.take n++X.drop (n+1)):=((sgX.take n).app (sgX.drop (n+1))).psQ (by rw [List.length_append,List.length_take,List.length_drop]; lia)
 have p2:PsQ 63 62 (X.take n++[s]++X.drop n):=(((sgX.take n).app (fun c hc=>by rw [List.mem_singleton.mp hc]; rcases hs with z | z <;> simp [z])).app (sgX.drop n)).psQ (by rw [List.length_append,List.length_append,List.length_take,List.length_drop,List.length_singleton]; lia)
 generalize X.take n++X.drop (n+1)=Y1 at p1
 generalize X.take n++[s]++X.drop n=Y2 at p2
 refine⟨(by show 2≤sizeLine; decide),fun p6 g6=>⟨_,rfl,_,_,rfl,rfl,(by show (0:Int)<2; decide),?_⟩⟩
 have hm:k % 2=0∨k % 2=1:=by lia
 rcases hm with z | z
 ·exact⟨p6,_,_,_,rfl,rfl,SqL.of upd_same,(by rw [show ((k:Int) % 2)=((0:Nat):Int) by lia]; exact atI_nat rfl),q _ _ (S4.trans (same_new g6 _)) p1⟩
 ·exact⟨p6,_,_,_,rfl,rfl,SqL.of upd_same,(by rw [show ((k:Int) % 2)=((1:Nat):Int) by lia]; exact atI_nat rfl),q _ _ (S4.trans (same_new g6 _)) p2⟩
theorem ok__law_changed (m_len:mg "len"=none)
  {a__law_pick:Addr}{d__law_pick:FuncData} (F__law_pick:Fun K "_law_pick" "_law_pick" s__law_pick a__law_pick d__law_pick) (G__law_pick:FnOk P w K mg base CX0 32 a__law_pick d__law_pick ["_law_cell","_law_turn","_law_many"] spPickD) (b__law_pick:Binds K d__law_pick ["_law_cell","_law_turn","_law_many"] []) (m__law_pick:mg "_law_pick"=some (.ref a__law_pick))
  (F:Fun K "_law_changed" "_law_changed" s__law_changed f fd):FnOk P w K mg base CX0 33 f fd ["_law_cell","_law_text_here"] spChanged:=by
 refine okQ F sc__law_changed (fun vs H Q E h=>?_) (fun cdv A outer s H vs Q E hr h=>?_)
 ·obtain⟨c,l,rfl,_⟩:=h
  rfl
 obtain⟨c,l,rfl,hch,q⟩:=h
 refine⟨_,(qss_cons (qs_set (i:=2) sc__law_changed.nd rfl (Or.inl rfl) qe_str)
   (qss_cons (qs_set (i:=3) sc__law_changed.nd rfl (Or.inl rfl) (qe_call G__law_pick hr rfl m__law_pick F__law_pick.kp b__law_pick .nil pass0 (qa_cons (qv 0) (qa_cons qe_int (qa_cons (qe_op op_add (qe_callB call_len_str rfl m_len bt_len (qa_cons (qv 1) qa_nil)) qe_int) qa_nil)))))
   (qss_cons (qs_set (i:=4) sc__law_changed.nd rfl (Or.inl rfl) (qe_ix ix_str (qv 2) (qe_call G__law_pick hr rfl m__law_pick F__law_pick.kp b__law_pick .nil pass0 (qa_cons (qv 0) (qa_cons qe_int (qa_cons (qe_callB call_len_str rfl m_len bt_len (qa_cons (qv 2) qa_nil)) qa_nil)))) (fun _ _=>rfl)))
   (qss_cons (qs_set (i:=5) sc__law_changed.nd rfl (Or.inl rfl) (qe_call G__law_pick hr rfl m__law_pick F__law_pick.kp b__law_pick .nil pass0 (qa_cons (qv 0) (qa_cons qe_int (qa_cons qe_int qa_nil)))))
   (qss_cons (qs_if (qt_cmpR op_eq (qv 5) qe_int (nomark _)) (qss_one (qs_ret (qe_op op_add_str (qe_op op_add_str (qe_slice sl_str (qv 1) qo_none (qo_some (qv 3))) (qv 4)) (qe_slice sl_str (qv 1) (qo_some (qv 3)) qo_none)))) qss_nil)
   (qss_cons (qs_if (qt_cmpR op_eq (qv 5) qe_int (nomark _)) (qss_one (qs_ret (qe_op op_add_str (qe_op op_add_str (qe_slice sl_str (qv 1) qo_none (qo_some (qv 3))) (qv 4)) (qe_slice sl_str (qv 1) (qo_some (qe_op op_add (qv 3) qe_int)) qo_none)))) qss_nil)
   (qss_one (qs_ret (qe_op op_add_str (qe_slice sl_str (qv 1) qo_none (qo_some (qv 3))) (qe_slice sl_str (qv 1) (qo_some (qe_op op_sub (qe_op op_add (qv 3) (qv 5)) qe_int)) qo_none)))))))))),?_⟩
 have hz:l.length≤80000:=by have:=hch.len; lia
 have hzs:l.length≤sizeLine:=small (by lia)
 have mk:∀ (n:Nat) (s:List Nat) (k:Nat),s.length≤1→Q (.str (tx (l.take n++s++l.drop (n+k)))) H:=fun n s k hs=>by
  refine q _ ?_
  have e:=Chg.ok (A:=l.take n) (B:=l.drop n) (by rw [List.take_append_drop]; exact hch) hs k
  rw [List.drop_drop] at e
  exact e
 dsimp only [tSeq]
 generalize hsig:PySem.Str.ofString _=sg
 have hs1:sg.length≤sizeLine:=by rw [← hsig]; decide +kernel
 have hs2:0<sg.cps.toList.length:=by rw [← hsig]; decide +kernel
 have hs3:sg.cps.toList.length=sg.length:=by simp [Str.length]
 clear hsig
 refine⟨_,rfl,_,rfl,_,rfl,by rw [tx_len]; exact hzs,_,_,rfl,rfl,c,54,_,rfl,by lia,fun i hi0 hi1 _=>?_⟩
 refine⟨_,rfl,_,rfl,_,rfl,_,rfl,hs1,c,55,_,rfl,by lia,fun j hj0 hj1 _=>?_⟩
 have hj:j.toNat<sg.cps.toList.length:=by lia
 have ej:=atI_nat (List.getElem?_eq_getElem hj)
 rw [show ((j.toNat:Nat):Int)=j by lia] at ej
 generalize sg.cps.toList[j.toNat]=ch at ej
 refine⟨_,_,ch,rfl,rfl,hs1,ej,?_⟩
 refine⟨_,rfl,c,56,4,rfl,by decide,fun k hk0 hk1 _=>?_⟩
 have cl:∀ lo hi,(cutL l lo hi).length≤80000:=fun lo hi=>Nat.le_trans (cutL_len l lo hi) hz
 have chs:(Str.mk #[ch]:Str)=tx [ch]:=rfl
 rw [chs]
 obtain⟨n,rfl⟩:∃ n:Nat,i=(n:Int):=⟨i.toNat,by lia⟩
 have three:∀ lo hi lo' hi',∀ R:Prop,Q (.str (tx (cutL l lo hi++[ch]++cutL l lo' hi'))) H→((tx (cutL l lo hi)).length+(tx [ch]).length≤sizeLine→(tx (cutL l lo hi)++tx [ch]).length+(tx (cutL l lo' hi')).length≤sizeLine→Q (.str (tx (cutL l lo hi)++tx [ch]++tx (cutL l lo' hi'))) H→R)→R:=fun lo hi lo' hi' R hq h=>by
  have h1:=cl lo hi
  have h2:=cl lo' hi'
  refine h ?_ ?_ ?_
  ·rw [tx_len,tx_len]; exact small (by simp; lia)
  ·rw [tx_append,tx_len,tx_len]; exact small (by simp; lia)
  ·rw [tx_append,tx_append]; exact hq
 refine⟨_,rfl,rfl,_,rfl,ite2 (fun _=>?_) (fun hne0=>?_)⟩
 ·refine three none (some (n:Int)) (some (n:Int)) none _ (by rw [cutL_to,cutL_from]; exact mk n [ch] 0 (Nat.le_refl _)) fun h1 h2 h3=>?_
  exact⟨_,rfl,_,rfl,_,rfl,l,rfl,hzs,_,rfl,_,_,rfl,rfl,h1,_,rfl,_,rfl,_,rfl,l,rfl,hzs,_,_,rfl,rfl,h2,h3⟩
 refine⟨_,rfl,rfl,_,rfl,ite2 (fun _=>?_) (fun hne1=>?_)⟩
 ·refine three none (some (n:Int)) (some ((n:Int)+1)) none _ (by rw [show ((n:Int)+1)=((n+1:Nat):Int) by lia,cutL_to,cutL_from]; exact mk n [ch] 1 (Nat.le_refl _)) fun h1 h2 h3=>?_
  exact⟨_,rfl,_,rfl,_,rfl,l,rfl,hzs,_,rfl,_,_,rfl,rfl,h1,_,rfl,_,rfl,_,_,rfl,rfl,_,rfl,l,rfl,hzs,_,_,rfl,rfl,h2,h3⟩
 ·have h1:=cl none (some (n:Int))
  have h2:=cl (some ((n:Int)+k - 1)) none
  have k0:k≠0:=fun z=>hne0 (by rw [z]; exact decide_eq_true rfl)
  refine⟨_,rfl,_,rfl,_,rfl,l,rfl,hzs,_,rfl,_,rfl,_,rfl,_,_,rfl,rfl,_,_,rfl,rfl,_,rfl,l,rfl,hzs,_,_,rfl,rfl,?_,?_⟩
  ·rw [tx_len,tx_len]; exact small (by lia)
  ·rw [tx_append,show ((n:Int)+k - 1)=((n+(k - 1).toNat:Nat):Int) by lia,cutL_to,cutL_from]
   have:=mk n [] (k - 1).toNat (by decide)
   rw [List.append_nil] at this
   exact this
end
end Sw25
namespace Sw25
open PySem PySem.Spec PyProof.Rows L2 Sw
section
variable {P:Program}{w:World}{K:PySem.W.Frag}{mg:Str→Option Value}{base:Heap}{f:Addr}{fd:FuncData}
def spRight:Sp:=fun vs H Q _=>∃ X,vs=[.str (tx X)]∧StrOk X∧∀ H',Same H H'→Q (.bl true) H'
def spAny (K:PySem.W.Frag):Sp:=fun vs H Q _=>∃ (a:Addr) (ns:List Int),vs=[.ref a]∧SqL K H a (ns.map V.int)∧ns.length≤63∧∀ b X x t Y H',Same H H'→SqT K H' b [.str (tx X),x,.str (tx Y)]→TR K H' t x→t.parts≤201→StrOk X→StrOk Y→Q (.ref b) H'
theorem ok__law_right {cX:Addr} (m_NoText:mg "NoText"=some (.ref cX)) (t1_NoText:PySem.W.typeIn K (.ref cX)=some (.type "type")) (t2_NoText:PySem.W.subIn K (.ref cX) (.type "BaseException")=some true) (t3_NoText:∃ cd,PySem.W.clsIn K cX=some cd) (sXX:PySem.W.subIn K (.ref cX) (.ref cX)=some true)
  {a_read:Addr}{d_read:FuncData} (F_read:Fun K "read" "read" s_read a_read d_read) (G_read:FnOk P w K mg base (CXE P w) 434 a_read d_read ["signs"] (spReadAny K cX)) (b_read:Binds K d_read ["signs"] []) (m_read:mg "read"=some (.ref a_read))
  {a__law_written:Addr}{d__law_written:FuncData} (F__law_written:Fun K "_law_written" "_law_written" s__law_written a__law_written d__law_written) (G__law_written:FnOk P w K mg base CX0 434 a__law_written d__law_written ["_law_text_here"] (spWT K 401)) (b__law_written:Binds K d__law_written ["_law_text_here"] []) (m__law_written:mg "_law_written"=some (.ref a__law_written))
  {a__law_is_tree:Addr}{d__law_is_tree:FuncData} (F__law_is_tree:Fun K "_law_is_tree" "_law_is_tree" s__law_is_tree a__law_is_tree d__law_is_tree) (G__law_is_tree:FnOk P w K mg base CX0 434 a__law_is_tree d__law_is_tree ["_law_found"] (spIsTree K)) (b__law_is_tree:Binds K d__law_is_tree ["_law_found"] []) (m__law_is_tree:mg "_law_is_tree"=some (.ref a__law_is_tree))
  (F:Fun K "_law_right" "_law_right" s__law_right f fd):FnOk P w K mg base CX0 435 f fd ["_law_signs"] spRight:=by
 refine okQ F sc__law_right (fun vs H Q E h=>?_) (fun cdv A outer s H vs Q E hr h=>?_)
 ·obtain⟨X,rfl,_⟩:=h
  rfl
 obtain⟨X,rfl,hok,q⟩:=h
 refine⟨_,(qss_cons (qs_set (i:=1) sc__law_right.nd rfl (Or.inl rfl) qe_non)
   (qss_cons (qs_trySet (i:=1) rfl rfl G_read hr rfl m_read F_read.kp b_read (fun _=>(qa_cons (qv 0) qa_nil)) rfl m_NoText t1_NoText t2_NoText t3_NoText sc__law_right.nd rfl rfl (fun _=>(qss_one (qs_set (i:=1) sc__law_right.nd rfl (Or.inl rfl) qe_non))))
   (qss_cons (qs_if (qt_cmpR op_isN (qv 1) qe_non (nomark _)) (qss_one (qs_ret qe_bl)) qss_nil)
   (qss_one (qs_ret (qe_and (qe_call G__law_is_tree hr rfl m__law_is_tree F__law_is_tree.kp b__law_is_tree .nil pass0 (qa_cons (qv 1) qa_nil)) (qe_one (qe_cmpR op_eq (qe_call G__law_written hr rfl m__law_written F__law_written.kp b__law_written .nil pass0 (qa_cons (qv 1) qa_nil)) (qv 0) (nomark _))))))))),?_⟩
 obtain⟨ps,rfl,hz,hq⟩:=hok
 obtain⟨hlen,fb,hfl,hb⟩:=id hq
 refine⟨_,rfl,_,rfl,.inl ⟨ps,rfl,⟨hz,hq⟩,fun r hr' y H1 S1 ty=>?_,fun hno H1 S1=>⟨cX,rfl,sXX,fun a ha=>?_⟩⟩⟩
 ·have hts:=readF_back hr'
  have hpp:=ts_parts hts
  obtain⟨a,xs,rfl,_,_⟩:=TR_of ty
  refine⟨_,rfl,rfl,_,rfl,iteFb (decide_eq_false (by intro z; cases z)) ?_⟩
  refine⟨_,rfl,.ref a,.node r,rfl,ty,by rw [T.parts_node]; lia,fun H2 S2=>⟨_,rfl,iteT ?_⟩⟩
  refine⟨_,rfl,.ref a,r,ps,fb,rfl,ty.mono (.of S2),hts,hfl,by lia,by lia,hlen,fun H3 S3=>⟨_,rfl,rfl,?_⟩⟩
  rw [decide_eq_true rfl]
  exact q _ (S1.trans (S2.trans S3))
 ·exact⟨_,rfl,rfl,_,rfl,iteTb (by decide) (q _ (S1.trans (same_new ha _)))⟩
theorem ok__law_any
  {a__law_digits:Addr}{d__law_digits:FuncData} (F__law_digits:Fun K "_law_digits" "_law_digits" s__law_digits a__law_digits d__law_digits) (G__law_digits:FnOk P w K mg base CX0 35 a__law_digits d__law_digits ["_law_script","_law_span","_law_most"] (spDigits K)) (b__law_digits:Binds K d__law_digits ["_law_script","_law_span","_law_most"] []) (m__law_digits:mg "_law_digits"=some (.ref a__law_digits))
  {a__law_tree_by:Addr}{d__law_tree_by:FuncData} (F__law_tree_by:Fun K "_law_tree_by" "_law_tree_by" s__law_tree_by a__law_tree_by d__law_tree_by) (G__law_tree_by:FnOk P w K mg base CX0 35 a__law_tree_by d__law_tree_by ["_law_digits_here"] (spTreeBy K)) (b__law_tree_by:Binds K d__law_tree_by ["_law_digits_here"] []) (m__law_tree_by:mg "_law_tree_by"=some (.ref a__law_tree_by))
  {a__law_piece_by:Addr}{d__law_piece_by:FuncData} (F__law_piece_by:Fun K "_law_piece_by" "_law_piece_by" s__law_piece_by a__law_piece_by d__law_piece_by) (G__law_piece_by:FnOk P w K mg base CX0 35 a__law_piece_by d__law_piece_by ["_law_digit","_law_trees"] (spPieceBy K)) (b__law_piece_by:Binds K d__law_piece_by ["_law_digit","_law_trees"] []) (m__law_piece_by:mg "_law_piece_by"=some (.ref a__law_piece_by))
  (F:Fun K "_law_any" "_law_any" s__law_any f fd):FnOk P w K mg base CX0 36 f fd ["_law_script"] (spAny K):=by
 refine okQ F sc__law_any (fun vs H Q E h=>?_) (fun cdv A outer s H vs Q E hr h=>?_)
 ·obtain⟨a,ns,rfl,_⟩:=h
  rfl
 obtain⟨a,ns,rfl,hl,h63,q⟩:=h
 refine⟨_,(qss_cons (qs_set (i:=1) sc__law_any.nd rfl (Or.inr rfl) qe_str)
   (qss_cons (qs_set (i:=1) sc__law_any.nd rfl (Or.inr rfl) (qe_op op_add_str (qv 1) qe_str))
   (qss_cons (qs_set (i:=2) sc__law_any.nd rfl (Or.inl rfl) (qe_bm PySem.F.plainAttrs_str PySem.F.slot_str_join PySem.F.type_str_join mt_join qe_str (qa_cons (qe_lc rfl (lc_free (fr:=["_law_signs"]) (js:=[1]) (sc:=defScope s__law_any) rfl rfl rfl (by decide +kernel) (by decide +kernel) (by decide +kernel) (by decide +kernel) (by exact⟨⟨rfl,rfl,rfl⟩,trivial⟩) (by decide +kernel) (fun y hy=>cell_has hy)) (qi_list (qe_call G__law_digits hr rfl m__law_digits F__law_digits.kp b__law_digits .nil pass0 (qa_cons (qv 0) (qa_cons qe_int (qa_cons qe_int qa_nil))))) (fun _ _ _ _ _=>(qe_ix ix_str (qv 1) (qv 0) (fun _ _=>rfl)))) qa_nil)))
   (qss_cons (qs_set (i:=3) sc__law_any.nd rfl (Or.inl rfl) (qe_call G__law_tree_by hr rfl m__law_tree_by F__law_tree_by.kp b__law_tree_by .nil pass0 (qa_cons (qe_call G__law_digits hr rfl m__law_digits F__law_digits.kp b__law_digits .nil pass0 (qa_cons (qv 0) (qa_cons qe_int (qa_cons qe_int qa_nil)))) qa_nil)))
   (qss_cons (qs_set (i:=4) sc__law_any.nd rfl (Or.inr rfl) (qe_lst (qa_cons (qe_tup (qa_cons (qe_tup qa_nil) (qa_cons qe_str qa_nil))) (qa_cons (qv 3) qa_nil))))
   (qss_cons (qs_setLC (i:=5) sc__law_any.nd rfl (Or.inl rfl) rfl (lc_free (fr:=["_law_trees"]) (js:=[4]) (sc:=defScope s__law_any) rfl rfl rfl (by decide +kernel) (by decide +kernel) (by decide +kernel) (by decide +kernel) (by exact⟨⟨rfl,rfl,rfl⟩,trivial⟩) (by decide +kernel) (fun y hy=>cell_has hy)) (qi_list (qe_call G__law_digits hr rfl m__law_digits F__law_digits.kp b__law_digits .nil pass0 (qa_cons (qv 0) (qa_cons qe_int (qa_cons qe_int qa_nil))))) (fun _ _ _ _ _=>(qe_call G__law_piece_by hr rfl m__law_piece_by F__law_piece_by.kp b__law_piece_by .nil pass0 (qa_cons (qv 0) (qa_cons (qv 1) qa_nil)))))
   (qss_one (qs_ret (qe_tup (qa_cons (qv 2) (qa_cons (qe_ix ix_tup (qv 3) qe_int (fun _ _=>rfl)) (qa_cons (qe_bm PySem.F.plainAttrs_str PySem.F.slot_str_join PySem.F.type_str_join mt_joinS qe_str (qa_cons (qv 5) qa_nil)) qa_nil)))))))))))),?_⟩
 have sgl:∀ i:Nat,i<94→∃ c:Nat,atI (PySem.Str.ofString " !\"#$&'()*+,-./0123456789:;<=>?@ABCDEFGHIJKLMNOPQRSTUVWXYZ[\\]^_`"++PySem.Str.ofString "abcdefghijklmnopqrstuvwxyz{|}~").cps.toList (i:Int)=some c:=fun i hi=>by
  have e:(PySem.Str.ofString " !\"#$&'()*+,-./0123456789:;<=>?@ABCDEFGHIJKLMNOPQRSTUVWXYZ[\\]^_`"++PySem.Str.ofString "abcdefghijklmnopqrstuvwxyz{|}~").cps.toList.length=94:=by decide +kernel
  exact⟨_,atI_nat (List.getElem?_eq_getElem (by rw [e]; exact hi))⟩
 have sgz:(PySem.Str.ofString " !\"#$&'()*+,-./0123456789:;<=>?@ABCDEFGHIJKLMNOPQRSTUVWXYZ[\\]^_`"++PySem.Str.ofString "abcdefghijklmnopqrstuvwxyz{|}~").length≤sizeLine:=by decide +kernel
 refine setQ (fun v=>[some (.ref a),some v,none,none,none,none]) (fun _=>rfl) (fun v H'=>H'=H∧v=.str (PySem.Str.ofString " !\"#$&'()*+,-./0123456789:;<=>?@ABCDEFGHIJKLMNOPQRSTUVWXYZ[\\]^_`")) (fun R r=>r _ _ ⟨rfl,rfl⟩) (fun v1 H1 h1=>?_)
 obtain⟨rfl,rfl⟩:=h1
 refine setQ (fun v=>[some (.ref a),some v,none,none,none,none]) (fun _=>rfl) (fun v H'=>H'=H1∧∃ sg:Str,v=.str sg∧sg.length≤sizeLine∧∀ i:Nat,i<94→∃ c:Nat,atI sg.cps.toList (i:Int)=some c) (fun R r=>⟨_,rfl,_,_,rfl,rfl,by decide +kernel,r _ _ ⟨rfl,_,rfl,sgz,sgl⟩⟩) (fun v2 H2 h2=>?_)
 obtain⟨rfl,sg,rfl,sg1,sg2⟩:=h2
 refine setQ (fun v=>[some (.ref a),some (.str sg),some v,none,none,none]) (fun _=>rfl) (fun v H'=>Same H2 H'∧∃ X,v=.str (tx X)∧X.length≤300) (fun R r=>⟨rfl,_,rfl,a,ns,94,300,rfl,hl,h63,by decide,by decide,by decide,fun l ds H3 S3 h3 hd3 hn3=>⟨l,rfl,⟨_,SqL.of h3⟩,?_⟩⟩) (fun v3 H3 h3=>?_)
 ·refine lc_listI (K:=K) (xs:=ds.map fun d:Nat=>V.int (d:Int)) (fun D i ys H'=>H3 D=none∧Same H3 H'∧H' D=some (.lst ys)∧∃ ls:List (List Nat),ys=ls.map (fun c=>V.str (tx c))∧ls.length=i∧ls.flatten.length=i) (small (by rw [List.length_map]; lia)) (fun D hD=>⟨hD,same_new hD _,upd_same,[],rfl,rfl,rfl⟩) (fun D i ys H' j=>?_) (fun D i x ys H' R' hx j hR=>?_) (fun D ys H' j=>?_)
  ·obtain⟨hD,S,h1,ls,rfl,e1,e2⟩:=j
   exact⟨h1,by rw [List.length_map]; exact e1,SqL.of (S _ _ h3)⟩
  ·obtain⟨hD,S,h1,ls,rfl,e1,e2⟩:=j
   rw [List.getElem?_map] at hx
   cases hi:ds[i]? with
   | none=>rw [hi] at hx; cases hx
   | some d =>
   rw [hi] at hx
   have hx:V.int (d:Int)=x:=Option.some.inj hx
   subst hx
   obtain⟨c,hc⟩:=sg2 d (hd3 d (List.mem_of_getElem? hi))
   refine⟨_,rfl,_,rfl,sg,_,c,rfl,rfl,sg1,hc,hR _ _ h1 ⟨hD,same_upd S hD,upd_same,ls++[[c]],?_,?_,?_⟩⟩
   ·rw [List.map_append]; rfl
   ·rw [List.length_append,e1]; rfl
   ·rw [List.flatten_append,List.length_append,e2]; rfl
  ·obtain⟨hD,S,h1,ls,rfl,e1,e2⟩:=j
   rw [List.length_map] at e1 e2
   exact⟨D,ls,tx_nil ▸ rfl,rfl,SqL.of h1,by lia,r _ _ ⟨S3.trans S,_,rfl,by lia⟩⟩
 obtain⟨S3,X,rfl,hX⟩:=h3
 refine setQ (fun v=>[some (.ref a),some (.str sg),some (.str (tx X)),some v,none,none]) (fun _=>rfl) (fun v H'=>Same H3 H'∧∃ t,KidR K H' t v∧t.parts≤201) (fun R r=>⟨_,rfl,a,ns,12,200,rfl,S3.seq hl,h63,by decide,by decide,by decide,fun l ds H4 S4 h4 hd4 hn4=>⟨l,ds,rfl,SqL.of h4,hn4,fun r5 t H5 S5 k5 p5=>r _ _ ⟨S4.trans S5,t,k5,p5⟩⟩⟩) (fun v4 H4 h4=>?_)
 obtain⟨S4,t,k4,hpt⟩:=h4
 have S34:=S3.trans S4
 refine setQ (fun v=>[some (.ref a),some (.str sg),some (.str (tx X)),some v4,some v,none]) (fun _=>rfl) (fun v H'=>Same H4 H'∧∃ lt x0,v=.ref lt∧H' lt=some (.lst [x0,v4])∧KidR K H' (.node []) x0) (fun R r=>⟨Nat.zero_le _,fun p5 g5=>⟨(by show 2≤sizeLine; decide),fun p6 g6=>⟨_,rfl,(by show 2≤sizeLine; decide),fun p7 g7=>?_⟩⟩⟩) (fun v5 H5 h5=>?_)
 ·obtain⟨S5,t5⟩:=tupN (K:=K) (ts:=[]) g5 (TRs_nil.mpr rfl)
  have S6:=same_new g6 (.tup [.ref p5,.str (PySem.Str.ofString "()")])
  have k6:KidR K (upd (upd H4 p5 (.tup [])) p6 (.tup [.ref p5,.str (PySem.Str.ofString "()")])) (.node []) (.ref p6):=⟨p6,.ref p5,rfl,SqT.of (by rw [upd_same,tx_leaf]; rfl),t5.mono (.of S6)⟩
  exact r _ _ ⟨S5.trans (S6.trans (same_new g7 _)),p7,.ref p6,rfl,upd_same,k6.mono (.new g7)⟩
 obtain⟨S5,lt,x0,rfl,hlt,k0⟩:=h5
 have S35:=S34.trans S5
 have k45:=k4.mono (.of S5)
 refine⟨_,rfl,a,ns,64,90,rfl,S35.seq hl,h63,by decide,by decide,by decide,fun l ds H6 S6 h6 hd6 hn6=>⟨l,rfl,⟨_,SqL.of h6⟩,?_⟩⟩
 refine lc_listI (K:=K) (xs:=ds.map fun d:Nat=>V.int (d:Int)) (fun D i ys H'=>H6 D=none∧Same H6 H'∧H' D=some (.lst ys)∧∃ ls:List (List Nat),ys=ls.map (fun c=>V.str (tx c))∧ls.length=i∧∀ p∈ls,PsQ 403 200 p) (small (by rw [List.length_map]; lia)) (fun D hD=>⟨hD,same_new hD _,upd_same,[],rfl,rfl,(fun p hp=>by cases hp)⟩) (fun D i ys H' j=>?_) (fun D i x ys H' R' hx j hR=>?_) (fun D ys H' j=>?_)
 ·obtain⟨hD,S,h1,ls,rfl,e1,e2⟩:=j
  exact⟨h1,by rw [List.length_map]; exact e1,SqL.of (S _ _ h6)⟩
 ·obtain⟨hD,S,h1,ls,rfl,e1,e2⟩:=j
  rw [List.getElem?_map] at hx
  cases hi:ds[i]? with
  | none=>rw [hi] at hx; cases hx
  | some d =>
  rw [hi] at hx
  have hx:V.int (d:Int)=x:=Option.some.inj hx
  subst hx
  have S6':=S6.trans S
  refine⟨_,rfl,_,rfl,d,lt,x0,v4,t,rfl,hd6 d (List.mem_of_getElem? hi),SqL.of (S6' _ _ hlt),k0.mono (.of S6'),k45.mono (.of S6'),hpt,fun p H7 S7 hp=>hR _ _ (S7 _ _ h1) ⟨hD,same_upd (S.trans S7) hD,upd_same,ls++[p],?_,?_,fun p' hp'=>?_⟩⟩
  ·rw [List.map_append]; rfl
  ·rw [List.length_append,e1]; rfl
  ·rcases List.mem_append.mp hp' with z | z
   ·exact e2 p' z
   ·rw [List.mem_singleton.mp z]; exact hp
 ·obtain⟨hD,S,h1,ls,rfl,e1,e2⟩:=j
  rw [List.length_map] at e1
  have S6':=S6.trans S
  obtain⟨av,xv,rfl,qv4,tv4⟩:=k45.mono (K:=K) (.of S6')
  have hjl:ls.flatten.length+ls.length * [32].length≤16777216:=by
   have:∀ l:List (List Nat),(∀ p∈l,PsQ 403 200 p)→l.flatten.length≤403 * l.length:=by
    intro l hl'
    induction l with
    | nil=>exact Nat.zero_le _
    | cons p l ih =>
     have h1:=(hl' p List.mem_cons_self).1
     have h2:=ih fun p hp=>hl' p (List.mem_cons_of_mem _ hp)
     rw [List.flatten_cons,List.length_append,List.length_cons]
     lia
   have:=this ls e2
   rw [List.length_singleton]
   lia
  refine⟨_,rfl,_,rfl,av,_,0,xv,rfl,rfl,qv4,atI_nat (j:=0) rfl,rfl,_,rfl,D,[32],ls,(by rw [tx_blank]),rfl,SqL.of h1,hjl,(by show 3≤sizeLine; decide),fun p9 g9=>?_⟩
  exact q p9 X xv t _ _ (S35.trans (S6'.trans (same_new g9 _))) (SqT.of upd_same) (tv4.mono (.new g9)) hpt (strOk_any hX) (strOk_row e2 (by lia:ls.length≤90) (by decide) (by decide))
theorem ok__law_all_right {cX:Addr}
  {a__law_any:Addr}{d__law_any:FuncData} (F__law_any:Fun K "_law_any" "_law_any" s__law_any a__law_any d__law_any) (G__law_any:FnOk P w K mg base CX0 435 a__law_any d__law_any ["_law_script"] (spAny K)) (b__law_any:Binds K d__law_any ["_law_script"] []) (m__law_any:mg "_law_any"=some (.ref a__law_any))
  {a__law_written:Addr}{d__law_written:FuncData} (F__law_written:Fun K "_law_written" "_law_written" s__law_written a__law_written d__law_written) (G__law_written:FnOk P w K mg base CX0 435 a__law_written d__law_written ["_law_text_here"] (spWT K 401)) (b__law_written:Binds K d__law_written ["_law_text_here"] []) (m__law_written:mg "_law_written"=some (.ref a__law_written))
  {a__law_is_tree:Addr}{d__law_is_tree:FuncData} (F__law_is_tree:Fun K "_law_is_tree" "_law_is_tree" s__law_is_tree a__law_is_tree d__law_is_tree) (G__law_is_tree:FnOk P w K mg base CX0 435 a__law_is_tree d__law_is_tree ["_law_found"] (spIsTree K)) (b__law_is_tree:Binds K d__law_is_tree ["_law_found"] []) (m__law_is_tree:mg "_law_is_tree"=some (.ref a__law_is_tree))
  {a_read:Addr}{d_read:FuncData} (F_read:Fun K "read" "read" s_read a_read d_read) (G_read:FnOk P w K mg base (CXE P w) 435 a_read d_read ["signs"] (spReadAny K cX)) (b_read:Binds K d_read ["signs"] []) (m_read:mg "read"=some (.ref a_read))
  {a_show:Addr}{d_show:FuncData} (F_show:Fun K "show" "show" s_show a_show d_show) (G_show:FnOk P w K mg base CX0 435 a_show d_show ["text"] (spShowX K)) (b_show:Binds K d_show ["text"] []) (m_show:mg "show"=some (.ref a_show))
  {a__law_right:Addr}{d__law_right:FuncData} (F__law_right:Fun K "_law_right" "_law_right" s__law_right a__law_right d__law_right) (G__law_right:FnOk P w K mg base CX0 435 a__law_right d__law_right ["_law_signs"] spRight) (b__law_right:Binds K d__law_right ["_law_signs"] []) (m__law_right:mg "_law_right"=some (.ref a__law_right))
  (F:Fun K "_law_all_right" "_law_all_right" s__law_all_right f fd):FnOk P w K mg base CX0 436 f fd ["_law_script"] (spLaw K):=by
 refine okQ F sc__law_all_right (fun vs H Q E h=>?_) (fun cdv A outer s H vs Q E hr h=>?_)
 ·obtain⟨a,ns,rfl,_⟩:=h
  rfl
 obtain⟨a,ns,rfl,hl,h63,q⟩:=h
 have hE:=hr.un
 have hE:(A.deeper (envOfC "_law_all_right" (defScope s__law_all_right) s.heap.objs.size f cdv)).units+401<cLine:=by lia
 refine⟨_,(qss_cons (qs_asg (qe_call G__law_any hr rfl m__law_any F__law_any.kp b__law_any .nil pass0 (qa_cons (qv 0) qa_nil)) (qg_tup rfl (qgs_cons (qg_name (i:=1) sc__law_all_right.nd rfl (Or.inl rfl)) (qgs_cons (qg_name (i:=2) sc__law_all_right.nd rfl (Or.inl rfl)) (qgs_cons (qg_name (i:=3) sc__law_all_right.nd rfl (Or.inl rfl)) qgs_nil)))))
   (qss_cons (qs_set (i:=4) sc__law_all_right.nd rfl (Or.inl rfl) (qe_call G__law_written hr rfl m__law_written F__law_written.kp b__law_written .nil pass0 (qa_cons (qv 2) qa_nil)))
   (qss_cons (qs_if (QW.pt (qw_or (qt_cmpR op_ne (qe_call G_show hr rfl m_show F_show.kp b_show .nil pass0 (qa_cons (qv 2) qa_nil)) (qv 4) (nomark _)) (qw_or (qt_cmpR (op_neTr hE) (qe_call G_read hr rfl m_read F_read.kp b_read .nil passE (qa_cons (qv 4) qa_nil)) (qv 2) (nomark _)) (qw_or1 (qt_not (qt_val (qe_call G__law_is_tree hr rfl m__law_is_tree F__law_is_tree.kp b__law_is_tree .nil pass0 (qa_cons (qe_call G_read hr rfl m_read F_read.kp b_read .nil passE (qa_cons (qv 4) qa_nil)) qa_nil)))))))) (qss_one (qs_ret qe_bl)) qss_nil)
   (qss_one (qs_ret (qe_and (qe_call G__law_right hr rfl m__law_right F__law_right.kp b__law_right .nil pass0 (qa_cons (qv 1) qa_nil)) (qe_and (qe_call G__law_right hr rfl m__law_right F__law_right.kp b__law_right .nil pass0 (qa_cons (qv 3) qa_nil)) (qe_one (qe_cmpR (op_eqTr hE) (qe_call G_read hr rfl m_read F_read.kp b_read .nil passE (qa_cons (qv 4) qa_nil)) (qv 2) (nomark _)))))))))),?_⟩
 refine⟨_,rfl,a,ns,rfl,hl,h63,fun b X x t Y H1 S1 hb tx1 hpt okX okY=>?_⟩
 have htd:=T.deep_lt t
 obtain⟨ps,hts⟩:=ts_all t.kids
 have hkp:=T.parts_kids t
 have hkd:=deep_eq t
 obtain⟨rz,rq⟩:=ts_rowQ hts (by lia) (by lia)
 obtain⟨hlen,fb,hfl,hfb⟩:=id rq
 have rd:=readF_ts hts
 have ek:T.node t.kids=t:=by cases t; rfl
 refine⟨b,_,rfl,hb,rfl,_,_,rfl,_,_,rfl,_,_,rfl,rfl,?_⟩
 dsimp only [gName,gNil]
 refine setQ (fun v=>[some (.ref a),some (.str (tx X)),some x,some (.str (tx Y)),some v]) (fun _=>rfl) (fun v H'=>Same H1 H'∧v=.str (tx (joinL [32] ps))) (fun R r=>⟨_,rfl,x,t.kids,ps,fb,rfl,by rw [ek]; exact tx1,hts,hfl,by lia,by lia,hlen,fun H2 S2=>r _ _ ⟨S2,rfl⟩⟩) (fun v2 H2 h2=>?_)
 obtain⟨S2,rfl⟩:=h2
 have rdd:∀ {H3:Hp}{x':V}{Q':VK}{E':XK},x'=.str (tx (joinL [32] ps))→(∀ y H',Same H3 H'→TR K H' t y→Q' y H')→spReadAny K cX [x'] H3 Q' E':=fun e k=>⟨_,rfl,.inl ⟨ps,e,⟨rz,rq⟩,fun r hr' y H' S ty=>by
  rw [rd] at hr'
  cases hr'
  rw [ek] at ty
  exact k y H' S ty,fun hno=>absurd (hno.symm.trans rd) (by simp)⟩⟩
 have S12:=S1.trans S2
 have tx2:=tx1.mono (K:=K) (.of S2)
 refine⟨_,rfl,x,t.kids,ps,rfl,by rw [ek]; exact tx2,hts,by rw [ek]; exact⟨by lia,by lia⟩,fun H3 S3=>⟨_,rfl,rfl,_,rfl,?_⟩⟩
 refine iteFb (by rw [decide_eq_true rfl]; rfl) ?_
 refine⟨_,rfl,rdd rfl fun y4 H4 S4 t4=>⟨_,rfl,t,t,t4,tx2.mono (.of (S3.trans S4)),by lia,_,rfl,?_⟩⟩
 rw [T.beq_self]
 refine iteFb rfl ?_
 refine⟨_,rfl,rdd rfl fun y5 H5 S5 t5=>⟨y5,t,rfl,t5,by lia,fun H6 S6=>⟨_,rfl,iteFb rfl ?_⟩⟩⟩
 dsimp only [tNext]
 refine⟨_,rfl,X,rfl,okX,fun H7 S7=>⟨_,rfl,iteT ⟨_,rfl,Y,rfl,okY,fun H8 S8=>⟨_,rfl,iteT ?_⟩⟩⟩⟩
 refine⟨_,rfl,rdd rfl fun y9 H9 S9 t9=>⟨_,rfl,t,t,t9,tx2.mono (.of (S3.trans (S4.trans (S5.trans (S6.trans (S7.trans (S8.trans S9))))))),by lia,?_⟩⟩
 rw [T.beq_self]
 exact q _
end
end Sw25
namespace Sw25
open PySem PySem.Spec PyProof.Rows L2 Sw
section
variable {P:Program}{w:World}{K:PySem.W.Frag}{mg:Str→Option Value}{base:Heap}{f:Addr}{fd:FuncData}
theorem cutN (ns:List Int) (i j:Nat):∃ ms:List Int,cutV (ns.map V.int) (some (i:Int)) (some (j:Int))=ms.map V.int∧ms.length≤j - i:=by
 refine⟨(ns.drop (min i ns.length)).take (min j ns.length - min i ns.length),?_,?_⟩
 ·unfold cutV
  rw [HT.sIx_nat,HT.sIx_nat,List.length_map,List.map_take,List.map_drop]
 ·rw [List.length_take]; lia
theorem str_mem {H:Hp}{lr:Addr}{Ys:List (List Nat)}{x:V}{i:Nat} (h:(Ys.map fun c=>V.str (tx c))[i]?=some x):∃ Y∈Ys,x=.str (tx Y):=by
 have:=List.mem_of_getElem? h
 obtain⟨Y,hY,e⟩:=List.mem_map.mp this
 exact⟨Y,hY,e.symm⟩
theorem ok_law {cX:Addr} (m_len:mg "len"=none) (m_range:mg "range"=none)
  {a__law_all_right:Addr}{d__law_all_right:FuncData} (F__law_all_right:Fun K "_law_all_right" "_law_all_right" s__law_all_right a__law_all_right d__law_all_right) (G__law_all_right:FnOk P w K mg base CX0 436 a__law_all_right d__law_all_right ["_law_script"] (spLaw K)) (b__law_all_right:Binds K d__law_all_right ["_law_script"] []) (m__law_all_right:mg "_law_all_right"=some (.ref a__law_all_right))
  {a__law_grown:Addr}{d__law_grown:FuncData} (F__law_grown:Fun K "_law_grown" "_law_grown" s__law_grown a__law_grown d__law_grown) (G__law_grown:FnOk P w K mg base CX0 436 a__law_grown d__law_grown ["_law_cells"] (spGrownP K)) (b__law_grown:Binds K d__law_grown ["_law_cells"] []) (m__law_grown:mg "_law_grown"=some (.ref a__law_grown))
  {a__law_joined:Addr}{d__law_joined:FuncData} (F__law_joined:Fun K "_law_joined" "_law_joined" s__law_joined a__law_joined d__law_joined) (G__law_joined:FnOk P w K mg base CX0 436 a__law_joined d__law_joined ["_law_kids"] (spJoinedP K)) (b__law_joined:Binds K d__law_joined ["_law_kids"] []) (m__law_joined:mg "_law_joined"=some (.ref a__law_joined))
  {a__law_text:Addr}{d__law_text:FuncData} (F__law_text:Fun K "_law_text" "_law_text" s__law_text a__law_text d__law_text) (G__law_text:FnOk P w K mg base CX0 436 a__law_text d__law_text ["_law_words_here"] (spTextX K)) (b__law_text:Binds K d__law_text ["_law_words_here"] []) (m__law_text:mg "_law_text"=some (.ref a__law_text))
  {a__law_drawn:Addr}{d__law_drawn:FuncData} (F__law_drawn:Fun K "_law_drawn" "_law_drawn" s__law_drawn a__law_drawn d__law_drawn) (G__law_drawn:FnOk P w K mg base CX0 436 a__law_drawn d__law_drawn ["_law_script","_law_start"] (spDrawnW K)) (b__law_drawn:Binds K d__law_drawn ["_law_script","_law_start"] []) (m__law_drawn:mg "_law_drawn"=some (.ref a__law_drawn))
  {a__law_piece:Addr}{d__law_piece:FuncData} (F__law_piece:Fun K "_law_piece" "_law_piece" s__law_piece a__law_piece d__law_piece) (G__law_piece:FnOk P w K mg base CX0 436 a__law_piece d__law_piece ["_law_cell","_law_trees"] (spPiece K)) (b__law_piece:Binds K d__law_piece ["_law_cell","_law_trees"] []) (m__law_piece:mg "_law_piece"=some (.ref a__law_piece))
  {a__law_changed:Addr}{d__law_changed:FuncData} (F__law_changed:Fun K "_law_changed" "_law_changed" s__law_changed a__law_changed d__law_changed) (G__law_changed:FnOk P w K mg base CX0 436 a__law_changed d__law_changed ["_law_cell","_law_text_here"] spChanged) (b__law_changed:Binds K d__law_changed ["_law_cell","_law_text_here"] []) (m__law_changed:mg "_law_changed"=some (.ref a__law_changed))
  {a__law_at:Addr}{d__law_at:FuncData} (F__law_at:Fun K "_law_at" "_law_at" s__law_at a__law_at d__law_at) (G__law_at:FnOk P w K mg base CX0 436 a__law_at d__law_at ["_law_script","_law_k"] (spAtD K)) (b__law_at:Binds K d__law_at ["_law_script","_law_k"] []) (m__law_at:mg "_law_at"=some (.ref a__law_at))
  {a__law_right:Addr}{d__law_right:FuncData} (F__law_right:Fun K "_law_right" "_law_right" s__law_right a__law_right d__law_right) (G__law_right:FnOk P w K mg base CX0 436 a__law_right d__law_right ["_law_signs"] spRight) (b__law_right:Binds K d__law_right ["_law_signs"] []) (m__law_right:mg "_law_right"=some (.ref a__law_right))
  {a__law_written:Addr}{d__law_written:FuncData} (F__law_written:Fun K "_law_written" "_law_written" s__law_written a__law_written d__law_written) (G__law_written:FnOk P w K mg base CX0 436 a__law_written d__law_written ["_law_text_here"] (spWT K 401)) (b__law_written:Binds K d__law_written ["_law_text_here"] []) (m__law_written:mg "_law_written"=some (.ref a__law_written))
  {a_read:Addr}{d_read:FuncData} (F_read:Fun K "read" "read" s_read a_read d_read) (G_read:FnOk P w K mg base (CXE P w) 436 a_read d_read ["signs"] (spReadAny K cX)) (b_read:Binds K d_read ["signs"] []) (m_read:mg "read"=some (.ref a_read))
  {a_show:Addr}{d_show:FuncData} (F_show:Fun K "show" "show" s_show a_show d_show) (G_show:FnOk P w K mg base CX0 436 a_show d_show ["text"] (spShowX K)) (b_show:Binds K d_show ["text"] []) (m_show:mg "show"=some (.ref a_show))
  (F:Fun K "law" "law" s_law f fd):FnOk P w K mg base CX0 437 f fd ["_law_script"] (spLaw K):=by
 refine okQ F sc_law (fun vs H Q E h=>?_) (fun cdv A outer s H vs Q E hr h=>?_)
 ·obtain⟨a,ns,rfl,_⟩:=h
  rfl
 obtain⟨a,ns,rfl,hl,h63,q⟩:=h
 have hE:=hr.un
 have hE:(A.deeper (envOfC "law" (defScope s_law) s.heap.objs.size f cdv)).units+401<cLine:=by lia
 refine⟨_,(qss_cons (qs_if (QW.pt (qw_and (qt_cmpR op_gt (qe_callB call_len_seq rfl m_len bt_len (qa_cons (qv 0) qa_nil)) qe_int (nomark _)) (qw_and1 (qt_cmpR op_eq (qe_op op_mod (qe_ix ix_list (qv 0) qe_int (fun _ _=>rfl)) qe_int) qe_int (nomark _))))) (qss_one (qs_ret (qe_call G__law_all_right hr rfl m__law_all_right F__law_all_right.kp b__law_all_right .nil pass0 (qa_cons (qv 0) qa_nil)))) qss_nil)
   (qss_cons (qs_set (i:=1) sc_law.nd rfl (Or.inr rfl) (qe_op op_cat (qe_lst (qa_cons (qe_tup (qa_cons (qe_tup qa_nil) (qa_cons qe_str qa_nil))) qa_nil)) (qe_call G__law_grown hr rfl m__law_grown F__law_grown.kp b__law_grown .nil pass0 (qa_cons (qe_slice sl_list (qv 0) (qo_some qe_int) (qo_some qe_int)) qa_nil))))
   (qss_cons (qs_set (i:=2) sc_law.nd rfl (Or.inl rfl) (qe_ix ix_tup (qe_call G__law_joined hr rfl m__law_joined F__law_joined.kp b__law_joined .nil pass0 (qa_cons (qv 1) qa_nil)) qe_int (fun _ _=>rfl)))
   (qss_cons (qs_set (i:=3) sc_law.nd rfl (Or.inl rfl) (qe_ix ix_tup (qe_call G__law_text hr rfl m__law_text F__law_text.kp b__law_text .nil pass0 (qa_cons (qe_call G__law_drawn hr rfl m__law_drawn F__law_drawn.kp b__law_drawn .nil pass0 (qa_cons (qv 0) (qa_cons qe_int qa_nil))) qa_nil)) qe_int (fun _ _=>rfl)))
   (qss_cons (qs_set (i:=4) sc_law.nd rfl (Or.inl rfl) (qe_lst (qa_cons (qe_bm PySem.F.plainAttrs_str PySem.F.slot_str_join PySem.F.type_str_join mt_joinS qe_str (qa_cons (qe_lc rfl (lc_free (fr:=["_law_trees"]) (js:=[1]) (sc:=defScope s_law) rfl rfl rfl (by decide +kernel) (by decide +kernel) (by decide +kernel) (by decide +kernel) (by exact⟨⟨rfl,rfl,rfl⟩,trivial⟩) (by decide +kernel) (fun y hy=>cell_has hy)) (qi_list (qe_slice sl_list (qv 0) (qo_some qe_int) (qo_some qe_int))) (fun _ _ _ _ _=>(qe_call G__law_piece hr rfl m__law_piece F__law_piece.kp b__law_piece .nil pass0 (qa_cons (qv 0) (qa_cons (qv 1) qa_nil))))) qa_nil)) qa_nil)))
   (qss_cons (qs_for PassesOwn.never rfl (qi_range1 rfl m_range (qa_cons qe_int qa_nil)) (qg_name (i:=5) sc_law.nd rfl (Or.inl rfl)) (qss_one (qs_expr (qe_bm PySem.F.plainAttrs_list PySem.F.slot_list_append PySem.F.type_list_append mt_append (qv 4) (qa_cons (qe_call G__law_changed hr rfl m__law_changed F__law_changed.kp b__law_changed .nil pass0 (qa_cons (qe_op op_add (qe_call G__law_at hr rfl m__law_at F__law_at.kp b__law_at .nil pass0 (qa_cons (qv 0) (qa_cons (qe_op op_add qe_int (qv 5)) qa_nil))) (qe_op op_mul qe_int (qv 5))) (qa_cons (qv 3) qa_nil))) qa_nil)))))
   (qss_cons (qs_for PassesOwn.never rfl (qi_range1 rfl m_range (qa_cons qe_int qa_nil)) (qg_name (i:=6) sc_law.nd rfl (Or.inl rfl)) (qss_cons (qs_for PassesOwn.never rfl (qi_list (qv 4)) (qg_name (i:=7) sc_law.nd rfl (Or.inl rfl)) (qss_one (qs_if (qt_not (qt_val (qe_call G__law_right hr rfl m__law_right F__law_right.kp b__law_right .nil pass0 (qa_cons (qv 7) qa_nil)))) (qss_one (qs_ret qe_bl)) qss_nil)))
   (qss_cons (qs_set (i:=7) sc_law.nd rfl (Or.inl rfl) (qe_call G__law_written hr rfl m__law_written F__law_written.kp b__law_written .nil pass0 (qa_cons (qv 2) qa_nil)))
   (qss_one (qs_if (QW.pt (qw_or (qt_cmpR op_ne (qe_call G_show hr rfl m_show F_show.kp b_show .nil pass0 (qa_cons (qv 2) qa_nil)) (qv 7) (nomark _)) (qw_or1 (qt_cmpR (op_neTr hE) (qe_call G_read hr rfl m_read F_read.kp b_read .nil passE (qa_cons (qv 7) qa_nil)) (qv 2) (nomark _))))) (qss_one (qs_ret qe_bl)) qss_nil)))))
   (qss_one (qs_ret (qe_cmpR (op_eqTr hE) (qe_call G_read hr rfl m_read F_read.kp b_read .nil passE (qa_cons (qv 3) qa_nil)) (qe_ix ix_tup (qe_call G__law_text hr rfl m__law_text F__law_text.kp b__law_text .nil pass0 (qa_cons (qe_call G__law_drawn hr rfl m__law_drawn F__law_drawn.kp b__law_drawn .nil pass0 (qa_cons (qv 0) (qa_cons qe_int qa_nil))) qa_nil)) qe_int (fun _ _=>rfl)) (nomark _))))))))))),?_⟩
 refine ifAny (fun σ' H'=>σ'=[some (.ref a),none,none,none,none,none,none,none]∧H'=H) (fun σ' H' h0=>?_) (fun A B' hA hB=>⟨_,rfl,a,_,rfl,.inl hl,_,_,rfl,rfl,_,rfl,ite2 (fun hgt=>?_) (fun _=>iteF (hB _ ⟨rfl,rfl⟩))⟩)
 rotate_left
 ·have hgt:(1:Int)<((ns.map V.int).length:Int):=of_decide_eq_true hgt
  have hi0:=at_tab (ns:=ns) (k:=0) (by decide) (by lia)
  exact⟨_,rfl,a,_,0,_,rfl,rfl,hl,hi0,_,_,rfl,rfl,(by show (0:Int)<2; decide),rfl,_,rfl,ite2 (fun _=>hA _ fun N hN=>⟨_,rfl,a,ns,rfl,hl,h63,q⟩) (fun _=>hB _ ⟨rfl,rfl⟩)⟩
 obtain⟨rfl,rfl⟩:=h0
 refine setQ (fun v=>[some (.ref a),some (v),none,none,none,none,none,none]) (fun _=>rfl) (fun v H1=>Same H' H1∧∃ (lt:Addr) (xts:List V) (ts:List T),v=.ref lt∧H1 lt=some (.lst xts)∧Kids K H1 ts xts∧ts≠[]∧T.partsL ts≤30) (fun R r=>?_) (fun v1 H1 h1=>?_)
 ·refine⟨Nat.zero_le _,fun p3 g3=>⟨(by show 2≤sizeLine; decide),fun p4 g4=>⟨(by show 1≤sizeLine; decide),fun p5 g5=>?_⟩⟩⟩
  obtain⟨S3',t3⟩:=tupN (K:=K) (ts:=[]) g3 (TRs_nil.mpr rfl)
  have S4:=same_new g4 (.tup [.ref p3,.str (PySem.Str.ofString "()")])
  have k4:KidR K (upd (upd H' p3 (.tup [])) p4 (.tup [.ref p3,.str (PySem.Str.ofString "()")])) (.node []) (.ref p4):=⟨p4,.ref p3,rfl,SqT.of (by rw [upd_same,tx_leaf]; rfl),t3.mono (.of S4)⟩
  have S5:=same_new g5 (.lst [V.ref p4])
  have h5:=upd_same (H:=upd (upd H' p3 (.tup [])) p4 (.tup [.ref p3,.str (PySem.Str.ofString "()")])) (a:=p5) (o:=.lst [V.ref p4])
  have k5:=k4.mono (.of S5)
  have S25:=S3'.trans (S4.trans S5)
  generalize upd (upd (upd H' p3 (.tup [])) p4 (.tup [.ref p3,.str (PySem.Str.ofString "()")])) p5 (.lst [V.ref p4])=H5 at S25 k5 h5
  obtain⟨ms,ecut,hms⟩:=cutN ns 1 30
  refine⟨_,rfl,1,rfl,30,rfl,a,_,rfl,S25.seq hl,fun p6 g6=>⟨p6,ms,rfl,SqL.of (by rw [upd_same]; exact congrArg (fun z=>some (HO.lst z)) ecut),by lia,fun r7 xs7 ts7 H7 S7 h7 k7 z7 _ _=>?_⟩⟩
  have S6:=same_new g6 (.lst (cutV (ns.map V.int) (some 1) (some 30)))
  have hx7:=k7.length
  have hp7:=T.len_le_parts ts7
  refine⟨p5,r7,_,xs7,rfl,rfl,(S6.trans S7) _ _ h5,h7,small (by show 1+xs7.length≤_; lia),fun p8 g8=>r _ _ ⟨S25.trans (S6.trans (S7.trans (same_new g8 _))),p8,_,.node []::ts7,rfl,upd_same,?_,by simp,?_⟩⟩
  ·have S8:=same_new g8 (.lst ([V.ref p4]++xs7))
   exact All2.cons (k5.mono (.of (S6.trans (S7.trans S8)))) (k7.imp fun _ _ z=>z.mono (.of S8))
  ·rw [T.partsL_cons,T.parts_node,T.partsL_nil]; lia
 obtain⟨S1,lt,xts,ts,rfl,hlt,hkt,hne,hpt⟩:=h1
 have hbt:∀ t∈ts,t.parts≤30:=fun t ht=>by have:=T.mem_parts ht; lia
 refine setQ (fun v=>[some (.ref a),some (.ref lt),some (v),none,none,none,none,none]) (fun _=>rfl) (fun v H2=>Same H1 H2∧TR K H2 (.node ts) v) (fun R r=>⟨_,rfl,lt,xts,ts,rfl,SqL.of hlt,hkt,by lia,fun r2 H2 S2 h2=>?_⟩) (fun vt H2 h2=>?_)
 ·obtain⟨a2,x2,rfl,q2,t2⟩:=h2
  exact⟨a2,_,0,_,rfl,rfl,q2,atI_nat (j:=0) rfl,r _ _ ⟨S2,t2⟩⟩
 obtain⟨S2,t2⟩:=h2
 have S12:=S1.trans S2
 refine setQ (fun v=>[some (.ref a),some (.ref lt),some (vt),some (v),none,none,none,none]) (fun _=>rfl) (fun v H3=>Same H2 H3∧∃ ps,v=.str (tx (joinL [32] ps))∧Ts (drawnF ns) ps∧Dn (drawnF ns) 99∧T.deepL (drawnF ns)≤300) (fun R r=>⟨_,rfl,a,ns,rfl,S12.seq hl,h63,fun l xs ws H3 S3 h1 h2 h3 h4 h5 h6 h7=>⟨l,xs,ws,rfl,SqL.of h1,h2,by lia,fun r4 H4 S4 h4'=>?_⟩⟩) (fun v3 H3 h3=>?_)
 ·obtain⟨a4,x4,ps,rfl,q4,t4,hts⟩:=h4'
  rw [h7] at hts h5 h6
  exact⟨a4,_,1,_,rfl,rfl,q4,atI_nat (j:=1) rfl,r _ _ ⟨S3.trans S4,ps,rfl,hts,h6,h5⟩⟩
 obtain⟨S3,ps,rfl,hts,dn,hdd⟩:=h3
 obtain⟨hch,rz,rq⟩:=dn_chg dn hts
 have rd:=readF_ts hts
 have S13:=S12.trans S3
 refine setQ (fun v=>[some (.ref a),some (.ref lt),some (vt),some (.str (tx (joinL [32] ps))),some (v),none,none,none]) (fun _=>rfl) (fun v H4=>Same H3 H4∧∃ lr X0,v=.ref lr∧H3 lr=none∧H4 lr=some (.lst [V.str (tx X0)])∧StrOk X0) (fun R r=>?_) (fun v4 H4 h4=>?_)
 ·refine⟨rfl,_,rfl,2,rfl,52,rfl,a,_,rfl,S13.seq hl,fun p1 g1=>⟨p1,rfl,⟨_,SqL.of upd_same⟩,?_⟩⟩
  have Sp:=same_new g1 (.lst (cutV (ns.map V.int) (some 2) (some 52)))
  obtain⟨ms,ecut,hms⟩:=cutN ns 2 52
  have hp1:upd H3 p1 (.lst (cutV (ns.map V.int) (some 2) (some 52))) p1=some (.lst (ms.map V.int)):=by rw [upd_same]; exact congrArg (fun z=>some (HO.lst z)) ecut
  generalize upd H3 p1 (.lst (cutV (ns.map V.int) (some 2) (some 52)))=H6 at Sp hp1
  refine lc_listI (K:=K) (xs:=ms.map V.int) (fun D i ys H'=>H6 D=none∧Same H6 H'∧H' D=some (.lst ys)∧∃ ls:List (List Nat),ys=ls.map (fun c=>V.str (tx c))∧ls.length=i∧∀ p∈ls,PsQ 63 62 p) (small (by rw [List.length_map]; lia)) (fun D hD=>⟨hD,same_new hD _,upd_same,[],rfl,rfl,(fun p hp=>by cases hp)⟩) (fun D i ys H' j=>?_) (fun D i x ys H' R' hx j hR=>?_) (fun D ys H' j=>?_)
  ·obtain⟨hD,S,h1,ls,rfl,e1,e2⟩:=j
   exact⟨h1,by rw [List.length_map]; exact e1,SqL.of (S _ _ hp1)⟩
  ·obtain⟨hD,S,h1,ls,rfl,e1,e2⟩:=j
   rw [List.getElem?_map] at hx
   cases hi:ms[i]? with
   | none=>rw [hi] at hx; cases hx
   | some c =>
   rw [hi] at hx
   have hx:V.int c=x:=Option.some.inj hx
   subst hx
   have S26:=S2.trans (S3.trans (Sp.trans S))
   refine⟨_,rfl,_,rfl,c,lt,xts,ts,rfl,SqL.of (S26 _ _ hlt),Kids.mono (.of S26) hkt,hne,hbt,fun p H7 S7 hp=>hR _ _ (S7 _ _ h1) ⟨hD,same_upd (S.trans S7) hD,upd_same,ls++[p],?_,?_,fun p' hp'=>?_⟩⟩
   ·rw [List.map_append]; rfl
   ·rw [List.length_append,e1]; rfl
   ·rcases List.mem_append.mp hp' with z | z
    ·exact e2 p' z
    ·rw [List.mem_singleton.mp z]; exact hp
  ·obtain⟨hD,S,h1,ls,rfl,e1,e2⟩:=j
   rw [List.length_map] at e1
   have hjl:ls.flatten.length+ls.length * [32].length≤16777216:=by
    have:∀ l:List (List Nat),(∀ p∈l,PsQ 63 62 p)→l.flatten.length≤63 * l.length:=by
     intro l hl'
     induction l with
     | nil=>exact Nat.zero_le _
     | cons p l ih =>
      have h1:=(hl' p List.mem_cons_self).1
      have h2:=ih fun p hp=>hl' p (List.mem_cons_of_mem _ hp)
      rw [List.flatten_cons,List.length_append,List.length_cons]
      lia
    have:=this ls e2
    rw [List.length_singleton]
    lia
   refine⟨D,[32],ls,(by rw [tx_blank]),rfl,SqL.of h1,hjl,(by show 1≤sizeLine; decide),fun p9 g9=>r _ _ ⟨Sp.trans (S.trans (same_new g9 _)),p9,_,rfl,(Sp.trans S).free g9,upd_same,strOk_row e2 (by lia:ls.length≤50) (by decide) (by decide)⟩⟩
 obtain⟨S4,lr,X0,rfl,nlr,hlr,ok0⟩:=h4
 refine⟨4,rfl,by decide,by decide,?_⟩
 refine for_range (n:=4) (fun i σ' H'=>∃ (o5:Option V) (Ys:List (List Nat)),σ'=[some (.ref a),some (.ref lt),some (vt),some (.str (tx (joinL [32] ps))),some (.ref lr),o5,none,none]∧Same H3 H'∧H' lr=some (.lst (Ys.map fun c=>V.str (tx c)))∧(∀ Y∈Ys,StrOk Y)∧Ys.length=1+i) ?_ ?_ ?_
 ·exact⟨_,[X0],rfl,S4,hlr,(fun Y hY=>by rw [List.mem_singleton.mp hY]; exact ok0),rfl⟩
 ·rintro i σ' H5 hi ⟨o5,Ys,rfl,S5,h5,hok,hln⟩
  dsimp only [gName]
  refine⟨_,rfl,.inl ⟨rfl,_,SqL.of h5⟩,_,rfl,_,rfl,_,_,rfl,rfl,a,_,ns,rfl,(S13.trans S5).seq hl,by lia,fun i1 H6 S6 _=>⟨_,rfl,_,_,rfl,rfl,.inl ⟨by decide,by decide⟩,_,_,rfl,rfl,_,rfl,_,joinL [32] ps,rfl,hch,fun Y hY=>?_⟩⟩
  refine⟨lr,_,_,rfl,rfl,S6 _ _ h5,smallL (by rw [List.length_map]; lia),_,Ys++[Y],rfl,same_upd (S5.trans S6) nlr,by rw [upd_same,List.map_append]; rfl,fun Z hZ=>?_,by rw [List.length_append,hln]; show 1+i+1=_; lia⟩
  rcases List.mem_append.mp hZ with z | z
  ·exact hok Z z
  ·rw [List.mem_singleton.mp z]; exact hY
 rintro σ' H5 ⟨o5,Ys,rfl,S5,h5,hok,hln⟩
 have htd:(T.node ts).deep≤30:=by have:=T.deep_lt (.node ts); rw [T.parts_node] at this; lia
 have htdl:T.deepL ts≤30:=by rw [T.deep_node] at htd; exact htd
 obtain⟨qs,htq⟩:=ts_all ts
 obtain⟨qz,qq⟩:=ts_rowQ htq (by lia) (by lia)
 obtain⟨qlen,fb,qfl,hfb⟩:=id qq
 have rq':=readF_ts htq
 have rdd:∀ {H3:Hp}{x':V}{Q':VK}{E':XK},x'=.str (tx (joinL [32] qs))→(∀ y H',Same H3 H'→TR K H' (.node ts) y→Q' y H')→spReadAny K cX [x'] H3 Q' E':=fun e k=>⟨_,rfl,.inl ⟨qs,e,⟨qz,qq⟩,fun r hr' y H' S ty=>by
  rw [rq'] at hr'
  cases hr'
  exact k y H' S ty,fun hno=>absurd (hno.symm.trans rq') (by simp)⟩⟩
 have rdg:∀ {H3:Hp}{x':V}{Q':VK}{E':XK},x'=.str (tx (joinL [32] ps))→(∀ y H',Same H3 H'→TR K H' (.node (drawnF ns)) y→Q' y H')→spReadAny K cX [x'] H3 Q' E':=fun e k=>⟨_,rfl,.inl ⟨ps,e,⟨rz,rq⟩,fun r hr' y H' S ty=>by
  rw [rd] at hr'
  cases hr'
  exact k y H' S ty,fun hno=>absurd (hno.symm.trans rd) (by simp)⟩⟩
 have tt5:=t2.mono (K:=K) (.of (S3.trans S5))
 refine⟨2,rfl,by decide,by decide,?_⟩
 refine for_range (n:=2) (fun i σ' H'=>∃ (o6 o7:Option V),σ'=[some (.ref a),some (.ref lt),some (vt),some (.str (tx (joinL [32] ps))),some (.ref lr),o5,o6,o7]∧Same H5 H') ?_ ?_ ?_
 ·exact⟨_,_,rfl,Same.refl _⟩
 ·rintro i σ' H6 hi ⟨o6,o7,rfl,S6⟩
  dsimp only [gName]
  refine⟨_,rfl,lr,rfl,⟨_,SqL.of (S6 _ _ h5)⟩,?_⟩
  refine for_list (xs:=Ys.map fun c=>V.str (tx c)) (fun j σ' H'=>∃ (o7:Option V),σ'=[some (.ref a),some (.ref lt),some (vt),some (.str (tx (joinL [32] ps))),some (.ref lr),o5,some (.int (0+(i:Int))),o7]∧Same H5 H') ?_ ?_ ?_ ?_
  ·exact⟨_,rfl,S6⟩
  ·rintro j σ' H7 _ ⟨o7,rfl,S7⟩
   exact SqL.of (S7 _ _ h5)
  ·rintro j x σ' H7 hx ⟨o7,rfl,S7⟩
   obtain⟨Y,hY,rfl⟩:=str_mem (H:=H7) (lr:=lr) hx
   dsimp only [gName]
   exact⟨_,rfl,Y,rfl,hok Y hY,fun H8 S8=>⟨_,rfl,iteF ⟨_,rfl,S7.trans S8⟩⟩⟩
  ·rintro σ' H7 ⟨o7,rfl,S7⟩
   dsimp only
   refine setQ (fun v=>[some (.ref a),some (.ref lt),some (vt),some (.str (tx (joinL [32] ps))),some (.ref lr),o5,some (.int (0+(i:Int))),some (v)]) (fun _=>rfl) (fun v H'=>Same H7 H'∧v=.str (tx (joinL [32] qs))) (fun R r=>⟨_,rfl,vt,ts,qs,fb,rfl,tt5.mono (.of S7),htq,qfl,by lia,by lia,qlen,fun H8 S8=>r _ _ ⟨S8,rfl⟩⟩) (fun v8 H8 h8=>?_)
   obtain⟨S8,rfl⟩:=h8
   have S78:=S7.trans S8
   refine⟨_,rfl,vt,ts,qs,rfl,tt5.mono (.of S78),htq,⟨by lia,by rw [T.parts_node]; lia⟩,fun H9 S9=>⟨_,rfl,rfl,_,rfl,?_⟩⟩
   refine iteFb (by rw [decide_eq_true rfl]; rfl) ?_
   refine⟨_,rfl,rdd rfl fun y4 H10 S10 t4=>⟨_,rfl,.node ts,.node ts,t4,tt5.mono (.of (S78.trans (S9.trans S10))),by lia,_,rfl,?_⟩⟩
   rw [T.beq_self]
   exact iteFb rfl ⟨_,_,rfl,S78.trans (S9.trans S10)⟩
 ·rintro σ' H6 ⟨o6,o7,rfl,S6⟩
  refine⟨_,rfl,rdg rfl fun y7 H7 S7 t7=>⟨_,rfl,a,ns,rfl,(S13.trans (S5.trans (S6.trans S7))).seq hl,h63,fun l xs ws H8 S8 h1 h2 h3 h4 h5' h6 h7=>⟨l,xs,ws,rfl,SqL.of h1,h2,by lia,fun r9 H9 S9 h9=>?_⟩⟩⟩
  obtain⟨a9,x9,ps9,rfl,q9,t9,_⟩:=h9
  rw [h7] at t9
  refine⟨a9,_,0,x9,rfl,rfl,q9,atI_nat (j:=0) rfl,.node (drawnF ns),.node (drawnF ns),t7.mono (.of (S8.trans S9)),t9,by rw [T.deep_node]; lia,?_⟩
  rw [T.beq_self]
  exact q _
end
end Sw25
namespace Sw25
open PySem PySem.Spec PyProof.Rows L2 Sw
theorem all_mk {l:PySem.W.OpenLaw}{w:World}{K:PySem.W.Frag}{h:Heap}{mg:Str→Option Value}{fa f1 f2 f3 f4 f5 f6 f7 f8 f9 f10 f11 f12 f13 f14 f15 f16 f17 f18 f19 f20 f21 f22 f23 f24 f25 f26 f27 f28 f29 f30 f31 f32 f33 f34 f35 f36 f37 f38 f39 f40 f41 f42 f43:Addr} (X:K.In h) (G:h.Ns mainGlobals mg) (hfa:mg "law"=some (.ref fa))  {C:Addr}{cT cX:Addr}{dT dX:ClassData}{f___init__:Addr}{od___init__ an___init__:Option Addr}{sl___init__:Array (Option Value)}{oc___init__ kV___init__ dc___init__ pm___init__ cd___init__ ct___init__:Value}{f_take:Addr}{od_take an_take:Option Addr}{sl_take:Array (Option Value)}{oc_take kV_take dc_take pm_take cd_take ct_take:Value}{f_enter:Addr}{od_enter an_enter:Option Addr}{sl_enter:Array (Option Value)}{oc_enter kV_enter dc_enter pm_enter cd_enter ct_enter:Value}{f_leave:Addr}{od_leave an_leave:Option Addr}{sl_leave:Array (Option Value)}{oc_leave kV_leave dc_leave pm_leave cd_leave ct_leave:Value}{f_bracketed:Addr}{od_bracketed an_bracketed:Option Addr}{sl_bracketed:Array (Option Value)}{oc_bracketed kV_bracketed dc_bracketed pm_bracketed cd_bracketed ct_bracketed:Value}{f_add_word:Addr}{od_add_word an_add_word:Option Addr}{sl_add_word:Array (Option Value)}{oc_add_word kV_add_word dc_add_word pm_add_word cd_add_word ct_add_word:Value}{f_whole:Addr}{od_whole an_whole:Option Addr}{sl_whole:Array (Option Value)}{oc_whole kV_whole dc_whole pm_whole cd_whole ct_whole:Value}{u_DROP:Value}{u_TURN:Value}{u_NAMELESS:Value}{u_FORK:Value}{u_WHILE:Value}{u_LAY:Value}{a_NAMES:Addr}{o_NAMES:Obj}
  {od1 an1 od2 an2 od3 an3 od4 an4 od5 an5 od6 an6 od7 an7 od8 an8 od9 an9 od10 an10 od11 an11 od12 an12 od13 an13 od14 an14 od15 an15 od16 an16 od17 an17 od18 an18 od19 an19 od20 an20 od21 an21 od22 an22 od23 an23 od24 an24 od25 an25 od26 an26 od27 an27 od28 an28 od29 an29 od30 an30 od31 an31 od32 an32 od33 an33 od34 an34 od35 an35 od36 an36 od37 an37 od38 an38 od39 an39 od40 an40 od41 an41 od42 an42 od43 an43:Option Addr}{sl1 sl2 sl3 sl4 sl5 sl6 sl7 sl8 sl9 sl10 sl11 sl12 sl13 sl14 sl15 sl16 sl17 sl18 sl19 sl20 sl21 sl22 sl23 sl24 sl25 sl26 sl27 sl28 sl29 sl30 sl31 sl32 sl33 sl34 sl35 sl36 sl37 sl38 sl39 sl40 sl41 sl42 sl43:Array (Option Value)}{oc1 kV1 dc1 pm1 cd1 ct1 oc2 kV2 dc2 pm2 cd2 ct2 oc3 kV3 dc3 pm3 cd3 ct3 oc4 kV4 dc4 pm4 cd4 ct4 oc5 kV5 dc5 pm5 cd5 ct5 oc6 kV6 dc6 pm6 cd6 ct6 oc7 kV7 dc7 pm7 cd7 ct7 oc8 kV8 dc8 pm8 cd8 ct8 oc9 kV9 dc9 pm9 cd9 ct9 oc10 kV10 dc10 pm10 cd10 ct10 oc11 kV11 dc11 pm11 cd11 ct11 oc12 kV12 dc12 pm12 cd12 ct12 oc13 kV13 dc13 pm13 cd13 ct13 oc14 kV14 dc14 pm14 cd14 ct14 oc15 kV15 dc15 pm15 cd15 ct15 oc16 kV16 dc16 pm16 cd16 ct16 oc17 kV17 dc17 pm17 cd17 ct17 oc18 kV18 dc18 pm18 cd18 ct18 oc19 kV19 dc19 pm19 cd19 ct19 oc20 kV20 dc20 pm20 cd20 ct20 oc21 kV21 dc21 pm21 cd21 ct21 oc22 kV22 dc22 pm22 cd22 ct22 oc23 kV23 dc23 pm23 cd23 ct23 oc24 kV24 dc24 pm24 cd24 ct24 oc25 kV25 dc25 pm25 cd25 ct25 oc26 kV26 dc26 pm26 cd26 ct26 oc27 kV27 dc27 pm27 cd27 ct27 oc28 kV28 dc28 pm28 cd28 ct28 oc29 kV29 dc29 pm29 cd29 ct29 oc30 kV30 dc30 pm30 cd30 ct30 oc31 kV31 dc31 pm31 cd31 ct31 oc32 kV32 dc32 pm32 cd32 ct32 oc33 kV33 dc33 pm33 cd33 ct33 oc34 kV34 dc34 pm34 cd34 ct34 oc35 kV35 dc35 pm35 cd35 ct35 oc36 kV36 dc36 pm36 cd36 ct36 oc37 kV37 dc37 pm37 cd37 ct37 oc38 kV38 dc38 pm38 cd38 ct38 oc39 kV39 dc39 pm39 cd39 ct39 oc40 kV40 dc40 pm40 cd40 ct40 oc41 kV41 dc41 pm41 cd41 ct41 oc42 kV42 dc42 pm42 cd42 ct42 oc43 kV43 dc43 pm43 cd43 ct43:Value}
  (a1:PySem.W.nsIn K mainGlobals "show_tree"=some (some (.ref f1))) (l1:K.lookup f1=some ⟨oc1,od1,.func (PySem.W.fnOf "show_tree" "show_tree" (defArgs s_show_tree) (defBody s_show_tree) (defScope s_show_tree) .none kV1 dc1 pm1 an1 cd1 ct1),sl1⟩) (c1:PySem.W.codeIn K cd1 "show_tree"=true) (k1:PySem.W.keepIn K (.ref f1)=true)
  (a2:PySem.W.nsIn K mainGlobals "read_tree"=some (some (.ref f2))) (l2:K.lookup f2=some ⟨oc2,od2,.func (PySem.W.fnOf "read_tree" "read_tree" (defArgs s_read_tree) (defBody s_read_tree) (defScope s_read_tree) .none kV2 dc2 pm2 an2 cd2 ct2),sl2⟩) (c2:PySem.W.codeIn K cd2 "read_tree"=true) (k2:PySem.W.keepIn K (.ref f2)=true)
  (a3:PySem.W.nsIn K mainGlobals "first"=some (some (.ref f3))) (l3:K.lookup f3=some ⟨oc3,od3,.func (PySem.W.fnOf "first" "first" (defArgs s_first) (defBody s_first) (defScope s_first) .none kV3 dc3 pm3 an3 cd3 ct3),sl3⟩) (c3:PySem.W.codeIn K cd3 "first"=true) (k3:PySem.W.keepIn K (.ref f3)=true)
  (a4:PySem.W.nsIn K mainGlobals "rest"=some (some (.ref f4))) (l4:K.lookup f4=some ⟨oc4,od4,.func (PySem.W.fnOf "rest" "rest" (defArgs s_rest) (defBody s_rest) (defScope s_rest) .none kV4 dc4 pm4 an4 cd4 ct4),sl4⟩) (c4:PySem.W.codeIn K cd4 "rest"=true) (k4:PySem.W.keepIn K (.ref f4)=true)
  (a5:PySem.W.nsIn K mainGlobals "sort_of"=some (some (.ref f5))) (l5:K.lookup f5=some ⟨oc5,od5,.func (PySem.W.fnOf "sort_of" "sort_of" (defArgs s_sort_of) (defBody s_sort_of) (defScope s_sort_of) .none kV5 dc5 pm5 an5 cd5 ct5),sl5⟩) (c5:PySem.W.codeIn K cd5 "sort_of"=true) (k5:PySem.W.keepIn K (.ref f5)=true)
  (a6:PySem.W.nsIn K mainGlobals "load_of"=some (some (.ref f6))) (l6:K.lookup f6=some ⟨oc6,od6,.func (PySem.W.fnOf "load_of" "load_of" (defArgs s_load_of) (defBody s_load_of) (defScope s_load_of) .none kV6 dc6 pm6 an6 cd6 ct6),sl6⟩) (c6:PySem.W.codeIn K cd6 "load_of"=true) (k6:PySem.W.keepIn K (.ref f6)=true)
  (a7:PySem.W.nsIn K mainGlobals "lay"=some (some (.ref f7))) (l7:K.lookup f7=some ⟨oc7,od7,.func (PySem.W.fnOf "lay" "lay" (defArgs s_lay) (defBody s_lay) (defScope s_lay) .none kV7 dc7 pm7 an7 cd7 ct7),sl7⟩) (c7:PySem.W.codeIn K cd7 "lay"=true) (k7:PySem.W.keepIn K (.ref f7)=true)
  (a8:PySem.W.nsIn K mainGlobals "plain"=some (some (.ref f8))) (l8:K.lookup f8=some ⟨oc8,od8,.func (PySem.W.fnOf "plain" "plain" (defArgs s_plain) (defBody s_plain) (defScope s_plain) .none kV8 dc8 pm8 an8 cd8 ct8),sl8⟩) (c8:PySem.W.codeIn K cd8 "plain"=true) (k8:PySem.W.keepIn K (.ref f8)=true)
  (a9:PySem.W.nsIn K mainGlobals "fork"=some (some (.ref f9))) (l9:K.lookup f9=some ⟨oc9,od9,.func (PySem.W.fnOf "fork" "fork" (defArgs s_fork) (defBody s_fork) (defScope s_fork) .none kV9 dc9 pm9 an9 cd9 ct9),sl9⟩) (c9:PySem.W.codeIn K cd9 "fork"=true) (k9:PySem.W.keepIn K (.ref f9)=true)
  (a10:PySem.W.nsIn K mainGlobals "loop"=some (some (.ref f10))) (l10:K.lookup f10=some ⟨oc10,od10,.func (PySem.W.fnOf "loop" "loop" (defArgs s_loop) (defBody s_loop) (defScope s_loop) .none kV10 dc10 pm10 an10 cd10 ct10),sl10⟩) (c10:PySem.W.codeIn K cd10 "loop"=true) (k10:PySem.W.keepIn K (.ref f10)=true)
  (a11:PySem.W.nsIn K mainGlobals "show"=some (some (.ref f11))) (l11:K.lookup f11=some ⟨oc11,od11,.func (PySem.W.fnOf "show" "show" (defArgs s_show) (defBody s_show) (defScope s_show) .none kV11 dc11 pm11 an11 cd11 ct11),sl11⟩) (c11:PySem.W.codeIn K cd11 "show"=true) (k11:PySem.W.keepIn K (.ref f11)=true)
  (a12:PySem.W.nsIn K mainGlobals "spelled"=some (some (.ref f12))) (l12:K.lookup f12=some ⟨oc12,od12,.func (PySem.W.fnOf "spelled" "spelled" (defArgs s_spelled) (defBody s_spelled) (defScope s_spelled) .none kV12 dc12 pm12 an12 cd12 ct12),sl12⟩) (c12:PySem.W.codeIn K cd12 "spelled"=true) (k12:PySem.W.keepIn K (.ref f12)=true)
  (a13:PySem.W.nsIn K mainGlobals "odd"=some (some (.ref f13))) (l13:K.lookup f13=some ⟨oc13,od13,.func (PySem.W.fnOf "odd" "odd" (defArgs s_odd) (defBody s_odd) (defScope s_odd) .none kV13 dc13 pm13 an13 cd13 ct13),sl13⟩) (c13:PySem.W.codeIn K cd13 "odd"=true) (k13:PySem.W.keepIn K (.ref f13)=true)
  (a14:PySem.W.nsIn K mainGlobals "read"=some (some (.ref f14))) (l14:K.lookup f14=some ⟨oc14,od14,.func (PySem.W.fnOf "read" "read" (defArgs s_read) (defBody s_read) (defScope s_read) .none kV14 dc14 pm14 an14 cd14 ct14),sl14⟩) (c14:PySem.W.codeIn K cd14 "read"=true) (k14:PySem.W.keepIn K (.ref f14)=true)
  (a15:PySem.W.nsIn K mainGlobals "pieces_of"=some (some (.ref f15))) (l15:K.lookup f15=some ⟨oc15,od15,.func (PySem.W.fnOf "pieces_of" "pieces_of" (defArgs s_pieces_of) (defBody s_pieces_of) (defScope s_pieces_of) .none kV15 dc15 pm15 an15 cd15 ct15),sl15⟩) (c15:PySem.W.codeIn K cd15 "pieces_of"=true) (k15:PySem.W.keepIn K (.ref f15)=true)
  (a16:PySem.W.nsIn K mainGlobals "word_of"=some (some (.ref f16))) (l16:K.lookup f16=some ⟨oc16,od16,.func (PySem.W.fnOf "word_of" "word_of" (defArgs s_word_of) (defBody s_word_of) (defScope s_word_of) .none kV16 dc16 pm16 an16 cd16 ct16),sl16⟩) (c16:PySem.W.codeIn K cd16 "word_of"=true) (k16:PySem.W.keepIn K (.ref f16)=true)
  (a17:PySem.W.nsIn K mainGlobals "tree_of"=some (some (.ref f17))) (l17:K.lookup f17=some ⟨oc17,od17,.func (PySem.W.fnOf "tree_of" "tree_of" (defArgs s_tree_of) (defBody s_tree_of) (defScope s_tree_of) .none kV17 dc17 pm17 an17 cd17 ct17),sl17⟩) (c17:PySem.W.codeIn K cd17 "tree_of"=true) (k17:PySem.W.keepIn K (.ref f17)=true)
  (a18:PySem.W.nsIn K mainGlobals "_law_at"=some (some (.ref f18))) (l18:K.lookup f18=some ⟨oc18,od18,.func (PySem.W.fnOf "_law_at" "_law_at" (defArgs s__law_at) (defBody s__law_at) (defScope s__law_at) .none kV18 dc18 pm18 an18 cd18 ct18),sl18⟩) (c18:PySem.W.codeIn K cd18 "_law_at"=true) (k18:PySem.W.keepIn K (.ref f18)=true)
  (a19:PySem.W.nsIn K mainGlobals "_law_pick"=some (some (.ref f19))) (l19:K.lookup f19=some ⟨oc19,od19,.func (PySem.W.fnOf "_law_pick" "_law_pick" (defArgs s__law_pick) (defBody s__law_pick) (defScope s__law_pick) .none kV19 dc19 pm19 an19 cd19 ct19),sl19⟩) (c19:PySem.W.codeIn K cd19 "_law_pick"=true) (k19:PySem.W.keepIn K (.ref f19)=true)
  (a20:PySem.W.nsIn K mainGlobals "_law_joined"=some (some (.ref f20))) (l20:K.lookup f20=some ⟨oc20,od20,.func (PySem.W.fnOf "_law_joined" "_law_joined" (defArgs s__law_joined) (defBody s__law_joined) (defScope s__law_joined) .none kV20 dc20 pm20 an20 cd20 ct20),sl20⟩) (c20:PySem.W.codeIn K cd20 "_law_joined"=true) (k20:PySem.W.keepIn K (.ref f20)=true)
  (a21:PySem.W.nsIn K mainGlobals "_law_grown"=some (some (.ref f21))) (l21:K.lookup f21=some ⟨oc21,od21,.func (PySem.W.fnOf "_law_grown" "_law_grown" (defArgs s__law_grown) (defBody s__law_grown) (defScope s__law_grown) .none kV21 dc21 pm21 an21 cd21 ct21),sl21⟩) (c21:PySem.W.codeIn K cd21 "_law_grown"=true) (k21:PySem.W.keepIn K (.ref f21)=true)
  (a22:PySem.W.nsIn K mainGlobals "_law_digits"=some (some (.ref f22))) (l22:K.lookup f22=some ⟨oc22,od22,.func (PySem.W.fnOf "_law_digits" "_law_digits" (defArgs s__law_digits) (defBody s__law_digits) (defScope s__law_digits) .none kV22 dc22 pm22 an22 cd22 ct22),sl22⟩) (c22:PySem.W.codeIn K cd22 "_law_digits"=true) (k22:PySem.W.keepIn K (.ref f22)=true)
  (a23:PySem.W.nsIn K mainGlobals "_law_is_tree"=some (some (.ref f23))) (l23:K.lookup f23=some ⟨oc23,od23,.func (PySem.W.fnOf "_law_is_tree" "_law_is_tree" (defArgs s__law_is_tree) (defBody s__law_is_tree) (defScope s__law_is_tree) .none kV23 dc23 pm23 an23 cd23 ct23),sl23⟩) (c23:PySem.W.codeIn K cd23 "_law_is_tree"=true) (k23:PySem.W.keepIn K (.ref f23)=true)
  (a24:PySem.W.nsIn K mainGlobals "_law_leaves"=some (some (.ref f24))) (l24:K.lookup f24=some ⟨oc24,od24,.func (PySem.W.fnOf "_law_leaves" "_law_leaves" (defArgs s__law_leaves) (defBody s__law_leaves) (defScope s__law_leaves) .none kV24 dc24 pm24 an24 cd24 ct24),sl24⟩) (c24:PySem.W.codeIn K cd24 "_law_leaves"=true) (k24:PySem.W.keepIn K (.ref f24)=true)
  (a25:PySem.W.nsIn K mainGlobals "_law_plain"=some (some (.ref f25))) (l25:K.lookup f25=some ⟨oc25,od25,.func (PySem.W.fnOf "_law_plain" "_law_plain" (defArgs s__law_plain) (defBody s__law_plain) (defScope s__law_plain) .none kV25 dc25 pm25 an25 cd25 ct25),sl25⟩) (c25:PySem.W.codeIn K cd25 "_law_plain"=true) (k25:PySem.W.keepIn K (.ref f25)=true)
  (a26:PySem.W.nsIn K mainGlobals "_law_odd"=some (some (.ref f26))) (l26:K.lookup f26=some ⟨oc26,od26,.func (PySem.W.fnOf "_law_odd" "_law_odd" (defArgs s__law_odd) (defBody s__law_odd) (defScope s__law_odd) .none kV26 dc26 pm26 an26 cd26 ct26),sl26⟩) (c26:PySem.W.codeIn K cd26 "_law_odd"=true) (k26:PySem.W.keepIn K (.ref f26)=true)
  (a27:PySem.W.nsIn K mainGlobals "_law_text"=some (some (.ref f27))) (l27:K.lookup f27=some ⟨oc27,od27,.func (PySem.W.fnOf "_law_text" "_law_text" (defArgs s__law_text) (defBody s__law_text) (defScope s__law_text) .none kV27 dc27 pm27 an27 cd27 ct27),sl27⟩) (c27:PySem.W.codeIn K cd27 "_law_text"=true) (k27:PySem.W.keepIn K (.ref f27)=true)
  (a28:PySem.W.nsIn K mainGlobals "_law_between"=some (some (.ref f28))) (l28:K.lookup f28=some ⟨oc28,od28,.func (PySem.W.fnOf "_law_between" "_law_between" (defArgs s__law_between) (defBody s__law_between) (defScope s__law_between) .none kV28 dc28 pm28 an28 cd28 ct28),sl28⟩) (c28:PySem.W.codeIn K cd28 "_law_between"=true) (k28:PySem.W.keepIn K (.ref f28)=true)
  (a29:PySem.W.nsIn K mainGlobals "_law_word"=some (some (.ref f29))) (l29:K.lookup f29=some ⟨oc29,od29,.func (PySem.W.fnOf "_law_word" "_law_word" (defArgs s__law_word) (defBody s__law_word) (defScope s__law_word) .none kV29 dc29 pm29 an29 cd29 ct29),sl29⟩) (c29:PySem.W.codeIn K cd29 "_law_word"=true) (k29:PySem.W.keepIn K (.ref f29)=true)
  (a30:PySem.W.nsIn K mainGlobals "_law_words"=some (some (.ref f30))) (l30:K.lookup f30=some ⟨oc30,od30,.func (PySem.W.fnOf "_law_words" "_law_words" (defArgs s__law_words) (defBody s__law_words) (defScope s__law_words) .none kV30 dc30 pm30 an30 cd30 ct30),sl30⟩) (c30:PySem.W.codeIn K cd30 "_law_words"=true) (k30:PySem.W.keepIn K (.ref f30)=true)
  (a31:PySem.W.nsIn K mainGlobals "_law_drawn"=some (some (.ref f31))) (l31:K.lookup f31=some ⟨oc31,od31,.func (PySem.W.fnOf "_law_drawn" "_law_drawn" (defArgs s__law_drawn) (defBody s__law_drawn) (defScope s__law_drawn) .none kV31 dc31 pm31 an31 cd31 ct31),sl31⟩) (c31:PySem.W.codeIn K cd31 "_law_drawn"=true) (k31:PySem.W.keepIn K (.ref f31)=true)
  (a32:PySem.W.nsIn K mainGlobals "_law_brackets"=some (some (.ref f32))) (l32:K.lookup f32=some ⟨oc32,od32,.func (PySem.W.fnOf "_law_brackets" "_law_brackets" (defArgs s__law_brackets) (defBody s__law_brackets) (defScope s__law_brackets) .none kV32 dc32 pm32 an32 cd32 ct32),sl32⟩) (c32:PySem.W.codeIn K cd32 "_law_brackets"=true) (k32:PySem.W.keepIn K (.ref f32)=true)
  (a33:PySem.W.nsIn K mainGlobals "_law_is_plain"=some (some (.ref f33))) (l33:K.lookup f33=some ⟨oc33,od33,.func (PySem.W.fnOf "_law_is_plain" "_law_is_plain" (defArgs s__law_is_plain) (defBody s__law_is_plain) (defScope s__law_is_plain) .none kV33 dc33 pm33 an33 cd33 ct33),sl33⟩) (c33:PySem.W.codeIn K cd33 "_law_is_plain"=true) (k33:PySem.W.keepIn K (.ref f33)=true)
  (a34:PySem.W.nsIn K mainGlobals "_law_written_word"=some (some (.ref f34))) (l34:K.lookup f34=some ⟨oc34,od34,.func (PySem.W.fnOf "_law_written_word" "_law_written_word" (defArgs s__law_written_word) (defBody s__law_written_word) (defScope s__law_written_word) .none kV34 dc34 pm34 an34 cd34 ct34),sl34⟩) (c34:PySem.W.codeIn K cd34 "_law_written_word"=true) (k34:PySem.W.keepIn K (.ref f34)=true)
  (a35:PySem.W.nsIn K mainGlobals "_law_written"=some (some (.ref f35))) (l35:K.lookup f35=some ⟨oc35,od35,.func (PySem.W.fnOf "_law_written" "_law_written" (defArgs s__law_written) (defBody s__law_written) (defScope s__law_written) .none kV35 dc35 pm35 an35 cd35 ct35),sl35⟩) (c35:PySem.W.codeIn K cd35 "_law_written"=true) (k35:PySem.W.keepIn K (.ref f35)=true)
  (a36:PySem.W.nsIn K mainGlobals "_law_piece"=some (some (.ref f36))) (l36:K.lookup f36=some ⟨oc36,od36,.func (PySem.W.fnOf "_law_piece" "_law_piece" (defArgs s__law_piece) (defBody s__law_piece) (defScope s__law_piece) .none kV36 dc36 pm36 an36 cd36 ct36),sl36⟩) (c36:PySem.W.codeIn K cd36 "_law_piece"=true) (k36:PySem.W.keepIn K (.ref f36)=true)
  (a37:PySem.W.nsIn K mainGlobals "_law_changed"=some (some (.ref f37))) (l37:K.lookup f37=some ⟨oc37,od37,.func (PySem.W.fnOf "_law_changed" "_law_changed" (defArgs s__law_changed) (defBody s__law_changed) (defScope s__law_changed) .none kV37 dc37 pm37 an37 cd37 ct37),sl37⟩) (c37:PySem.W.codeIn K cd37 "_law_changed"=true) (k37:PySem.W.keepIn K (.ref f37)=true)
  (a38:PySem.W.nsIn K mainGlobals "_law_right"=some (some (.ref f38))) (l38:K.lookup f38=some ⟨oc38,od38,.func (PySem.W.fnOf "_law_right" "_law_right" (defArgs s__law_right) (defBody s__law_right) (defScope s__law_right) .none kV38 dc38 pm38 an38 cd38 ct38),sl38⟩) (c38:PySem.W.codeIn K cd38 "_law_right"=true) (k38:PySem.W.keepIn K (.ref f38)=true)
  (a39:PySem.W.nsIn K mainGlobals "_law_tree_by"=some (some (.ref f39))) (l39:K.lookup f39=some ⟨oc39,od39,.func (PySem.W.fnOf "_law_tree_by" "_law_tree_by" (defArgs s__law_tree_by) (defBody s__law_tree_by) (defScope s__law_tree_by) .none kV39 dc39 pm39 an39 cd39 ct39),sl39⟩) (c39:PySem.W.codeIn K cd39 "_law_tree_by"=true) (k39:PySem.W.keepIn K (.ref f39)=true)
  (a40:PySem.W.nsIn K mainGlobals "_law_any"=some (some (.ref f40))) (l40:K.lookup f40=some ⟨oc40,od40,.func (PySem.W.fnOf "_law_any" "_law_any" (defArgs s__law_any) (defBody s__law_any) (defScope s__law_any) .none kV40 dc40 pm40 an40 cd40 ct40),sl40⟩) (c40:PySem.W.codeIn K cd40 "_law_any"=true) (k40:PySem.W.keepIn K (.ref f40)=true)
  (a41:PySem.W.nsIn K mainGlobals "_law_piece_by"=some (some (.ref f41))) (l41:K.lookup f41=some ⟨oc41,od41,.func (PySem.W.fnOf "_law_piece_by" "_law_piece_by" (defArgs s__law_piece_by) (defBody s__law_piece_by) (defScope s__law_piece_by) .none kV41 dc41 pm41 an41 cd41 ct41),sl41⟩) (c41:PySem.W.codeIn K cd41 "_law_piece_by"=true) (k41:PySem.W.keepIn K (.ref f41)=true)
  (a42:PySem.W.nsIn K mainGlobals "_law_all_right"=some (some (.ref f42))) (l42:K.lookup f42=some ⟨oc42,od42,.func (PySem.W.fnOf "_law_all_right" "_law_all_right" (defArgs s__law_all_right) (defBody s__law_all_right) (defScope s__law_all_right) .none kV42 dc42 pm42 an42 cd42 ct42),sl42⟩) (c42:PySem.W.codeIn K cd42 "_law_all_right"=true) (k42:PySem.W.keepIn K (.ref f42)=true)
  (a43:PySem.W.nsIn K mainGlobals "law"=some (some (.ref f43))) (l43:K.lookup f43=some ⟨oc43,od43,.func (PySem.W.fnOf "law" "law" (defArgs s_law) (defBody s_law) (defScope s_law) .none kV43 dc43 pm43 an43 cd43 ct43),sl43⟩) (c43:PySem.W.codeIn K cd43 "law"=true) (k43:PySem.W.keepIn K (.ref f43)=true)
  (aC:PySem.W.nsIn K mainGlobals "Reading"=some (some (.ref C)))
  (a___init__:PySem.W.findIn K (.ref C) "__init__"=some (some (.ref f___init__)))
  (i___init__:PySem.W.isFn K (.ref f___init__)=true)
  (l___init__:K.lookup f___init__=some ⟨oc___init__,od___init__,.func (PySem.W.fnOf "__init__" "Reading.__init__" (defArgs s___init__) (defBody s___init__) (defScope s___init__) .none kV___init__ dc___init__ pm___init__ an___init__ cd___init__ ct___init__),sl___init__⟩)
  (c___init__:PySem.W.codeIn K cd___init__ "Reading.__init__"=true)
  (k___init__:PySem.W.keepIn K (.ref f___init__)=true)
  (a_take:PySem.W.findIn K (.ref C) "take"=some (some (.ref f_take)))
  (i_take:PySem.W.isFn K (.ref f_take)=true)
  (l_take:K.lookup f_take=some ⟨oc_take,od_take,.func (PySem.W.fnOf "take" "Reading.take" (defArgs s_take) (defBody s_take) (defScope s_take) .none kV_take dc_take pm_take an_take cd_take ct_take),sl_take⟩)
  (c_take:PySem.W.codeIn K cd_take "Reading.take"=true)
  (k_take:PySem.W.keepIn K (.ref f_take)=true)
  (a_enter:PySem.W.findIn K (.ref C) "enter"=some (some (.ref f_enter)))
  (i_enter:PySem.W.isFn K (.ref f_enter)=true)
  (l_enter:K.lookup f_enter=some ⟨oc_enter,od_enter,.func (PySem.W.fnOf "enter" "Reading.enter" (defArgs s_enter) (defBody s_enter) (defScope s_enter) .none kV_enter dc_enter pm_enter an_enter cd_enter ct_enter),sl_enter⟩)
  (c_enter:PySem.W.codeIn K cd_enter "Reading.enter"=true)
  (k_enter:PySem.W.keepIn K (.ref f_enter)=true)
  (a_leave:PySem.W.findIn K (.ref C) "leave"=some (some (.ref f_leave)))
  (i_leave:PySem.W.isFn K (.ref f_leave)=true)
  (l_leave:K.lookup f_leave=some ⟨oc_leave,od_leave,.func (PySem.W.fnOf "leave" "Reading.leave" (defArgs s_leave) (defBody s_leave) (defScope s_leave) .none kV_leave dc_leave pm_leave an_leave cd_leave ct_leave),sl_leave⟩)
  (c_leave:PySem.W.codeIn K cd_leave "Reading.leave"=true)
  (k_leave:PySem.W.keepIn K (.ref f_leave)=true)
  (a_bracketed:PySem.W.findIn K (.ref C) "bracketed"=some (some (.ref f_bracketed)))
  (i_bracketed:PySem.W.isFn K (.ref f_bracketed)=true)
  (l_bracketed:K.lookup f_bracketed=some ⟨oc_bracketed,od_bracketed,.func (PySem.W.fnOf "bracketed" "Reading.bracketed" (defArgs s_bracketed) (defBody s_bracketed) (defScope s_bracketed) .none kV_bracketed dc_bracketed pm_bracketed an_bracketed cd_bracketed ct_bracketed),sl_bracketed⟩)
  (c_bracketed:PySem.W.codeIn K cd_bracketed "Reading.bracketed"=true)
  (k_bracketed:PySem.W.keepIn K (.ref f_bracketed)=true)
  (a_add_word:PySem.W.findIn K (.ref C) "add_word"=some (some (.ref f_add_word)))
  (i_add_word:PySem.W.isFn K (.ref f_add_word)=true)
  (l_add_word:K.lookup f_add_word=some ⟨oc_add_word,od_add_word,.func (PySem.W.fnOf "add_word" "Reading.add_word" (defArgs s_add_word) (defBody s_add_word) (defScope s_add_word) .none kV_add_word dc_add_word pm_add_word an_add_word cd_add_word ct_add_word),sl_add_word⟩)
  (c_add_word:PySem.W.codeIn K cd_add_word "Reading.add_word"=true)
  (k_add_word:PySem.W.keepIn K (.ref f_add_word)=true)
  (a_whole:PySem.W.findIn K (.ref C) "whole"=some (some (.ref f_whole)))
  (i_whole:PySem.W.isFn K (.ref f_whole)=true)
  (l_whole:K.lookup f_whole=some ⟨oc_whole,od_whole,.func (PySem.W.fnOf "whole" "Reading.whole" (defArgs s_whole) (defBody s_whole) (defScope s_whole) .none kV_whole dc_whole pm_whole an_whole cd_whole ct_whole),sl_whole⟩)
  (c_whole:PySem.W.codeIn K cd_whole "Reading.whole"=true)
  (k_whole:PySem.W.keepIn K (.ref f_whole)=true)
  (pg:PySem.W.plainGet K C Str.empty=true)
  (hd:PySem.W.hasDictIn K C=true)
  (po:PySem.W.plainOver K C=true)
  (sa:PySem.W.findIn K (.ref C) "__setattr__"=some (some (.builtin "object.__setattr__")))
  (mk:PySem.W.makesIn K C=true)
  (kc:PySem.W.keepIn K (.ref C)=true)
  (nR:PySem.W.findIn K (.ref C) "rows"=some none)
  (nP:PySem.W.findIn K (.ref C) "places"=some none)
  (nN:PySem.W.findIn K (.ref C) "named"=some none)
  (eT:PySem.W.nsIn K mainGlobals "NoTree"=some (some (.ref cT)))
  (eX:PySem.W.nsIn K mainGlobals "NoText"=some (some (.ref cX)))
  (xT:PySem.W.excIn K cT [.type "ValueError",.type "Exception",.type "BaseException",.type "object"] "ValueError.__new__"=true)
  (xX:PySem.W.excIn K cX [.type "ValueError",.type "Exception",.type "BaseException",.type "object"] "ValueError.__new__"=true)
  (kpX:PySem.W.keepIn K (.ref cX)=true)
  (t1T:PySem.W.typeIn K (.ref cT)=some (.type "type"))
  (t2T:PySem.W.subIn K (.ref cT) (.type "BaseException")=some true)
  (g1T:PySem.W.clsIn K cT=some dT)
  (sTT:PySem.W.subIn K (.ref cT) (.ref cT)=some true)
  (t1X:PySem.W.typeIn K (.ref cX)=some (.type "type"))
  (t2X:PySem.W.subIn K (.ref cX) (.type "BaseException")=some true)
  (g1X:PySem.W.clsIn K cX=some dX)
  (sXX:PySem.W.subIn K (.ref cX) (.ref cX)=some true)
  (e_DROP:PySem.W.nsIn K mainGlobals "DROP"=some (some u_DROP))
  (r_DROP:RelV (.int 1) u_DROP)
  (e_TURN:PySem.W.nsIn K mainGlobals "TURN"=some (some u_TURN))
  (r_TURN:RelV (.int 6) u_TURN)
  (e_NAMELESS:PySem.W.nsIn K mainGlobals "NAMELESS"=some (some u_NAMELESS))
  (r_NAMELESS:RelV (.int 9) u_NAMELESS)
  (e_FORK:PySem.W.nsIn K mainGlobals "FORK"=some (some u_FORK))
  (r_FORK:RelV (.int 7) u_FORK)
  (e_WHILE:PySem.W.nsIn K mainGlobals "WHILE"=some (some u_WHILE))
  (r_WHILE:RelV (.int 8) u_WHILE)
  (e_LAY:PySem.W.nsIn K mainGlobals "LAY"=some (some u_LAY))
  (r_LAY:RelV (.int 0) u_LAY)
  (e_NAMES:PySem.W.nsIn K mainGlobals "NAMES"=some (some (.ref a_NAMES)))
  (l_NAMES:K.lookup a_NAMES=some o_NAMES)
  (t_NAMES:TupO o_NAMES [.str (PySem.Str.ofString "lay"),.str (PySem.Str.ofString "drop"),.str (PySem.Str.ofString "twin"),.str (PySem.Str.ofString "swap"),.str (PySem.Str.ofString "front"),.str (PySem.Str.ofString "part"),.str (PySem.Str.ofString "turn"),.str (PySem.Str.ofString "fork"),.str (PySem.Str.ofString "while")])
  (u_N:o_NAMES.cls=.type "tuple"∧o_NAMES.dict=none)
  (z_list:PySem.W.nsIn K mainGlobals "list"=some none) (z_reversed:PySem.W.nsIn K mainGlobals "reversed"=some none) (z_isinstance:PySem.W.nsIn K mainGlobals "isinstance"=some none) (z_str:PySem.W.nsIn K mainGlobals "str"=some none) (z_len:PySem.W.nsIn K mainGlobals "len"=some none) (z_tuple:PySem.W.nsIn K mainGlobals "tuple"=some none) (z_min:PySem.W.nsIn K mainGlobals "min"=some none) (z_any:PySem.W.nsIn K mainGlobals "any"=some none) (z_sum:PySem.W.nsIn K mainGlobals "sum"=some none) (z_range:PySem.W.nsIn K mainGlobals "range"=some none) (z_enumerate:PySem.W.nsIn K mainGlobals "enumerate"=some none) (z_all:PySem.W.nsIn K mainGlobals "all"=some none) :
  ∃ fd:FuncData,(∀ (s:Shared) (v:Value),BindsTo s fd ⟨[v],[]⟩ [("_law_script",v)])∧∀ base:Heap,K.In base→base.Ns mainGlobals mg→FnOk l.prog w K mg base CX0 437 fa fd ["_law_script"] (spLaw K):=by
 have e:=hfa.symm.trans (PySem.W.mg_of X G a43)
 cases e
 have F1:=fun_mk (st:=s_show_tree) l1 c1 k1
 have F2:=fun_mk (st:=s_read_tree) l2 c2 k2
 have F3:=fun_mk (st:=s_first) l3 c3 k3
 have F4:=fun_mk (st:=s_rest) l4 c4 k4
 have F5:=fun_mk (st:=s_sort_of) l5 c5 k5
 have F6:=fun_mk (st:=s_load_of) l6 c6 k6
 have F7:=fun_mk (st:=s_lay) l7 c7 k7
 have F8:=fun_mk (st:=s_plain) l8 c8 k8
 have F9:=fun_mk (st:=s_fork) l9 c9 k9
 have F10:=fun_mk (st:=s_loop) l10 c10 k10
 have F11:=fun_mk (st:=s_show) l11 c11 k11
 have F12:=fun_mk (st:=s_spelled) l12 c12 k12
 have F13:=fun_mk (st:=s_odd) l13 c13 k13
 have F14:=fun_mk (st:=s_read) l14 c14 k14
 have F15:=fun_mk (st:=s_pieces_of) l15 c15 k15
 have F16:=fun_mk (st:=s_word_of) l16 c16 k16
 have F17:=fun_mk (st:=s_tree_of) l17 c17 k17
 have F18:=fun_mk (st:=s__law_at) l18 c18 k18
 have F19:=fun_mk (st:=s__law_pick) l19 c19 k19
 have F20:=fun_mk (st:=s__law_joined) l20 c20 k20
 have F21:=fun_mk (st:=s__law_grown) l21 c21 k21
 have F22:=fun_mk (st:=s__law_digits) l22 c22 k22
 have F23:=fun_mk (st:=s__law_is_tree) l23 c23 k23
 have F24:=fun_mk (st:=s__law_leaves) l24 c24 k24
 have F25:=fun_mk (st:=s__law_plain) l25 c25 k25
 have F26:=fun_mk (st:=s__law_odd) l26 c26 k26
 have F27:=fun_mk (st:=s__law_text) l27 c27 k27
 have F28:=fun_mk (st:=s__law_between) l28 c28 k28
 have F29:=fun_mk (st:=s__law_word) l29 c29 k29
 have F30:=fun_mk (st:=s__law_words) l30 c30 k30
 have F31:=fun_mk (st:=s__law_drawn) l31 c31 k31
 have F32:=fun_mk (st:=s__law_brackets) l32 c32 k32
 have F33:=fun_mk (st:=s__law_is_plain) l33 c33 k33
 have F34:=fun_mk (st:=s__law_written_word) l34 c34 k34
 have F35:=fun_mk (st:=s__law_written) l35 c35 k35
 have F36:=fun_mk (st:=s__law_piece) l36 c36 k36
 have F37:=fun_mk (st:=s__law_changed) l37 c37 k37
 have F38:=fun_mk (st:=s__law_right) l38 c38 k38
 have F39:=fun_mk (st:=s__law_tree_by) l39 c39 k39
 have F40:=fun_mk (st:=s__law_any) l40 c40 k40
 have F41:=fun_mk (st:=s__law_piece_by) l41 c41 k41
 have F42:=fun_mk (st:=s__law_all_right) l42 c42 k42
 have F43:=fun_mk (st:=s_law) l43 c43 k43
 have b1:=F1.binds (ps:=["tree"]) fun _ _ _ _ _ _ us hl=>match us,hl with | [_],_=>rfl
 have m1:=PySem.W.mg_of X G a1
 have b2:=F2.binds (ps:=["text"]) fun _ _ _ _ _ _ us hl=>match us,hl with | [_],_=>rfl
 have m2:=PySem.W.mg_of X G a2
 have b3:=F3.binds (ps:=["tree"]) fun _ _ _ _ _ _ us hl=>match us,hl with | [_],_=>rfl
 have m3:=PySem.W.mg_of X G a3
 have b4:=F4.binds (ps:=["tree"]) fun _ _ _ _ _ _ us hl=>match us,hl with | [_],_=>rfl
 have m4:=PySem.W.mg_of X G a4
 have b5:=F5.binds (ps:=["word"]) fun _ _ _ _ _ _ us hl=>match us,hl with | [_],_=>rfl
 have m5:=PySem.W.mg_of X G a5
 have b6:=F6.binds (ps:=["word"]) fun _ _ _ _ _ _ us hl=>match us,hl with | [_],_=>rfl
 have m6:=PySem.W.mg_of X G a6
 have b7:=F7.binds (ps:=["tree"]) fun _ _ _ _ _ _ us hl=>match us,hl with | [_],_=>rfl
 have m7:=PySem.W.mg_of X G a7
 have b8:=F8.binds (ps:=["sort"]) fun _ _ _ _ _ _ us hl=>match us,hl with | [_],_=>rfl
 have m8:=PySem.W.mg_of X G a8
 have b9:=F9.binds (ps:=["yes","no"]) fun _ _ _ _ _ _ us hl=>match us,hl with | [_,_],_=>rfl
 have m9:=PySem.W.mg_of X G a9
 have b10:=F10.binds (ps:=["body"]) fun _ _ _ _ _ _ us hl=>match us,hl with | [_],_=>rfl
 have m10:=PySem.W.mg_of X G a10
 have b11:=F11.binds (ps:=["text"]) fun _ _ _ _ _ _ us hl=>match us,hl with | [_],_=>rfl
 have m11:=PySem.W.mg_of X G a11
 have b12:=F12.binds (ps:=["word"]) fun _ _ _ _ _ _ us hl=>match us,hl with | [_],_=>rfl
 have m12:=PySem.W.mg_of X G a12
 have b13:=F13.binds (ps:=["word"]) fun _ _ _ _ _ _ us hl=>match us,hl with | [_],_=>rfl
 have m13:=PySem.W.mg_of X G a13
 have b14:=F14.binds (ps:=["signs"]) fun _ _ _ _ _ _ us hl=>match us,hl with | [_],_=>rfl
 have m14:=PySem.W.mg_of X G a14
 have b15:=F15.binds (ps:=["signs"]) fun _ _ _ _ _ _ us hl=>match us,hl with | [_],_=>rfl
 have m15:=PySem.W.mg_of X G a15
 have b16:=F16.binds (ps:=["piece"]) fun _ _ _ _ _ _ us hl=>match us,hl with | [_],_=>rfl
 have m16:=PySem.W.mg_of X G a16
 have b17:=F17.binds (ps:=["signs"]) fun _ _ _ _ _ _ us hl=>match us,hl with | [_],_=>rfl
 have m17:=PySem.W.mg_of X G a17
 have b18:=F18.binds (ps:=["_law_script","_law_k"]) fun _ _ _ _ _ _ us hl=>match us,hl with | [_,_],_=>rfl
 have m18:=PySem.W.mg_of X G a18
 have b19:=F19.binds (ps:=["_law_cell","_law_turn","_law_many"]) fun _ _ _ _ _ _ us hl=>match us,hl with | [_,_,_],_=>rfl
 have m19:=PySem.W.mg_of X G a19
 have b20:=F20.binds (ps:=["_law_kids"]) fun _ _ _ _ _ _ us hl=>match us,hl with | [_],_=>rfl
 have m20:=PySem.W.mg_of X G a20
 have b21:=F21.binds (ps:=["_law_cells"]) fun _ _ _ _ _ _ us hl=>match us,hl with | [_],_=>rfl
 have m21:=PySem.W.mg_of X G a21
 have b22:=F22.binds (ps:=["_law_script","_law_span","_law_most"]) fun _ _ _ _ _ _ us hl=>match us,hl with | [_,_,_],_=>rfl
 have m22:=PySem.W.mg_of X G a22
 have b23:=F23.binds (ps:=["_law_found"]) fun _ _ _ _ _ _ us hl=>match us,hl with | [_],_=>rfl
 have m23:=PySem.W.mg_of X G a23
 have b24:=F24.binds (ps:=["_law_many"]) fun _ _ _ _ _ _ us hl=>match us,hl with | [_],_=>rfl
 have m24:=PySem.W.mg_of X G a24
 have b25:=F25.binds (ps:=["_law_cell"]) fun _ _ _ _ _ _ us hl=>match us,hl with | [_],_=>rfl
 have m25:=PySem.W.mg_of X G a25
 have b26:=F26.binds (ps:=["_law_cell","_law_trees"]) fun _ _ _ _ _ _ us hl=>match us,hl with | [_,_],_=>rfl
 have m26:=PySem.W.mg_of X G a26
 have b27:=F27.binds (ps:=["_law_words_here"]) fun _ _ _ _ _ _ us hl=>match us,hl with | [_],_=>rfl
 have m27:=PySem.W.mg_of X G a27
 have b28:=F28.binds (ps:=["_law_some"]) fun _ _ _ _ _ _ us hl=>match us,hl with | [_],_=>rfl
 have m28:=PySem.W.mg_of X G a28
 have b29:=F29.binds (ps:=["_law_cell","_law_way","_law_trees","_law_held"]) fun _ _ _ _ _ _ us hl=>match us,hl with | [_,_,_,_],_=>rfl
 have m29:=PySem.W.mg_of X G a29
 have b30:=F30.binds (ps:=["_law_cells","_law_trees"]) fun _ _ _ _ _ _ us hl=>match us,hl with | [_,_],_=>rfl
 have m30:=PySem.W.mg_of X G a30
 have b31:=F31.binds (ps:=["_law_script","_law_start"]) fun _ _ _ _ _ _ us hl=>match us,hl with | [_,_],_=>rfl
 have m31:=PySem.W.mg_of X G a31
 have b32:=F32.binds (ps:=["_law_tree"]) fun _ _ _ _ _ _ us hl=>match us,hl with | [_],_=>rfl
 have m32:=PySem.W.mg_of X G a32
 have b33:=F33.binds (ps:=["_law_word_here"]) fun _ _ _ _ _ _ us hl=>match us,hl with | [_],_=>rfl
 have m33:=PySem.W.mg_of X G a33
 have b34:=F34.binds (ps:=["_law_word_here"]) fun _ _ _ _ _ _ us hl=>match us,hl with | [_],_=>rfl
 have m34:=PySem.W.mg_of X G a34
 have b35:=F35.binds (ps:=["_law_text_here"]) fun _ _ _ _ _ _ us hl=>match us,hl with | [_],_=>rfl
 have m35:=PySem.W.mg_of X G a35
 have b36:=F36.binds (ps:=["_law_cell","_law_trees"]) fun _ _ _ _ _ _ us hl=>match us,hl with | [_,_],_=>rfl
 have m36:=PySem.W.mg_of X G a36
 have b37:=F37.binds (ps:=["_law_cell","_law_text_here"]) fun _ _ _ _ _ _ us hl=>match us,hl with | [_,_],_=>rfl
 have m37:=PySem.W.mg_of X G a37
 have b38:=F38.binds (ps:=["_law_signs"]) fun _ _ _ _ _ _ us hl=>match us,hl with | [_],_=>rfl
 have m38:=PySem.W.mg_of X G a38
 have b39:=F39.binds (ps:=["_law_digits_here"]) fun _ _ _ _ _ _ us hl=>match us,hl with | [_],_=>rfl
 have m39:=PySem.W.mg_of X G a39
 have b40:=F40.binds (ps:=["_law_script"]) fun _ _ _ _ _ _ us hl=>match us,hl with | [_],_=>rfl
 have m40:=PySem.W.mg_of X G a40
 have b41:=F41.binds (ps:=["_law_digit","_law_trees"]) fun _ _ _ _ _ _ us hl=>match us,hl with | [_,_],_=>rfl
 have m41:=PySem.W.mg_of X G a41
 have b42:=F42.binds (ps:=["_law_script"]) fun _ _ _ _ _ _ us hl=>match us,hl with | [_],_=>rfl
 have m42:=PySem.W.mg_of X G a42
 have m_list:=PySem.W.mg_none_of X G z_list
 have m_reversed:=PySem.W.mg_none_of X G z_reversed
 have m_isinstance:=PySem.W.mg_none_of X G z_isinstance
 have m_str:=PySem.W.mg_none_of X G z_str
 have m_len:=PySem.W.mg_none_of X G z_len
 have m_tuple:=PySem.W.mg_none_of X G z_tuple
 have m_min:=PySem.W.mg_none_of X G z_min
 have m_any:=PySem.W.mg_none_of X G z_any
 have m_sum:=PySem.W.mg_none_of X G z_sum
 have m_range:=PySem.W.mg_none_of X G z_range
 have m_enumerate:=PySem.W.mg_none_of X G z_enumerate
 have m_all:=PySem.W.mg_none_of X G z_all
 have F___init__:=fun_mk (st:=s___init__) l___init__ c___init__ k___init__
 have b___init__:=F___init__.binds (ps:=["self"]) fun _ _ _ _ _ _ us hl=>match us,hl with | [_],_=>rfl
 have F_take:=fun_mk (st:=s_take) l_take c_take k_take
 have b_take:=F_take.binds (ps:=["self","piece"]) fun _ _ _ _ _ _ us hl=>match us,hl with | [_,_],_=>rfl
 have M_take:Meth K C "take" f_take:=⟨a_take,i_take,k_take⟩
 have F_enter:=fun_mk (st:=s_enter) l_enter c_enter k_enter
 have b_enter:=F_enter.binds (ps:=["self","place"]) fun _ _ _ _ _ _ us hl=>match us,hl with | [_,_],_=>rfl
 have M_enter:Meth K C "enter" f_enter:=⟨a_enter,i_enter,k_enter⟩
 have F_leave:=fun_mk (st:=s_leave) l_leave c_leave k_leave
 have b_leave:=F_leave.binds (ps:=["self"]) fun _ _ _ _ _ _ us hl=>match us,hl with | [_],_=>rfl
 have M_leave:Meth K C "leave" f_leave:=⟨a_leave,i_leave,k_leave⟩
 have F_bracketed:=fun_mk (st:=s_bracketed) l_bracketed c_bracketed k_bracketed
 have b_bracketed:=F_bracketed.binds (ps:=["self"]) fun _ _ _ _ _ _ us hl=>match us,hl with | [_],_=>rfl
 have M_bracketed:Meth K C "bracketed" f_bracketed:=⟨a_bracketed,i_bracketed,k_bracketed⟩
 have F_add_word:=fun_mk (st:=s_add_word) l_add_word c_add_word k_add_word
 have b_add_word:=F_add_word.binds (ps:=["self","word"]) fun _ _ _ _ _ _ us hl=>match us,hl with | [_,_],_=>rfl
 have M_add_word:Meth K C "add_word" f_add_word:=⟨a_add_word,i_add_word,k_add_word⟩
 have F_whole:=fun_mk (st:=s_whole) l_whole c_whole k_whole
 have b_whole:=F_whole.binds (ps:=["self"]) fun _ _ _ _ _ _ us hl=>match us,hl with | [_],_=>rfl
 have M_whole:Meth K C "whole" f_whole:=⟨a_whole,i_whole,k_whole⟩
 have cC:Cls K C:=⟨pg,hd,po,sa⟩
 have MK:Mk K C f___init__:=⟨mk,a___init__,i___init__,kc⟩
 have m_Reading:=PySem.W.mg_of X G aC
 have mT:=PySem.W.mg_of X G eT
 have mX:=PySem.W.mg_of X G eX
 have m_DROP:=PySem.W.mg_of X G e_DROP
 have m_TURN:=PySem.W.mg_of X G e_TURN
 have m_NAMELESS:=PySem.W.mg_of X G e_NAMELESS
 have m_FORK:=PySem.W.mg_of X G e_FORK
 have m_WHILE:=PySem.W.mg_of X G e_WHILE
 have m_LAY:=PySem.W.mg_of X G e_LAY
 have m_NAMES:=PySem.W.mg_of X G e_NAMES
 have q_NAMES:=fun H=>t_NAMES.sq (H:=H) l_NAMES
 refine⟨PySem.W.fnOf "law" "law" (defArgs s_law) (defBody s_law) (defScope s_law) .none kV43 dc43 pm43 an43 cd43 ct43,fun s v=>.of_eq rfl,fun base _ _=>?_⟩
 have O1:=ok_show_tree (P:=l.prog) (w:=w) (mg:=mg) (base:=base) m_list m_reversed F1
 have O2:=ok_read_tree (P:=l.prog) (w:=w) (mg:=mg) (base:=base) m_isinstance m_str m_len m_tuple xT mT F2
 have O3:=ok_first (P:=l.prog) (w:=w) (mg:=mg) (base:=base) F3
 have O4:=ok_rest (P:=l.prog) (w:=w) (mg:=mg) (base:=base) F4
 have O7:=ok_lay (P:=l.prog) (w:=w) (mg:=mg) (base:=base) F7
 have O8:=ok_plain (P:=l.prog) (w:=w) (mg:=mg) (base:=base) F8
 have O9:=ok_fork (P:=l.prog) (w:=w) (mg:=mg) (base:=base) m_FORK r_FORK F9
 have O10:=ok_loop (P:=l.prog) (w:=w) (mg:=mg) (base:=base) m_WHILE r_WHILE F10
 have O15:=ok_pieces_of (P:=l.prog) (w:=w) (mg:=mg) (base:=base) F15
 have O18:=ok__law_at (P:=l.prog) (w:=w) (mg:=mg) (base:=base) m_len m_sum F18
 have O19:=ok__law_pick (P:=l.prog) (w:=w) (mg:=mg) (base:=base) F19
 have O20:=ok_joined (P:=l.prog) (w:=w) (mg:=mg) (base:=base) m_tuple F20
 have O22:=ok__law_digits (P:=l.prog) (w:=w) (mg:=mg) (base:=base) m_range F22
 have O23:=ok__law_is_tree (P:=l.prog) (w:=w) (mg:=mg) (base:=base) m_len m_isinstance m_tuple F23
 have O24:=ok__law_leaves (P:=l.prog) (w:=w) (mg:=mg) (base:=base) m_tuple m_range F24
 have O27:=ok__law_text (P:=l.prog) (w:=w) (mg:=mg) (base:=base) m_tuple F27
 have O28:=ok__law_between (P:=l.prog) (w:=w) (mg:=mg) (base:=base) F28
 have O33:=ok__law_is_plain (P:=l.prog) (w:=w) (mg:=mg) (base:=base) m_all m_len F33
 have O41:=ok__law_piece_by (P:=l.prog) (w:=w) (mg:=mg) (base:=base) F41
 have O___init__:=ok___init__ (P:=l.prog) (w:=w) (mg:=mg) (base:=base) cC nR nP nN F___init__
 have O_enter:=ok_enter (P:=l.prog) (w:=w) (mg:=mg) (base:=base) cC nR nP nN F_enter
 have O_leave:=ok_leave (P:=l.prog) (w:=w) (mg:=mg) (base:=base) cC nR nP nN m_tuple F_leave
 have O_add_word:=ok_add_word (P:=l.prog) (w:=w) (mg:=mg) (base:=base) cC nR nP nN F_add_word
 have O_whole:=ok_whole (P:=l.prog) (w:=w) (mg:=mg) (base:=base) cC nR nP nN xX mX m_len m_tuple F_whole
 have O5:=ok_sort_of (P:=l.prog) (w:=w) (mg:=mg) (base:=base) m_min m_len m_NAMELESS r_NAMELESS F3 (O3.mono (by decide)) b3 m3 F5
 have O6:=ok_load_of (P:=l.prog) (w:=w) (mg:=mg) (base:=base) F4 (O4.mono (by decide)) b4 m4 F6
 have O21:=ok_grown (P:=l.prog) (w:=w) (mg:=mg) (base:=base) m_min m_len F19 (O19.mono (by decide)) b19 m19 F20 (O20.mono (by decide)) b20 m20 F21
 have O25:=ok__law_plain (P:=l.prog) (w:=w) (mg:=mg) (base:=base) F19 (O19.mono (by decide)) b19 m19 F24 (O24.mono (by decide)) b24 m24 F25
 have O32:=okN_brackets (P:=l.prog) (w:=w) (mg:=mg) (base:=base) F32 b32 m32 0
 have O13:=ok_odd (P:=l.prog) (w:=w) (mg:=mg) (base:=base) m_any m_WHILE r_WHILE m_LAY r_LAY m_FORK r_FORK m_NAMELESS r_NAMELESS F3 (O3.mono (by decide)) b3 m3 F5 (O5.mono (by decide)) b5 m5 F6 (O6.mono (by decide)) b6 m6 F13
 have O17:=ok_tree_of (P:=l.prog) (w:=w) (mg:=mg) (base:=base) mT t1T t2T ⟨_,g1T⟩ sTT kpX xX mX F2 (O2.mono (by decide)) b2 m2 F17
 have O26:=ok__law_odd (P:=l.prog) (w:=w) (mg:=mg) (base:=base) m_len F19 (O19.mono (by decide)) b19 m19 F24 (O24.mono (by decide)) b24 m24 F20 (O20.mono (by decide)) b20 m20 F26
 have O36:=ok__law_piece (P:=l.prog) (w:=w) (mg:=mg) (base:=base) m_len F19 (O19.mono (by decide)) b19 m19 F36
 have O37:=ok__law_changed (P:=l.prog) (w:=w) (mg:=mg) (base:=base) m_len F19 (O19.mono (by decide)) b19 m19 F37
 have O39:=ok__law_tree_by (P:=l.prog) (w:=w) (mg:=mg) (base:=base) m_min m_len F20 (O20.mono (by decide)) b20 m20 F39
 have O_bracketed:=ok_bracketed (P:=l.prog) (w:=w) (mg:=mg) (base:=base) cC nR nP nN xX mX F10 (O10.mono (by decide)) b10 m10 F9 (O9.mono (by decide)) b9 m9 M_leave (O_leave.mono (by decide)) b_leave F_bracketed
 have O12:=ok_spelled (P:=l.prog) (w:=w) (mg:=mg) (base:=base) m_LAY r_LAY m_FORK r_FORK m_NAMES q_NAMES m_WHILE r_WHILE F13 (O13.mono (by decide)) b13 m13 F1 (O1.mono (by decide)) b1 m1 F5 (O5.mono (by decide)) b5 m5 F6 (O6.mono (by decide)) b6 m6 F3 (O3.mono (by decide)) b3 m3 F4 (O4.mono (by decide)) b4 m4 F12
 have O29:=ok__law_word (P:=l.prog) (w:=w) (mg:=mg) (base:=base) m_len F25 (O25.mono (by decide)) b25 m25 F19 (O19.mono (by decide)) b19 m19 F26 (O26.mono (by decide)) b26 m26 F27 (O27.mono (by decide)) b27 m27 F28 (O28.mono (by decide)) b28 m28 F24 (O24.mono (by decide)) b24 m24 F29
 have O11:=ok_show (P:=l.prog) (w:=w) (mg:=mg) (base:=base) m_list m_reversed m_isinstance m_str F12 (O12.mono (by decide)) b12 m12 F11
 have O30:=ok__law_words (P:=l.prog) (w:=w) (mg:=mg) (base:=base) m_enumerate m_min m_len F19 (O19.mono (by decide)) b19 m19 F29 (O29.mono (by decide)) b29 m29 F30
 have O16:=ok_word_of (P:=l.prog) (w:=w) (mg:=mg) (base:=base) xX mX m_NAMES q_NAMES m_DROP r_DROP m_TURN r_TURN F8 (O8.mono (by decide)) b8 m8 F7 (O7.mono (by decide)) b7 m7 F17 (O17.mono (by decide)) b17 m17 F13 (O13.mono (by decide)) b13 m13 ⟨_,l_NAMES,u_N⟩ F16
 have O31:=ok__law_drawn (P:=l.prog) (w:=w) (mg:=mg) (base:=base) m_range F18 (O18.mono (by decide)) b18 m18 F19 (O19.mono (by decide)) b19 m19 F21 (O21.mono (by decide)) b21 m21 F30 (O30.mono (by decide)) b30 m30 F31
 have O40:=ok__law_any (P:=l.prog) (w:=w) (mg:=mg) (base:=base) F22 (O22.mono (by decide)) b22 m22 F39 (O39.mono (by decide)) b39 m39 F41 (O41.mono (by decide)) b41 m41 F40
 have O34:=(okN_written (P:=l.prog) (w:=w) (mg:=mg) (base:=base) m_len F33 b33 m33 F28 b28 m28 F32 b32 m32 O33 O28 (okN_brackets (P:=l.prog) (w:=w) (mg:=mg) (base:=base) F32 b32 m32) F35 b35 m35 F34 b34 m34 401).1
 have O35:=(okN_written (P:=l.prog) (w:=w) (mg:=mg) (base:=base) m_len F33 b33 m33 F28 b28 m28 F32 b32 m32 O33 O28 (okN_brackets (P:=l.prog) (w:=w) (mg:=mg) (base:=base) F32 b32 m32) F35 b35 m35 F34 b34 m34 401).2
 have O_take:=ok_take (P:=l.prog) (w:=w) (mg:=mg) (base:=base) cC nR nP nN xX mX m_NAMES q_NAMES m_FORK r_FORK m_WHILE r_WHILE F16 (O16.mono (by decide)) b16 m16 M_enter (O_enter.mono (by decide)) b_enter M_add_word (O_add_word.mono (by decide)) b_add_word M_bracketed (O_bracketed.mono (by decide)) b_bracketed F_take
 have O14:=ok_read (P:=l.prog) (w:=w) (mg:=mg) (base:=base) cC nR nP nN xX mX m_isinstance m_str F15 (O15.mono (by decide)) b15 m15 MK (O___init__.mono (by decide)) b___init__ m_Reading M_take (O_take.mono (by decide)) b_take M_whole (O_whole.mono (by decide)) b_whole F14
 have O38:=ok__law_right (P:=l.prog) (w:=w) (mg:=mg) (base:=base) mX t1X t2X ⟨_,g1X⟩ sXX F14 (O14.mono (by decide)) b14 m14 F35 (O35.mono (by decide)) b35 m35 F23 (O23.mono (by decide)) b23 m23 F38
 have O42:=ok__law_all_right (P:=l.prog) (w:=w) (mg:=mg) (base:=base) F40 (O40.mono (by decide)) b40 m40 F35 (O35.mono (by decide)) b35 m35 F23 (O23.mono (by decide)) b23 m23 F14 (O14.mono (by decide)) b14 m14 F11 (O11.mono (by decide)) b11 m11 F38 (O38.mono (by decide)) b38 m38 F42
 exact ok_law (P:=l.prog) (w:=w) (mg:=mg) (base:=base) m_len m_range F42 (O42.mono (by decide)) b42 m42 F21 (O21.mono (by decide)) b21 m21 F20 (O20.mono (by decide)) b20 m20 F27 (O27.mono (by decide)) b27 m27 F31 (O31.mono (by decide)) b31 m31 F36 (O36.mono (by decide)) b36 m36 F37 (O37.mono (by decide)) b37 m37 F18 (O18.mono (by decide)) b18 m18 F38 (O38.mono (by decide)) b38 m38 F35 (O35.mono (by decide)) b35 m35 F14 (O14.mono (by decide)) b14 m14 F11 (O11.mono (by decide)) b11 m11 F43
theorem walk {l:PySem.W.OpenLaw}{q:Program}{loose:List Str}{XP:(Str→Option Value)→Heap→Prop}{YP:World→Heap→Prop}{d:DefRec}{K:Params→PySem.W.Frag} (hn:l.most=some 63) (hdf:d.params.defaults=[])
  (hY:∀ (w:World) (h:Heap),YP w h→(K w.params).In h)
  (F:∀ (w:World) (mg:Str→Option Value) (fa:Addr) (h:Heap),(K w.params).In h→h.Ns mainGlobals mg→mg d.name=some (.ref fa) →
   ∃ fd:FuncData,(∀ (s:Shared) (u:Value),BindsTo s fd ⟨[u],[]⟩ [("_law_script",u)])∧∀ base:Heap,(K w.params).In base→base.Ns mainGlobals mg→FnOk l.prog w (K w.params) mg base CX0 437 fa fd ["_law_script"] (spLaw (K w.params))) :
  PySem.W.WalkO q loose XP YP l.row.toRowW d [] (fun f vs=>PySem.call f vs) :=
 L2.walk_of (n:=63) (k:=437) (x:="_law_script") (CX:=fun _=>CX0) (sp:=fun w=>spLaw (K w.params)) hn (by decide) hdf ⟨rfl,by decide,by decide⟩ hY F (fun _ _ a ns hl _ hS=>⟨a,ns,rfl,hS,hl,fun _=>rfl⟩) fun _ _ _ _ _ z=>z
theorem walkX_of {q:Program}{loose:List Str}{XP:(Str→Option Value)→Heap→Prop}{K:Params→PySem.W.Frag}{n t:Nat}{ad:List Addr}{r:PySem.W.RowW}{d:DefRec}{kwd:List (Str×Expr)}{run:Value→List Value→Sem Value}
  (h:PySem.W.WalkO q loose XP (fun w hp=>(K w.params).In hp) r d kwd run)
  (hI:∀ (w:World) (s₀ s₁:Shared) (args:List PySem.W.WData) (vals:List Value) (as:List Addr),PySem.W.X.obsZ ad s₀=PySem.W.X.valZ K n t w→PySem.W.Laid r.records w s₀ s₁ args vals as→(K w.params).In s₁.heap) :
  PySem.W.WalkX q loose XP (PySem.W.X.obsZ ad) (PySem.W.X.valZ K n t) r d kwd run :=
 fun w s₀ s₁ mg mb G y a o pm cd doc dV kV ho hd hcd hD hmg hg args vals as L hpre hlay hrd hwl hlo=>h w s₀ s₁ mg mb G (hI w s₀ s₁ args vals as y L) a o pm cd doc dV kV ho hd hcd hD hmg hg args vals as hpre hlay hrd hwl hlo
end Sw25
def PySem.W.Fast.tw3755862216300021190:Nat:=0
def PySem.W.Fast.tw2995066373870018716:Nat:=0
def PySem.W.Fast.tw4276554358231821140:Nat:=0
def PySem.W.Fast.tw17820933004843273011:Nat:=0
def PySem.W.Fast.tw10358022099797899810:Nat:=0
def PySem.W.Fast.tw15904029930730159012:Nat:=0
def PySem.W.Fast.tw3741978461573070801:Nat:=0
def PySem.W.Fast.tw12487045543641875203:Nat:=0
def PySem.W.Fast.tw2267573027034548338:Nat:=0
def PySem.W.Fast.tw15283724387826097860:Nat:=0
def PySem.W.Fast.tw14703687252001108174:Nat:=0
def PySem.W.Fast.tw2459999896758728893:Nat:=0
def PySem.W.Fast.tw12388226885862188644:Nat:=0
def PySem.W.Fast.tw3802656017816421501:Nat:=0
def PySem.W.Fast.tw11563303716051988084:Nat:=0
def PySem.W.Fast.tw17993888696426975627:Nat:=0
def PySem.W.Fast.tw7583353820024218291:Nat:=0
def PySem.W.Fast.tw9615495324448244084:Nat:=0
def PySem.W.Fast.tw1560443544109224121:Nat:=0
def PySem.W.Fast.tw5167240763476304613:Nat:=0
def PySem.W.Fast.tw4595500815449017917:Nat:=0
def PySem.W.Fast.tw3678923370308065224:Nat:=0
def PySem.W.Fast.tw12652022773931113704:Nat:=0
def PySem.W.Fast.tw8176868096137299210:Nat:=0
def PySem.W.Fast.tw5734874006806670866:Nat:=0
def PySem.W.Fast.tw3235062800351216314:Nat:=0
def PySem.W.Fast.tw4169575914259256137:Nat:=0
def PySem.W.Fast.tw5861779086658588701:Nat:=0
def PySem.W.Fast.tw650187749092249453:Nat:=0
def PySem.W.Fast.tw4340935713451496963:Nat:=0
def PySem.W.Fast.tw8099131660660325696:Nat:=0
def PySem.W.Fast.tw14182903116238262323:Nat:=0
def PySem.W.Fast.tw5688534213844418532:Nat:=0
def PySem.W.Fast.tw8589543043088032988:Nat:=0
def PySem.W.Fast.tw470074333187565723:Nat:=0
def PySem.W.Fast.tw16037617755285495952:Nat:=0
def PySem.W.Fast.tw5626108981619904409:Nat:=0
open PySem PySem.W PyProof.Rows
set_option maxRecDepth 100000 in
set_option maxHeartbeats 0 in
theorem PySem.Challenge.cw_selfword_k25_whole_what_is_read_holds : PySem.Challenge.rw_selfword_k25_whole_what_is_read.Holds := by
 w_on; o_law; z_head; (case hw=>w_witness2)
 k_fill
 refine Sw25.walkX_of (Sw25.walk (l:=PySem.Challenge.rw_selfword_k25_whole_what_is_read) rfl rfl (fun w h Y=>Y) ?F) ?I
 case I =>
  intro w s₀ s₁ args vals as y L
  z_open y L KX ZH ZN ZT
  exact KX
 case F =>
  intro w mg fa h KX G hmg
  refine' Sw25.all_mk KX G hmg ?a1 ?l1 ?c1 ?k1 ?a2 ?l2 ?c2 ?k2 ?a3 ?l3 ?c3 ?k3 ?a4 ?l4 ?c4 ?k4 ?a5 ?l5 ?c5 ?k5 ?a6 ?l6 ?c6 ?k6 ?a7 ?l7 ?c7 ?k7 ?a8 ?l8 ?c8 ?k8 ?a9 ?l9 ?c9 ?k9 ?a10 ?l10 ?c10 ?k10 ?a11 ?l11 ?c11 ?k11 ?a12 ?l12 ?c12 ?k12 ?a13 ?l13 ?c13 ?k13 ?a14 ?l14 ?c14 ?k14 ?a15 ?l15 ?c15 ?k15 ?a16 ?l16 ?c16 ?k16 ?a17 ?l17 ?c17 ?k17 ?a18 ?l18 ?c18 ?k18 ?a19 ?l19 ?c19 ?k19 ?a20 ?l20 ?c20 ?k20 ?a21 ?l21 ?c21 ?k21 ?a22 ?l22 ?c22 ?k22 ?a23 ?l23 ?c23 ?k23 ?a24 ?l24 ?c24 ?k24 ?a25 ?l25 ?c25 ?k25 ?a26 ?l26 ?c26 ?k26 ?a27 ?l27 ?c27 ?k27 ?a28 ?l28 ?c28 ?k28 ?a29 ?l29 ?c29 ?k29 ?a30 ?l30 ?c30 ?k30 ?a31 ?l31 ?c31 ?k31 ?a32 ?l32 ?c32 ?k32 ?a33 ?l33 ?c33 ?k33 ?a34 ?l34 ?c34 ?k34 ?a35 ?l35 ?c35 ?k35 ?a36 ?l36 ?c36 ?k36 ?a37 ?l37 ?c37 ?k37 ?a38 ?l38 ?c38 ?k38 ?a39 ?l39 ?c39 ?k39 ?a40 ?l40 ?c40 ?k40 ?a41 ?l41 ?c41 ?k41 ?a42 ?l42 ?c42 ?k42 ?a43 ?l43 ?c43 ?k43 ?aC ?a___init__ ?i___init__ ?l___init__ ?c___init__ ?k___init__ ?a_take ?i_take ?l_take ?c_take ?k_take ?a_enter ?i_enter ?l_enter ?c_enter ?k_enter ?a_leave ?i_leave ?l_leave ?c_leave ?k_leave ?a_bracketed ?i_bracketed ?l_bracketed ?c_bracketed ?k_bracketed ?a_add_word ?i_add_word ?l_add_word ?c_add_word ?k_add_word ?a_whole ?i_whole ?l_whole ?c_whole ?k_whole ?pg ?hd ?po ?sa ?mk ?kc ?nR ?nP ?nN ?eT ?eX ?xT ?xX ?kpX ?t1T ?t2T ?g1T ?sTT ?t1X ?t2X ?g1X ?sXX ?e_DROP ?r_DROP ?e_TURN ?r_TURN ?e_NAMELESS ?r_NAMELESS ?e_FORK ?r_FORK ?e_WHILE ?r_WHILE ?e_LAY ?r_LAY ?e_NAMES ?l_NAMES ?t_NAMES ?u_N ?z_list ?z_reversed ?z_isinstance ?z_str ?z_len ?z_tuple ?z_min ?z_any ?z_sum ?z_range ?z_enumerate ?z_all
  (case a1=>k_is); (case l1=>k_is); (case c1=>k_is); (case k1=>k_is)
  (case a2=>k_is); (case l2=>k_is); (case c2=>k_is); (case k2=>k_is)
  (case a3=>k_is); (case l3=>k_is); (case c3=>k_is); (case k3=>k_is)
  (case a4=>k_is); (case l4=>k_is); (case c4=>k_is); (case k4=>k_is)
  (case a5=>k_is); (case l5=>k_is); (case c5=>k_is); (case k5=>k_is)
  (case a6=>k_is); (case l6=>k_is); (case c6=>k_is); (case k6=>k_is)
  (case a7=>k_is); (case l7=>k_is); (case c7=>k_is); (case k7=>k_is)
  (case a8=>k_is); (case l8=>k_is); (case c8=>k_is); (case k8=>k_is)
  (case a9=>k_is); (case l9=>k_is); (case c9=>k_is); (case k9=>k_is)
  (case a10=>k_is); (case l10=>k_is); (case c10=>k_is); (case k10=>k_is)
  (case a11=>k_is); (case l11=>k_is); (case c11=>k_is); (case k11=>k_is)
  (case a12=>k_is); (case l12=>k_is); (case c12=>k_is); (case k12=>k_is)
  (case a13=>k_is); (case l13=>k_is); (case c13=>k_is); (case k13=>k_is)
  (case a14=>k_is); (case l14=>k_is); (case c14=>k_is); (case k14=>k_is)
  (case a15=>k_is); (case l15=>k_is); (case c15=>k_is); (case k15=>k_is)
  (case a16=>k_is); (case l16=>k_is); (case c16=>k_is); (case k16=>k_is)
  (case a17=>k_is); (case l17=>k_is); (case c17=>k_is); (case k17=>k_is)
  (case a18=>k_is); (case l18=>k_is); (case c18=>k_is); (case k18=>k_is)
  (case a19=>k_is); (case l19=>k_is); (case c19=>k_is); (case k19=>k_is)
  (case a20=>k_is); (case l20=>k_is); (case c20=>k_is); (case k20=>k_is)
  (case a21=>k_is); (case l21=>k_is); (case c21=>k_is); (case k21=>k_is)
  (case a22=>k_is); (case l22=>k_is); (case c22=>k_is); (case k22=>k_is)
  (case a23=>k_is); (case l23=>k_is); (case c23=>k_is); (case k23=>k_is)
  (case a24=>k_is); (case l24=>k_is); (case c24=>k_is); (case k24=>k_is)
  (case a25=>k_is); (case l25=>k_is); (case c25=>k_is); (case k25=>k_is)
  (case a26=>k_is); (case l26=>k_is); (case c26=>k_is); (case k26=>k_is)
  (case a27=>k_is); (case l27=>k_is); (case c27=>k_is); (case k27=>k_is)
  (case a28=>k_is); (case l28=>k_is); (case c28=>k_is); (case k28=>k_is)
  (case a29=>k_is); (case l29=>k_is); (case c29=>k_is); (case k29=>k_is)
  (case a30=>k_is); (case l30=>k_is); (case c30=>k_is); (case k30=>k_is)
  (case a31=>k_is); (case l31=>k_is); (case c31=>k_is); (case k31=>k_is)
  (case a32=>k_is); (case l32=>k_is); (case c32=>k_is); (case k32=>k_is)
  (case a33=>k_is); (case l33=>k_is); (case c33=>k_is); (case k33=>k_is)
  (case a34=>k_is); (case l34=>k_is); (case c34=>k_is); (case k34=>k_is)
  (case a35=>k_is); (case l35=>k_is); (case c35=>k_is); (case k35=>k_is)
  (case a36=>k_is); (case l36=>k_is); (case c36=>k_is); (case k36=>k_is)
  (case a37=>k_is); (case l37=>k_is); (case c37=>k_is); (case k37=>k_is)
  (case a38=>k_is); (case l38=>k_is); (case c38=>k_is); (case k38=>k_is)
  (case a39=>k_is); (case l39=>k_is); (case c39=>k_is); (case k39=>k_is)
  (case a40=>k_is); (case l40=>k_is); (case c40=>k_is); (case k40=>k_is)
  (case a41=>k_is); (case l41=>k_is); (case c41=>k_is); (case k41=>k_is)
  (case a42=>k_is); (case l42=>k_is); (case c42=>k_is); (case k42=>k_is)
  (case a43=>k_is); (case l43=>k_is); (case c43=>k_is); (case k43=>k_is)
  (case aC=>k_is)
  (case a___init__=>k_is)
  (case i___init__=>k_is)
  (case l___init__=>k_is)
  (case c___init__=>k_is)
  (case k___init__=>k_is)
  (case a_take=>k_is)
  (case i_take=>k_is)
  (case l_take=>k_is)
  (case c_take=>k_is)
  (case k_take=>k_is)
  (case a_enter=>k_is)
  (case i_enter=>k_is)
  (case l_enter=>k_is)
  (case c_enter=>k_is)
  (case k_enter=>k_is)
  (case a_leave=>k_is)
  (case i_leave=>k_is)
  (case l_leave=>k_is)
  (case c_leave=>k_is)
  (case k_leave=>k_is)
  (case a_bracketed=>k_is)
  (case i_bracketed=>k_is)
  (case l_bracketed=>k_is)
  (case c_bracketed=>k_is)
  (case k_bracketed=>k_is)
  (case a_add_word=>k_is)
  (case i_add_word=>k_is)
  (case l_add_word=>k_is)
  (case c_add_word=>k_is)
  (case k_add_word=>k_is)
  (case a_whole=>k_is)
  (case i_whole=>k_is)
  (case l_whole=>k_is)
  (case c_whole=>k_is)
  (case k_whole=>k_is)
  (case pg=>k_is)
  (case hd=>k_is)
  (case po=>k_is)
  (case sa=>k_is)
  (case mk=>k_is)
  (case kc=>k_is)
  (case nR=>k_is)
  (case nP=>k_is)
  (case nN=>k_is)
  (case eT=>k_is)
  (case eX=>k_is)
  (case xT=>k_exc)
  (case xX=>k_exc)
  (case kpX=>k_is)
  (case t1T=>k_is)
  (case t2T=>k_is)
  (case g1T=>k_is)
  (case sTT=>k_is)
  (case t1X=>k_is)
  (case t2X=>k_is)
  (case g1X=>k_is)
  (case sXX=>k_is)
  (case e_DROP=>k_is)
  (case r_DROP=>exact⟨_,rfl⟩)
  (case e_TURN=>k_is)
  (case r_TURN=>exact⟨_,rfl⟩)
  (case e_NAMELESS=>k_is)
  (case r_NAMELESS=>exact⟨_,rfl⟩)
  (case e_FORK=>k_is)
  (case r_FORK=>exact⟨_,rfl⟩)
  (case e_WHILE=>k_is)
  (case r_WHILE=>exact⟨_,rfl⟩)
  (case e_LAY=>k_is)
  (case r_LAY=>exact⟨_,rfl⟩)
  (case e_NAMES=>k_is)
  (case l_NAMES=>k_is)
  (case t_NAMES=>exact⟨_,_,rfl,rfl,by decide,by repeat (first | exact .nil | refine .cons ⟨_,rfl⟩ ?_)⟩)
  (case u_N=>exact⟨rfl,rfl⟩)
  (case z_list=>k_is)
  (case z_reversed=>k_is)
  (case z_isinstance=>k_is)
  (case z_str=>k_is)
  (case z_len=>k_is)
  (case z_tuple=>k_is)
  (case z_min=>k_is)
  (case z_any=>k_is)
  (case z_sum=>k_is)
  (case z_range=>k_is)
  (case z_enumerate=>k_is)
  (case z_all=>k_is)
#print axioms PySem.Challenge.cw_selfword_k25_whole_what_is_read_holds
