import PyProof.Rows.All
import Wide.All
import OpenK.AllK
import Wide.FinOn
import PyProof.EqAt
import PyProof.EqKinds
import PyProof.TupleCall
import PySem.Challenge.RW_selfword_k92_whole_its_own_text_in_any_t
set_option Elab.async false
set_option linter.all false
set_option maxRecDepth 100000
namespace L2
open PySem PySem.Spec PyProof.Rows
abbrev Key:=Sum Int Str
def keyIs:Key→Value→Bool
 | .inl k,v=>Value.isInt k v
 | .inr x,v=>Value.isStrOf x v
def keyH (w:World):Key→Int
 | .inl k=>hashInt k
 | .inr x=>hashStr w x
theorem keyIs_shape:∀ {k:Key}{v:Value},keyIs k v=true→(∃ i t,k=Sum.inl i∧v=Value.int i t)∨(∃ x t,k=Sum.inr x∧v=Value.str x t)
 | .inl i,v,h=>by
  obtain⟨t,e⟩:=Value.isInt_shape (k:=i) (v:=v) h
  exact .inl ⟨i,t,rfl,e⟩
 | .inr x,v,h=>by
  obtain⟨t,e⟩:=Value.isStrOf_shape (x:=x) (v:=v) h
  exact .inr ⟨x,t,rfl,e⟩
theorem key_ll (a b:Int):decide ((Sum.inl a:Key)=Sum.inl b)=(a == b):=by
 by_cases e:a=b
 ·subst e; simp
 ·have h:¬ (Sum.inl a:Key)=Sum.inl b:=fun q=>e (Sum.inl.inj q)
  rw [decide_eq_false h]
  exact (beq_eq_false_iff_ne.mpr e).symm
theorem key_rr (a b:Str):decide ((Sum.inr a:Key)=Sum.inr b)=decide (a=b):=by
 by_cases e:a=b
 ·subst e; simp
 ·have h:¬ (Sum.inr a:Key)=Sum.inr b:=fun q=>e (Sum.inr.inj q)
  rw [decide_eq_false h,decide_eq_false e]
theorem key_lr (a:Int) (b:Str):decide ((Sum.inl a:Key)=Sum.inr b)=false:=decide_eq_false (fun q=>nomatch q)
theorem key_rl (a:Str) (b:Int):decide ((Sum.inr a:Key)=Sum.inl b)=false:=decide_eq_false (fun q=>nomatch q)
def mixKind (prog:Program) (w:World):PySem.KeyKind prog w Key where
 is:=keyIs
 hash:=keyH w
 inj:=fun v a b ha hb=>by
  rcases keyIs_shape ha with⟨i,t,rfl,rfl⟩ | ⟨x,t,rfl,rfl⟩
  ·rcases keyIs_shape hb with⟨j,u,rfl,e⟩ | ⟨y,u,rfl,e⟩
   ·injection e with e1 _; rw [e1]
   ·exact nomatch e
  ·rcases keyIs_shape hb with⟨j,u,rfl,e⟩ | ⟨y,u,rfl,e⟩
   ·exact nomatch e
   ·injection e with e1 _; rw [e1]
 byValue:=fun k v h=>by
  rcases keyIs_shape h with⟨i,t,rfl,rfl⟩ | ⟨x,t,rfl,rfl⟩ <;> rfl
 pyHash:=fun hv h=>by
  rcases keyIs_shape hv with⟨i,t,rfl,rfl⟩ | ⟨x,t,rfl,rfl⟩
  ·exact wpAny_pyHash_int h
  ·exact wpAny_pyHash_str h
 eqBool:=fun hu hv h=>by
  rcases keyIs_shape hu with⟨i,t,rfl,rfl⟩ | ⟨x,t,rfl,rfl⟩
  ·rcases keyIs_shape hv with⟨j,u,rfl,rfl⟩ | ⟨y,u,rfl,rfl⟩
   ·rw [key_ll] at h; exact wpAny_eqBool_int h
   ·rw [key_lr] at h; exact SeqAt.EqAt.int_str i t y u _ _ _ _ h
  ·rcases keyIs_shape hv with⟨j,u,rfl,rfl⟩ | ⟨y,u,rfl,rfl⟩
   ·rw [key_rl] at h; exact SeqAt.EqAt.str_int x t j u _ _ _ _ h
   ·rw [key_rr] at h; exact wpAny_eqBool_str h
 «strs»:=fun k x t v h=>by
  rcases keyIs_shape h with⟨i,u,rfl,e⟩ | ⟨y,u,rfl,e⟩
  ·exact nomatch e
  ·injection e with e1 _
   subst e1
   cases v <;> rfl
end L2
namespace L2
open PySem PySem.Spec PyProof.Rows
inductive V where
 | non | bl (b:Bool) | int (i:Int) | str (x:Str) | byt (b:Array UInt8) | flt (b:UInt64) | ref (a:Addr) | ty (n:String)
 deriving DecidableEq
def RelV:V→Value→Prop
 | .non,u=>u=Value.none
 | .bl b,u=>u=Value.bool b
 | .int i,u=>∃ t,u=Value.int i t
 | .str x,u=>∃ t,u=Value.str x t
 | .byt b,u=>∃ t,u=Value.bytes b t
 | .flt b,u=>∃ t,u=Value.float b t
 | .ref a,u=>u=Value.ref a
 | .ty n,u=>u=Value.type n
abbrev Vals:List V→List Value→Prop:=Paired RelV
theorem Vals.length {xs:List V}{us:List Value} (r:Vals xs us):xs.length=us.length:=Paired.length r
theorem Vals.get:∀ {xs:List V}{us:List Value}{i:Nat}{x:V},Vals xs us→xs[i]?=some x→∃ u,us[i]?=some u∧RelV x u
 | _,_,_,_,.nil,e=>by simp at e
 | _,_,0,_,.cons r _,e=>by simp at e; subst e; exact⟨_,rfl,r⟩
 | _,_,i+1,x,.cons _ t,e=>by
  obtain⟨u,h1,h2⟩:=Vals.get (i:=i) (x:=x) t (by simpa using e)
  exact⟨u,by simpa using h1,h2⟩
theorem Vals.set {x:V}{u:Value} (r:RelV x u):∀ {xs:List V}{us:List Value} (i:Nat),Vals xs us→Vals (xs.set i x) (us.set i u)
 | _,_,_,.nil=>.nil
 | _,_,0,.cons _ t=>.cons r t
 | _,_,i+1,.cons q t=>.cons q (Vals.set r i t)
theorem Vals.append:∀ {xs ys:List V}{us ws:List Value},Vals xs us→Vals ys ws→Vals (xs++ys) (us++ws)
 | _,_,_,_,.nil,s=>s
 | _,_,_,_,.cons r t,s=>.cons r (Vals.append t s)
theorem Vals.take:∀ {xs:List V}{us:List Value} (n:Nat),Vals xs us→Vals (xs.take n) (us.take n)
 | _,_,0,_=>.nil
 | _,_,_+1,.nil=>.nil
 | _,_,n+1,.cons r t=>.cons r (Vals.take n t)
theorem Vals.drop:∀ {xs:List V}{us:List Value} (n:Nat),Vals xs us→Vals (xs.drop n) (us.drop n)
 | _,_,0,r=>r
 | _,_,_+1,.nil=>.nil
 | _,_,n+1,.cons _ t=>Vals.drop n t
def RelO:Option V→Option Value→Prop
 | some v,some u=>RelV v u
 | none,none=>True
 | _,_=>False
def KV {κ:Type}:List (κ×V)→List (κ×Value)→Prop:=Paired fun (p:κ×V) (q:κ×Value)=>p.1=q.1∧RelV p.2 q.2
def kV:Key→V
 | .inl i=>.int i
 | .inr x=>.str x
inductive HO where
 | lst (xs:List V)
 | tup (xs:List V)
 | dK (kvs:List (Key×V)) | dT (kvs:List (List Key×V))
 | set (S:Int→Bool) (n:Nat)
 | ins (C dx:Addr) (fs:List (Str×V))
 | own (x:Addr)
 | xd (fs:List (Str×V))
 | met (f x:Addr)
 | rng (lo hi:Int)
 | frz (o:Obj) (u:HO)
 | tbl (ps:Array Value)
 | ext (φ:Heap→Prop)
abbrev Hp:=Addr→Option HO
def upd (H:Hp) (a:Addr) (o:HO):Hp:=fun b=>if b=a then some o else H b
theorem upd_same {H:Hp}{a:Addr}{o:HO}:upd H a o a=some o:=by unfold upd; rw [if_pos rfl]
theorem upd_ne {H:Hp}{a b:Addr}{o:HO} (h:b≠a):upd H a o b=H b:=by unfold upd; rw [if_neg h]
theorem upd_upd {H:Hp}{a:Addr}{o u:HO}:upd (upd H a o) a u=upd H a u:=by
 funext b; unfold upd; split <;> rfl
theorem ne_of {H:Hp}{a b:Addr}{o u:HO} (h:H a=some o) (h':H b=some u) (d:o≠u):a≠b:=by
 intro e; subst e; rw [h] at h'; exact d (Option.some.inj h')
theorem ne_of_none {H:Hp}{a b:Addr}{o:HO} (h:H a=some o) (h':H b=none):a≠b:=by
 intro e; subst e; rw [h] at h'; cases h'
section
variable (P:Program) (w:World)
def ObjOk (H:Hp) (h:Heap) (a:Addr):HO→Prop
 | .lst xs=>xs.length≤sizeLine∧∃ (its:List Value) (n:Nat),Vals xs its∧h.get? a=some { cls:=.type "list",data:=.seq its.toArray n }
 | .tup xs=>xs.length≤sizeLine∧∃ its:List Value,Vals xs its∧IsTup h a its.toArray
 | .dK kvs=>kvs.length≤sizeLine∧(a == sysModules)=false∧∃ vs,KV kvs vs∧h.DictOf (mixKind P w) a vs
 | .dT kvs=>kvs.length≤sizeLine∧(a == sysModules)=false∧∃ xs:List (List Key×Addr×Value),
   Paired (fun (p:List Key×V) (q:List Key×Addr×Value)=>p.1=q.1∧H q.2.1=some (.tup (p.1.map kV))∧RelV p.2 q.2.2) kvs xs ∧
   ∃ o es ep,h.get? a=some o∧o.ExactDict∧o.data=.dict es ep∧es.toList=xs.map (entryOfKey (tupleKind (mixKind P w)))∧(xs.map (·.1)).Nodup
 | .set S n=>h.SetOf (intKind P w) a S n
 | .ins C dx fs=>H dx=some (.own a)∧fs.length≤1000∧dx≠a∧h.get? a=some (PySem.W.instObj C dx) ∧
   ∃ mA,h.Ns1 dx mA∧(∀ f,RelO (fs.lookup f) (mA f))∧PySem.Within mA (fs.map (·.1))
 | .own _=>∃ o,h.get? a=some o
 | .xd fs=>∃ mA,h.Ns1 a mA∧∀ f,RelO (fs.lookup f) (mA f)
 | .rng lo hi=>∃ t u v,h.get? a=some { cls:=.type "range",data:=.fields #[.int lo t,.int hi u,.int 1 v] }
 | .frz o u=>h.get? a=some o∧ObjOk H h a u
 | .tbl ps=>h.get? a=some { cls:=.none,data:=.fields ps }
 | .met f x=>h.get? a=some (PySem.W.methodObj (.ref f) (.ref x))
 | .ext φ=>φ h∧(∃ o,h.get? a=some o)∧∀ h1 h2:Heap,φ h1→(∀ o,h1.get? a=some o→h2.get? a=some o)→φ h2
def HOk (H:Hp) (h:Heap):Prop:=∀ a o,H a=some o→ObjOk P w H h a o
end
section
variable {P:Program}{w:World}{H H':Hp}{h h':Heap}{a:Addr}{o:HO}
theorem ObjOk.lt (x:ObjOk P w H h a o):a<h.objs.size:=by
 cases o with
 | lst xs=>obtain⟨_,_,_,_,e⟩:=x; exact Heap.lt_size e
 | tup xs=>obtain⟨_,_,_,p⟩:=x; exact p.lt
 | dK kvs=>obtain⟨_,_,_,_,o,_,_,e,_⟩:=x; exact Heap.lt_size e
 | dT kvs=>obtain⟨_,_,_,_,o,_,_,e,_⟩:=x; exact Heap.lt_size e
 | set S n=>obtain⟨o,_,_,_,e,_⟩:=x; exact Heap.lt_size e
 | ins C dx fs=>obtain⟨_,_,_,e,_⟩:=x; exact Heap.lt_size e
 | own y=>obtain⟨_,e⟩:=x; exact Heap.lt_size e
 | xd fs=>obtain⟨_,⟨_,_,_,e,_⟩,_⟩:=x; exact Heap.lt_size e
 | rng lo hi=>obtain⟨_,_,_,e⟩:=x; exact Heap.lt_size e
 | frz ob u=>obtain⟨e,_⟩:=x; exact Heap.lt_size e
 | tbl ps=>exact Heap.lt_size (show h.get? a=some _ from x)
 | met f y=>exact Heap.lt_size (show h.get? a=some _ from x)
 | ext φ=>obtain⟨_,⟨_,e⟩,_⟩:=x; exact Heap.lt_size e
theorem Paired.mapP {α β:Type}{F G:α→β→Prop}:∀ {l₁:List α}{l₂:List β},Paired F l₁ l₂→(∀ a b,F a b→G a b)→Paired G l₁ l₂
 | _,_,.nil,_=>.nil
 | _,_,.cons r t,f=>.cons (f _ _ r) (Paired.mapP t f)
theorem ObjOk.stay (x:ObjOk P w H h a o) (k:∀ b u,(b=a∨H b=some (.own a))→h.get? b=some u→h'.get? b=some u)
  (ho:∀ b,H b=some (.own a)→H' b=some (.own a)) (ht:∀ b xs,H b=some (.tup xs)→H' b=some (.tup xs)):ObjOk P w H' h' a o:=by
 induction o with
 | lst xs=>obtain⟨z,its,n,r,e⟩:=x; exact⟨z,its,n,r,k _ _ (.inl rfl) e⟩
 | tup xs=>obtain⟨z,its,r,ob,e,c⟩:=x; exact⟨z,its,r,ob,k _ _ (.inl rfl) e,c⟩
 | dK kvs=>obtain⟨z,y,vs,r,ob,es,ep,e,c⟩:=x; exact⟨z,y,vs,r,ob,es,ep,k _ _ (.inl rfl) e,c⟩
 | dT kvs =>
  obtain⟨z,y,xs,r,ob,es,ep,e,c⟩:=x
  exact⟨z,y,xs,Paired.mapP r fun p q z=>⟨z.1,ht _ _ z.2.1,z.2.2⟩,ob,es,ep,k _ _ (.inl rfl) e,c⟩
 | set S n=>obtain⟨ob,es,ep,t,e,c⟩:=x; exact⟨ob,es,ep,t,k _ _ (.inl rfl) e,c⟩
 | ins C dx fs =>
  obtain⟨d,z,ne,e,mA,⟨od,es,ep,e2,c⟩,r⟩:=x
  exact⟨ho _ d,z,ne,k _ _ (.inl rfl) e,mA,⟨od,es,ep,k _ _ (.inr d) e2,c⟩,r⟩
 | own y=>obtain⟨ob,e⟩:=x; exact⟨ob,k _ _ (.inl rfl) e⟩
 | xd fs=>obtain⟨mA,⟨od,es,ep,e,c⟩,r⟩:=x; exact⟨mA,⟨od,es,ep,k _ _ (.inl rfl) e,c⟩,r⟩
 | rng lo hi=>obtain⟨t,u,v,e⟩:=x; exact⟨t,u,v,k _ _ (.inl rfl) e⟩
 | frz ob u ih=>obtain⟨e,q⟩:=x; exact⟨k _ _ (.inl rfl) e,ih q⟩
 | tbl ps =>
  have e:h.get? a=some { cls:=.none,data:=.fields ps }:=x
  show h'.get? a=some { cls:=.none,data:=.fields ps }
  exact k a _ (.inl rfl) e
 | met f y =>
  have e:h.get? a=some (PySem.W.methodObj (.ref f) (.ref y)):=x
  show h'.get? a=some (PySem.W.methodObj (.ref f) (.ref y))
  exact k a _ (.inl rfl) e
 | ext φ=>obtain⟨p,⟨o,e⟩,st⟩:=x; exact⟨st _ _ p fun o q=>k _ _ (.inl rfl) q,⟨o,k _ _ (.inl rfl) e⟩,st⟩
theorem HOk.lt (x:HOk P w H h) (e:H a=some o):a<h.objs.size:=(x a o e).lt
theorem HOk.fresh (x:HOk P w H h) (e:h.objs.size≤a):H a=none:=by
 cases q:H a with
 | none=>rfl
 | some u=>exact absurd (Nat.lt_of_lt_of_le (x.lt q) e) (Nat.lt_irrefl _)
theorem HOk.kept (x:HOk P w H h) (k:∀ b u,h.get? b=some u→h'.get? b=some u):HOk P w H h':=fun a o e =>
 (x a o e).stay (fun b u _ q=>k b u q) (fun _ q=>q) fun _ _ q=>q
theorem HOk.laid (x:HOk P w H h) (k:∀ b u,h.get? b=some u→h'.get? b=some u) (hp:h.objs.size≤a) (new:ObjOk P w (upd H a o) h' a o):HOk P w (upd H a o) h':=fun b u e=>by
 have hn:=x.fresh hp
 by_cases hb:b=a
 ·subst hb; rw [upd_same] at e; cases e; exact new
 ·rw [upd_ne hb] at e
  exact (x b u e).stay (fun c v _ q=>k c v q) (fun c q=>by rw [upd_ne (ne_of_none q hn)]; exact q) fun c xs q=>by rw [upd_ne (ne_of_none q hn)]; exact q
end
def Rd (H:Hp) (a:Addr) (u:HO):Prop:=H a=some u∨∃ o,H a=some (.frz o u)
theorem Rd.ok {P:Program}{w:World}{H:Hp}{h:Heap}{a:Addr}{u:HO} (r:Rd H a u) (x:HOk P w H h):ObjOk P w H h a u:=by
 rcases r with r | ⟨o,r⟩
 ·exact x a u r
 ·obtain⟨_,q⟩:=x a _ r
  exact q
def Mut:Option HO→Prop
 | some (.lst _)=>True
 | some (.dK _)=>True
 | some (.dT _)=>True
 | some (.set _ _)=>True
 | some (.ins _ _ _)=>True
 | some (.ext _)=>True
 | _=>False
section
variable {P:Program}{w:World}{H:Hp}{h h':Heap}{x e:Addr}{o':HO}
theorem HOk.write (ok:HOk P w H h) (mu:Mut (H x)) (he:e=x∨H e=some (.own x)) (k:∀ b u,b≠e→h.get? b=some u→h'.get? b=some u) (heo:∃ u,h'.get? e=some u)
  (new:ObjOk P w (upd H x o') h' x o'):HOk P w (upd H x o') h':=fun b u q=>by
 have nown:∀ c y,H c=some (.own y)→c≠x:=fun c y r z=>by subst z; rw [r] at mu; exact mu
 have ntup:∀ c xs,H c=some (.tup xs)→c≠x:=fun c xs r z=>by subst z; rw [r] at mu; exact mu
 by_cases hb:b=x
 ·subst hb; rw [upd_same] at q; cases q; exact new
 ·rw [upd_ne hb] at q
  by_cases hbe:b=e
  ·have q':H b=some (.own x):=by
    rcases he with z | z
    ·exact absurd (hbe.trans z) hb
    ·rw [hbe]; exact z
   rw [q] at q'; cases q'
   obtain⟨v,hv⟩:=heo
   exact⟨v,by rw [hbe]; exact hv⟩
  ·refine (ok b u q).stay (fun c v hc r=>k c v ?_ r) (fun c r=>by rw [upd_ne (nown c b r)]; exact r) fun c xs r=>by rw [upd_ne (ntup c xs r)]; exact r
   rcases hc with rfl | hc
   ·exact hbe
   ·rintro rfl
    rcases he with z | z
    ·exact nown c b hc z
    ·rw [hc] at z; cases z; exact hb rfl
end
structure Un (fs ex:List Addr) (H H':Hp) (h h':Heap):Prop where
 keep:∀ b o,h.get? b=some o→H b=none→b ∉ fs→b ∉ ex→h'.get? b=some o
 slot:∀ b o,h.get? b=some o→H b=none→b∈fs→b ∉ ex→∃ sl,h'.get? b=some { o with slots:=sl }
 free:∀ b o,h.get? b=some o→H b=none→b ∉ ex→H' b=none
 there:∀ b o,h.get? b=some o→b ∉ ex→∃ o',h'.get? b=some o'
 tups:∀ b xs,H b=some (.tup xs)→H' b=some (.tup xs)
 frzs:∀ b o u,H b=some (.frz o u)→H' b=some (.frz o u)
 tbls:∀ b ps,H b=some (.tbl ps)→∃ more,H' b=some (.tbl (ps++more))
section
variable {fs fs' ex ex':List Addr}{H H1 H2:Hp}{h h1 h2 h':Heap}{a x e:Addr}{o:HO}
theorem Un.any (u:Un fs ex H H1 h h1) {b:Addr}{ob:Obj} (q:h.get? b=some ob) (n:H b=none) (hx:b ∉ ex):∃ sl,h1.get? b=some { ob with slots:=sl }:=by
 by_cases hb:b∈fs
 ·exact u.slot b ob q n hb hx
 ·exact⟨ob.slots,u.keep b ob q n hb hx⟩
theorem Un.kept (k:∀ b u,h.get? b=some u→h'.get? b=some u):Un fs ex H H h h' :=
 ⟨fun b ob q _ _ _=>k b ob q,fun b ob q _ _ _=>⟨ob.slots,k b ob q⟩,fun _ _ _ n _=>n,fun b ob q _=>⟨ob,k b ob q⟩,fun _ _ q=>q,fun _ _ _ q=>q,fun _ ps q=>⟨#[],by rw [q]; simp⟩⟩
theorem Un.refl:Un fs ex H H h h:=Un.kept fun _ _ q=>q
theorem Un.laid (k:∀ b u,h.get? b=some u→h'.get? b=some u) (hp:h.objs.size≤a) (hn:H a=none):Un fs ex H (upd H a o) h h' where
 keep:=fun b u q _ _ _=>k b u q
 slot:=fun b u q _ _ _=>⟨u.slots,k b u q⟩
 free:=fun b u q n _=>by rw [upd_ne (Nat.ne_of_lt (Nat.lt_of_lt_of_le (Heap.lt_size q) hp))]; exact n
 there:=fun b u q _=>⟨u,k b u q⟩
 tups:=fun b xs q=>by rw [upd_ne (ne_of_none q hn)]; exact q
 frzs:=fun b u xs q=>by rw [upd_ne (ne_of_none q hn)]; exact q
 tbls:=fun b ps q=>⟨#[],by rw [upd_ne (ne_of_none q hn),q]; simp⟩
theorem Un.write (mu:Mut (H x)) (he:e=x∨H e=some (.own x)) (k:∀ b u,b≠e→h.get? b=some u→h'.get? b=some u) (heo:∃ u,h'.get? e=some u):Un fs ex H (upd H x o) h h':=by
 have hx:∀ b,H b=none→b≠x:=fun b n z=>by subst z; rw [n] at mu; exact mu
 have hb:∀ b,H b=none→b≠e:=fun b n z=>by
  subst z
  rcases he with r | r
  ·exact hx b n r
  ·rw [n] at r; cases r
 have hm:∀ b u,H b=some u→¬ Mut (some u)→b≠x:=fun b u q nm z=>by subst z; rw [q] at mu; exact nm mu
 refine⟨fun b u q n _ _=>k b u (hb b n) q,fun b u q n _ _=>⟨u.slots,k b u (hb b n) q⟩,fun b u q n _=>by rw [upd_ne (hx b n)]; exact n,fun b u q _=>?_,
  fun b xs q=>by rw [upd_ne (hm b _ q fun z=>z)]; exact q,fun b u xs q=>by rw [upd_ne (hm b _ q fun z=>z)]; exact q,fun b ps q=>⟨#[],by rw [upd_ne (hm b _ q fun z=>z),q]; simp⟩⟩
 by_cases hbe:b=e
 ·subst hbe; exact heo
 ·exact⟨u,k b u hbe q⟩
end
def trk (h:Heap) (H:Hp):List Addr:=(List.range h.objs.size).filter fun a=>(H a).isSome
def hidT (h:Heap) (H:Hp):Heap:=PySem.W.hideAll h (trk h H)
theorem hidT_size (h:Heap) (H:Hp):(hidT h H).objs.size=h.objs.size:=PySem.W.hideAll_size _ _
theorem hidT_get {h:Heap}{H:Hp}{b:Addr}{o:Obj} (e:h.get? b=some o) (n:H b=none):(hidT h H).get? b=some o :=
 PySem.W.hideAll_get _ e fun hm=>by
  have q:(H b).isSome=true:=(List.mem_filter.mp hm).2
  rw [n] at q; simp at q
theorem of_hidT {h:Heap}{H:Hp}{b:Addr}{o:Obj} (e:(hidT h H).get? b=some o):h.get? b=some o∧H b=none:=by
 have e':h.get? b=some o:=PySem.W.of_hideAll (trk h H) e
 refine⟨e',?_⟩
 cases q:H b with
 | none=>rfl
 | some x =>
  have hm:b∈trk h H:=List.mem_filter.mpr ⟨List.mem_range.mpr (Heap.lt_size e'),by simp [q]⟩
  have z:(hidT h H).get? b=none:=PySem.W.hideAll_none (trk h H) hm
  rw [z] at e; cases e
end L2
namespace L2
open PySem PySem.Spec PyProof.Rows
structure Mod (K:PySem.W.Frag) (mg:Str→Option Value) (base:Heap):Prop where
 kin:K.In base
 glob:base.Ns mainGlobals mg
 blt:∃ mb,base.Ns builtinsNs mb∧∀ x:Str,x≠"__name__"→mb x=bootBuiltins x
 nolimit:base.NoLimit
structure Cx where
 prog:Program
 w:World
 K:PySem.W.Frag
 mg:Str→Option Value
 base:Heap
 A:Around
 N:List Str
 s₀:Shared
 H₀:Hp
 env:Env
 outer:List Env
 stack:List Env
 ex:List Addr
 fn:Str→Bool
 calm:Bool
 pn:List (Addr×Obj)
 xe:Value→Shared→Prop
def frs (l:List Env):List Addr:=l.filterMap (·.frame)
abbrev Cx.fs (X:Cx):List Addr:=frs X.outer
def Vis (sc:Scope) (x:Str):Prop:=sc.names.lookup x=some .local∨sc.names.lookup x=some .cell∨sc.names.lookup x=some .free
def Loc (sc:Scope) (x:Str):Prop:=sc.names.lookup x=some .local∨sc.names.lookup x=some .cell
def Look (env:Env) (h:Heap) (m:Str→Option Value) (x:Str) (u:Value):Prop :=
 (env.kindOf x=some .local∧m x=some u)∨((env.kindOf x=some .cell∨env.kindOf x=some .free)∧∃ c,env.cells.lookup x=some c∧h.IsCell c (some u))
structure Cx.Ok (X:Cx):Prop where
 mod:Mod X.K X.mg X.base
 kind:X.env.scope.kind=.function
 glob:X.env.globals=mainGlobals
 blt:X.env.builtins=builtinsNs
 above:X.s₀.heap.objs.size≤X.env.locals
 inj:∀ x y c,X.env.cells.lookup x=some c→X.env.cells.lookup y=some c→x=y
 has:∀ x,(X.env.kindOf x=some .cell∨X.env.kindOf x=some .free)→∃ c,X.env.cells.lookup x=some c
 cab:∀ x c,X.fn x=true→X.env.cells.lookup x=some c→X.s₀.heap.objs.size≤c
 hd:X.calm=true→X.A.handled=none
 frames:X.A.frames=some X.stack
 stk:X.stack=X.outer∨(X.stack=X.env::X.outer∧X.env.frame=some X.env.locals)
 exf:∀ b∈X.ex,b≠X.env.locals∧∀ x c,X.env.cells.lookup x=some c→c≠b
 bs:∀ b o,X.base.get? b=some o→X.s₀.heap.get? b=some o∧X.H₀ b=none
 bsz:X.base.objs.size≤X.s₀.heap.objs.size
 noex:∀ b o,X.base.get? b=some o→b ∉ X.ex
 exfs:∀ b∈X.ex,b ∉ X.fs
 funs:X.s₀.heap.FunFrames X.base X.outer
 frf:∀ b∈X.fs,X.H₀ b=none
structure Inv (X:Cx) (pins:List (Addr×Obj)) (σ:List (Option V)) (H:Hp) (s:Shared):Prop where
 ok:X.Ok
 os:s.os=X.s₀.os
 bare:AllBare s.gens
 base:Un X.fs X.ex X.H₀ H X.s₀.heap s.heap
 loc:∃ m,s.heap.Ns X.env.locals m∧∀ (i:Nat) (x:Str) (v:V),X.N[i]?=some x→σ[i]?=some (some v)→Vis X.env.scope x→∃ u,RelV v u∧Look X.env s.heap m x u
 cell:∀ x c,X.env.cells.lookup x=some c→∃ v,s.heap.IsCell c v
 free:H X.env.locals=none
 freeC:∀ x c,X.env.cells.lookup x=some c→H c=none
 pin:∀ p∈X.pn++pins,s.heap.get? p.1=some p.2∧H p.1=none∧p.1≠X.env.locals∧p.1 ∉ X.fs∧∀ v,p.2.data≠.cell v
 hok:HOk X.prog X.w H s.heap
 len:σ.length=X.N.length
section
variable {X:Cx}{pins:List (Addr×Obj)}{σ:List (Option V)}{H H':Hp}{s:Shared}{h':Heap}
theorem Cx.Ok.nofr (ok:X.Ok) {b:Addr}{o:Obj} (e:X.base.get? b=some o):b ∉ X.fs:=fun hb=>by
 have:=(ok.funs.mem hb).1
 rw [e] at this; cases this
theorem Inv.bs (I:Inv X pins σ H s):∀ b o,X.base.get? b=some o→s.heap.get? b=some o∧H b=none:=fun b o e =>
 ⟨I.base.keep b o (I.ok.bs b o e).1 (I.ok.bs b o e).2 (I.ok.nofr e) (I.ok.noex b o e),I.base.free b o (I.ok.bs b o e).1 (I.ok.bs b o e).2 (I.ok.noex b o e)⟩
theorem Inv.bk (I:Inv X pins σ H s):∀ b o,X.base.get? b=some o→s.heap.get? b=some o:=fun b o e=>(I.bs b o e).1
theorem Inv.mod (I:Inv X pins σ H s):Mod X.K X.mg X.base:=I.ok.mod
theorem Inv.kIn (I:Inv X pins σ H s):X.K.In s.heap:=I.ok.mod.kin.keeps I.bk
theorem Inv.lt (I:Inv X pins σ H s):X.env.locals<s.heap.objs.size:=let ⟨_,hn,_⟩:=I.loc; hn.lt
theorem Inv.sz (I:Inv X pins σ H s):X.s₀.heap.objs.size≤s.heap.objs.size:=Nat.le_trans I.ok.above (Nat.le_of_lt I.lt)
theorem Inv.nofs (I:Inv X pins σ H s) {a:Addr} (h:s.heap.objs.size≤a):a ∉ X.fs:=fun hb=>by
 obtain⟨_,o,ho,_⟩:=I.ok.funs.mem hb
 exact absurd (Nat.lt_of_lt_of_le (Heap.lt_size ho) (Nat.le_trans I.sz h)) (Nat.lt_irrefl _)
theorem Inv.cne (I:Inv X pins σ H s):∀ x c,X.env.cells.lookup x=some c→c≠X.env.locals:=fun x c e z=>by
 obtain⟨v,o,ho,hd⟩:=I.cell x c e
 obtain⟨m,⟨o',es,ep,ho',hd',_⟩,_⟩:=I.loc
 rw [z,ho'] at ho; cases ho; rw [hd'] at hd; cases hd
theorem Inv.funs (I:Inv X pins σ H s):s.heap.FunFrames X.base X.outer:=by
 have all:∀ (l:List Env),(∀ b∈frs l,b∈X.fs)→X.s₀.heap.FunFrames X.base l→s.heap.FunFrames X.base l:=by
  intro l
  induction l with
  | nil=>intro _ _; trivial
  | cons env r ih =>
   intro hs hl
   obtain⟨hk,⟨L,o,hf,hn,ho,hd⟩,hr⟩:=hl
   have hL:L∈X.fs:=hs L (by unfold frs; rw [List.filterMap_cons,hf]; exact List.mem_cons_self)
   obtain⟨sl,e⟩:=I.base.slot L o ho (I.ok.frf L hL) hL fun z=>I.ok.exfs L z hL
   exact⟨hk,⟨L,_,hf,hn,e,hd⟩,ih (fun b hb=>hs b (by unfold frs; rw [List.filterMap_cons,hf]; exact List.mem_cons_of_mem _ hb)) hr⟩
 exact all X.outer (fun _ hb=>hb) I.ok.funs
theorem Inv.stack (I:Inv X pins σ H s):s.heap.FunFrames X.base X.stack:=by
 rcases I.ok.stk with e | ⟨e,hf⟩
 ·rw [e]; exact I.funs
 ·rw [e]
  obtain⟨m,hn,_⟩:=I.loc
  refine .cons (by rw [I.ok.kind]; decide) hf hn ?_ I.funs
  exact Heap.get?_none_of_le (Nat.le_trans I.ok.bsz I.ok.above)
theorem Inv.stkSub (I:Inv X pins σ H s):∀ b∈frs X.stack,b∈X.env.locals::X.fs:=fun b hb=>by
 rcases I.ok.stk with e | ⟨e,hf⟩
 ·rw [e] at hb; exact List.mem_cons_of_mem _ hb
 ·rw [e] at hb
  unfold frs at hb
  rw [List.filterMap_cons,hf] at hb
  exact hb
theorem Inv.stkFree (I:Inv X pins σ H s):∀ b∈frs X.stack,H b=none:=fun b hb=>by
 rcases List.mem_cons.mp (I.stkSub b hb) with e | hb
 ·rw [e]; exact I.free
 ·obtain⟨_,o,ho,_⟩:=I.ok.funs.mem hb
  exact I.base.free b o ho (I.ok.frf b hb) fun z=>I.ok.exfs b z hb
theorem Inv.step {g':Array GenState}{t':Nat}{d':Drawn}{ch:List Addr} (I:Inv X pins σ H s)
  (hch:∀ b∈ch,(b∈X.ex∨X.s₀.heap.objs.size≤b)∧b≠X.env.locals∧(∀ x c,X.env.cells.lookup x=some c→c≠b)∧∀ p∈X.pn++pins,p.1≠b)
  (keep:∀ b o,b≠X.env.locals→b ∉ X.fs→b ∉ ch→s.heap.get? b=some o→H b=none→h'.get? b=some o)
  (slot:∀ b o,b≠X.env.locals→b∈X.fs→b ∉ ch→s.heap.get? b=some o→H b=none→∃ sl,h'.get? b=some { o with slots:=sl }) (free:∀ b o,b ∉ ch→s.heap.get? b=some o→H b=none→H' b=none)
  (there:∀ b o,b ∉ ch→s.heap.get? b=some o→∃ o',h'.get? b=some o')
  (tups:∀ b xs,H b=some (.tup xs)→H' b=some (.tup xs)) (frzs:∀ b o u,H b=some (.frz o u)→H' b=some (.frz o u)) (tbls:∀ b ps,H b=some (.tbl ps)→∃ more,H' b=some (.tbl (ps++more)))
  (ns:∀ m,s.heap.Ns X.env.locals m→h'.Ns X.env.locals m) (hok:HOk X.prog X.w H' h') (hg:AllBare g') :
  Inv X pins σ H' { s with heap:=h',gens:=g',drawn:=d',toks:=t' }:=by
 have neL:∀ b o,X.s₀.heap.get? b=some o→b≠X.env.locals:=fun b o e=>Nat.ne_of_lt (Nat.lt_of_lt_of_le (Heap.lt_size e) I.ok.above)
 have neC:∀ b o,X.s₀.heap.get? b=some o→b ∉ X.ex→b ∉ ch:=fun b o e hx hb=>by
  rcases (hch b hb).1 with z | z
  ·exact hx z
  ·exact absurd (Nat.lt_of_lt_of_le (Heap.lt_size e) z) (Nat.lt_irrefl _)
 have cellK:∀ x c,X.env.cells.lookup x=some c→∀ v,s.heap.IsCell c v→h'.IsCell c v:=fun x c e v ⟨o,ho,hd⟩=>by
  have nch:c ∉ ch:=fun z=>(hch c z).2.2.1 x c e rfl
  by_cases hc:c∈X.fs
  ·obtain⟨sl,q⟩:=slot c o (I.cne x c e) hc nch ho (I.freeC x c e)
   exact⟨_,q,hd⟩
  ·exact⟨o,keep c o (I.cne x c e) hc nch ho (I.freeC x c e),hd⟩
 refine⟨I.ok,I.os,hg,⟨fun b o e n hb hx=>?_,fun b o e n hb hx=>?_,fun b o e n hx=>?_,fun b o e hx=>?_,fun b xs e=>tups b xs (I.base.tups b xs e),fun b o xs e=>frzs b o xs (I.base.frzs b o xs e),fun b ps e=>?_⟩,?_,fun x c e=>?_,?_,fun x c e=>?_,fun p hp=>?_,hok,I.len⟩
 ·exact keep b o (neL b o e) hb (neC b o e hx) (I.base.keep b o e n hb hx) (I.base.free b o e n hx)
 ·obtain⟨sl,e1⟩:=I.base.slot b o e n hb hx
  obtain⟨sl',e2⟩:=slot b _ (neL b o e) hb (neC b o e hx) e1 (I.base.free b o e n hx)
  exact⟨sl',e2⟩
 ·obtain⟨o',e1⟩:=I.base.there b o e hx
  exact free b o' (neC b o e hx) e1 (I.base.free b o e n hx)
 ·obtain⟨o',e1⟩:=I.base.there b o e hx
  exact there b o' (neC b o e hx) e1
 ·obtain⟨m1,e1⟩:=I.base.tbls b ps e
  obtain⟨m2,e2⟩:=tbls b _ e1
  exact⟨m1++m2,by rw [e2,Array.append_assoc]⟩
 ·obtain⟨m,hn,hl⟩:=I.loc
  refine⟨m,ns m hn,fun i x v e1 e2 e3=>?_⟩
  obtain⟨u,r,l⟩:=hl i x v e1 e2 e3
  refine⟨u,r,?_⟩
  rcases l with l | ⟨k,c,e,z⟩
  ·exact .inl l
  ·exact .inr ⟨k,c,e,cellK x c e _ z⟩
 ·obtain⟨v,z⟩:=I.cell x c e
  exact⟨v,cellK x c e v z⟩
 ·obtain⟨m,⟨o,_,_,ho,_⟩,_⟩:=I.loc
  exact free _ o (fun z=>(hch _ z).2.1 rfl) ho I.free
 ·obtain⟨v,o,ho,hd⟩:=I.cell x c e
  exact free c o (fun z=>(hch c z).2.2.1 x c e rfl) ho (I.freeC x c e)
 ·obtain⟨e,n,ne,nf,d⟩:=I.pin p hp
  have nch:p.1 ∉ ch:=fun z=>(hch p.1 z).2.2.2 p hp rfl
  exact⟨keep p.1 p.2 ne nf nch e n,free p.1 p.2 nch e n,ne,nf,d⟩
theorem Inv.un {t':Nat} (I:Inv X pins σ H s) (u:Un X.fs [] H H' s.heap h') (hok:HOk X.prog X.w H' h'):Inv X pins σ H' { s with heap:=h',toks:=t' }:=by
 obtain⟨m,⟨o,es,ep,ho,r⟩,_⟩:=id I.loc
 obtain⟨sl,hL⟩:=u.any ho I.free (by simp)
 exact I.step (g':=s.gens) (d':=s.drawn) (ch:=[]) (fun _ z=>nomatch z) (fun b o _ hb _ e n=>u.keep b o e n hb (by simp)) (fun b o _ hb _ e n=>u.slot b o e n hb (by simp)) (fun b o _ e n=>u.free b o e n (by simp)) (fun b o _ e=>u.there b o e (by simp)) u.tups u.frzs u.tbls (fun m' hm=>by
  obtain⟨o',es',ep',ho',r'⟩:=hm
  rw [ho] at ho'; cases ho'
  exact⟨_,es',ep',hL,r'⟩) hok I.bare
theorem Inv.call {g':Array GenState}{t':Nat}{d':Drawn}{ch:List Addr} (I:Inv X pins σ H s) (u:Un (frs X.stack) ch H H' s.heap h') (hok:HOk X.prog X.w H' h') (hg:AllBare g')
  (hch:∀ b∈ch,(b∈X.ex∨X.s₀.heap.objs.size≤b)∧b≠X.env.locals∧(∀ x c,X.env.cells.lookup x=some c→c≠b)∧∀ p∈X.pn++pins,p.1≠b) :
  Inv X pins σ H' { s with heap:=h',gens:=g',drawn:=d',toks:=t' }:=by
 obtain⟨m,⟨o,es,ep,ho,r⟩,_⟩:=id I.loc
 obtain⟨sl,hL⟩:=u.any ho I.free fun z=>(hch _ z).2.1 rfl
 exact I.step (ch:=ch) hch (fun b o hL hb hc e n=>u.keep b o e n (fun z=>(List.mem_cons.mp (I.stkSub b z)).elim hL hb) hc) (fun b o _ _ hc e n=>u.any e n hc) (fun b o hc e n=>u.free b o e n hc) (fun b o hc e=>u.there b o e hc) u.tups u.frzs u.tbls (fun m' hm=>by
  obtain⟨o',es',ep',ho',r'⟩:=hm
  rw [ho] at ho'; cases ho'
  exact⟨_,es',ep',hL,r'⟩) hok hg
theorem Inv.turned {t':Nat}{it:Addr} (I:Inv X pins σ H s) (k:∀ b o,b≠it→s.heap.get? b=some o→h'.get? b=some o) (hn:H it=none) (hL:it≠X.env.locals)
  (h1:it∈X.ex∨X.s₀.heap.objs.size≤it) (h2:∀ x c,X.env.cells.lookup x=some c→c≠it) (h3:∀ p∈X.pn++pins,p.1≠it):Inv X pins σ H { s with heap:=h',toks:=t' }:=by
 have nit:∀ b u,H b=some u→b≠it:=fun b u e z=>by rw [z,hn] at e; cases e
 refine I.step (g':=s.gens) (d':=s.drawn) (ch:=[it]) (fun b hb=>?_) (fun b o _ _ hc e _=>k b o (fun z=>hc (by simp [z])) e) (fun b o _ _ hc e _=>⟨o.slots,k b o (fun z=>hc (by simp [z])) e⟩) (fun _ _ _ _ n=>n)
  (fun b o hc e=>⟨o,k b o (fun z=>hc (by simp [z])) e⟩) (fun _ _ e=>e) (fun _ _ _ e=>e) (fun b ps e=>⟨#[],by rw [e]; simp⟩) (fun m hm=>?_) (fun b u e=>?_) I.bare
 ·have e:b=it:=by simpa using hb
  subst e
  exact⟨h1,hL,h2,h3⟩
 ·obtain⟨o,es,ep,ho,r⟩:=hm
  exact⟨o,es,ep,k _ o (Ne.symm hL) ho,r⟩
 ·refine (I.hok b u e).stay (fun c v hc q=>k c v ?_ q) (fun _ q=>q) fun _ _ q=>q
  rcases hc with z | z
  ·rw [z]; exact nit b u e
  ·exact nit c _ z
theorem Inv.tok (I:Inv X pins σ H s) (t:Nat):Inv X pins σ H { s with toks:=t }:=I.un (h':=s.heap) (t':=t) Un.refl I.hok
theorem Inv.kept {t':Nat} (I:Inv X pins σ H s) (k:∀ b u,s.heap.get? b=some u→h'.get? b=some u):Inv X pins σ H { s with heap:=h',toks:=t' }:=I.un (Un.kept k) (I.hok.kept k)
theorem Inv.laid {a:Addr}{o:HO}{t':Nat} (I:Inv X pins σ H s) (k:∀ b u,s.heap.get? b=some u→h'.get? b=some u) (hp:s.heap.objs.size≤a) (new:ObjOk X.prog X.w (upd H a o) h' a o) :
  Inv X pins σ (upd H a o) { s with heap:=h',toks:=t' }:=I.un (Un.laid k hp (I.hok.fresh hp)) (I.hok.laid k hp new)
theorem Inv.write {x e:Addr}{o:HO}{t':Nat} (I:Inv X pins σ H s) (mu:Mut (H x)) (he:e=x∨H e=some (.own x)) (k:∀ b u,b≠e→s.heap.get? b=some u→h'.get? b=some u) (heo:∃ u,h'.get? e=some u)
  (new:ObjOk X.prog X.w (upd H x o) h' x o):Inv X pins σ (upd H x o) { s with heap:=h',toks:=t' }:=I.un (Un.write mu he k heo) (I.hok.write mu he k heo new)
theorem Inv.pins_of {pins':List (Addr×Obj)} (I:Inv X pins σ H s) (h:∀ p∈pins',s.heap.get? p.1=some p.2∧H p.1=none∧p.1≠X.env.locals∧p.1 ∉ X.fs∧∀ v,p.2.data≠.cell v):Inv X pins' σ H s :=
 ⟨I.ok,I.os,I.bare,I.base,I.loc,I.cell,I.free,I.freeC,fun p hp=>(List.mem_append.mp hp).elim (fun z=>I.pin p (List.mem_append_left _ z)) (h p),I.hok,I.len⟩
theorem nodup_ix {N:List Str} (hN:N.Nodup) {i j:Nat}{x:Str} (a:N[i]?=some x) (b:N[j]?=some x):i=j:=by
 obtain⟨h1,e1⟩:=List.getElem?_eq_some_iff.mp a
 obtain⟨h2,e2⟩:=List.getElem?_eq_some_iff.mp b
 exact (List.getElem_inj hN).mp (e1.trans e2.symm)
theorem store_ok2 {M:Model}{A:Around}{E:Value→Shared→Prop}{i:Nat}{x:Str}{v:V}{u:Value}{Q:Unit→Shared→Prop} (I:Inv X pins σ H s) (hN:X.N.Nodup) (hi:X.N[i]?=some x) (hx:Loc X.env.scope x) (r:RelV v u)
  (h:∀ s',Inv X pins (σ.set i (some v)) H s'→(∃ a,Heap.SameBut a s.heap s'.heap∧(a=X.env.locals∨X.env.cells.lookup x=some a))→Q () s') (hf:X.fn x=true∨X.env.scope.names.lookup x=some .local:=by first | exact .inl rfl | exact .inr rfl | assumption):wpAny M A (storeName X.env x u) Q E s:=by
 obtain⟨m,hn,hl⟩:=id I.loc
 have hcls:(X.env.scope.kind == .class || (X.env.scope.kind == .module && X.env.locals != X.env.globals))=false:=by rw [I.ok.kind]; rfl
 have hiσ:i<σ.length:=by rw [I.len]; exact (List.getElem?_eq_some_iff.mp hi).1
 have cne:=I.cne
 have tracked:∀ {a:Addr}{h':Heap},(∃ o,s.heap.get? a=some o∧H a=none)→Heap.SameBut a s.heap h'→HOk X.prog X.w H h':=fun {a h'} ha hs b ob e=>by
  obtain⟨_,_,hfree⟩:=ha
  refine (I.hok b ob e).stay (fun c w' hc q=>(hs.2 c ?_).trans q) (fun _ q=>q) fun _ _ q=>q
  rintro rfl
  rcases hc with rfl | hc
  ·rw [hfree] at e; cases e
  ·rw [hfree] at hc; cases hc
 rcases hx with hk | hk
 ·refine wpAny_storeName_local hk hn (fun h' hn' hs=>?_) hcls
  obtain⟨oL,_,_,hoL,_⟩:=id hn
  refine h _ ⟨I.ok,I.os,I.bare,⟨fun b o e n hb hx=>?_,fun b o e n hb hx=>?_,I.base.free,fun b o e hx=>?_,I.base.tups,I.base.frzs,I.base.tbls⟩,⟨_,hn',fun j y v' e1 e2 e3=>?_⟩,fun y c e=>?_,I.free,I.freeC,fun p hp=>?_,tracked ⟨oL,hoL,I.free⟩ hs,by simpa using I.len⟩ ⟨_,hs,.inl rfl⟩
  ·exact (hs.2 b (Nat.ne_of_lt (Nat.lt_of_lt_of_le (Heap.lt_size e) I.ok.above))).trans (I.base.keep b o e n hb hx)
  ·obtain⟨sl,e1⟩:=I.base.slot b o e n hb hx
   exact⟨sl,(hs.2 b (Nat.ne_of_lt (Nat.lt_of_lt_of_le (Heap.lt_size e) I.ok.above))).trans e1⟩
  ·obtain⟨o',e1⟩:=I.base.there b o e hx
   exact⟨o',(hs.2 b (Nat.ne_of_lt (Nat.lt_of_lt_of_le (Heap.lt_size e) I.ok.above))).trans e1⟩
  ·by_cases hj:j=i
   ·subst hj
    rw [hi] at e1; cases e1
    rw [List.getElem?_set_self hiσ] at e2
    cases e2
    exact⟨u,r,.inl ⟨hk,by simp⟩⟩
   ·rw [List.getElem?_set_ne (Ne.symm hj)] at e2
    obtain⟨u',r',q⟩:=hl j y v' e1 e2 e3
    refine⟨u',r',?_⟩
    rcases q with⟨k,e⟩ | ⟨k,c,e,z⟩
    ·refine .inl ⟨k,?_⟩
     have:y≠x:=fun e=>hj (nodup_ix hN e1 (e ▸ hi))
     simp [this,e]
    ·exact .inr ⟨k,c,e,z.sameBut hs (cne y c e)⟩
  ·obtain⟨w',z⟩:=I.cell y c e
   exact⟨w',z.sameBut hs (cne y c e)⟩
  ·obtain⟨e,n,ne,nf,d⟩:=I.pin p hp
   exact⟨(hs.2 p.1 ne).trans e,n,ne,nf,d⟩
 ·have hfn:X.fn x=true:=by
   rcases hf with z | z
   ·exact z
   ·rw [z] at hk; cases hk
  obtain⟨c,hc⟩:=I.ok.has x (.inl hk)
  obtain⟨w',z⟩:=I.cell x c hc
  refine wpAny_storeName_cell I.ok.kind hk hc z (fun h' hc' hs=>?_)
  obtain⟨oc,hoc,hocd⟩:=id z
  refine h { s with heap:=h' } ⟨I.ok,I.os,I.bare,⟨fun b o e n hb hx=>?_,fun b o e n hb hx=>?_,I.base.free,fun b o e hx=>?_,I.base.tups,I.base.frzs,I.base.tbls⟩,⟨m,hn.sameBut hs (Ne.symm (cne x c hc)),fun j y v' e1 e2 e3=>?_⟩,fun y c' e=>?_,I.free,I.freeC,fun p hp=>?_,tracked ⟨oc,hoc,I.freeC x c hc⟩ hs,by simpa using I.len⟩ ⟨c,hs,.inr hc⟩
  ·exact (hs.2 b (Nat.ne_of_lt (Nat.lt_of_lt_of_le (Heap.lt_size e) (I.ok.cab x c hfn hc)))).trans (I.base.keep b o e n hb hx)
  ·obtain⟨sl,e1⟩:=I.base.slot b o e n hb hx
   exact⟨sl,(hs.2 b (Nat.ne_of_lt (Nat.lt_of_lt_of_le (Heap.lt_size e) (I.ok.cab x c hfn hc)))).trans e1⟩
  ·obtain⟨o',e1⟩:=I.base.there b o e hx
   exact⟨o',(hs.2 b (Nat.ne_of_lt (Nat.lt_of_lt_of_le (Heap.lt_size e) (I.ok.cab x c hfn hc)))).trans e1⟩
  ·by_cases hj:j=i
   ·subst hj
    rw [hi] at e1; cases e1
    rw [List.getElem?_set_self hiσ] at e2
    cases e2
    exact⟨u,r,.inr ⟨.inl hk,c,hc,hc'⟩⟩
   ·rw [List.getElem?_set_ne (Ne.symm hj)] at e2
    obtain⟨u',r',q⟩:=hl j y v' e1 e2 e3
    refine⟨u',r',?_⟩
    rcases q with q | ⟨k,c',e,z'⟩
    ·exact .inl q
    ·refine .inr ⟨k,c',e,z'.sameBut hs ?_⟩
     rintro rfl
     exact hj (nodup_ix hN e1 (I.ok.inj _ _ _ e hc ▸ hi))
  ·by_cases hcc:c'=c
   ·subst hcc; exact⟨_,hc'⟩
   ·obtain⟨w2,z2⟩:=I.cell y c' e
    exact⟨w2,z2.sameBut hs hcc⟩
  ·obtain⟨e,n,ne,nf,d⟩:=I.pin p hp
   refine⟨(hs.2 p.1 ?_).trans e,n,ne,nf,d⟩
   intro q
   rw [q,hoc] at e
   have q':oc=p.2:=Option.some.inj e
   exact d w' (by rw [← q']; exact hocd)
theorem store_ok {M:Model}{A:Around}{E:Value→Shared→Prop}{i:Nat}{x:Str}{v:V}{u:Value}{Q:Unit→Shared→Prop} (I:Inv X pins σ H s) (hN:X.N.Nodup) (hi:X.N[i]?=some x) (hx:Loc X.env.scope x) (r:RelV v u)
  (h:∀ s',Inv X pins (σ.set i (some v)) H s'→Q () s') (hf:X.fn x=true∨X.env.scope.names.lookup x=some .local:=by first | exact .inl rfl | exact .inr rfl | assumption):wpAny M A (storeName X.env x u) Q E s :=
 store_ok2 I hN hi hx r (fun s' I' _=>h s' I') hf
end
abbrev XK:=Value→Option Addr→Hp→Prop
abbrev St:=List (Option V)
abbrev VK:=V→Hp→Prop
abbrev TE:=St→Hp→VK→Prop
abbrev TT:=St→Hp→(Bool→Hp→Prop)→Prop
abbrev TA:=St→Hp→(List V→Hp→Prop)→Prop
structure Ends where
 nx:St→Hp→Prop
 rt:VK
 bk:St→Hp→Prop:=fun _ _=>False
 ct:St→Hp→Prop:=fun _ _=>False
abbrev TS:=Ends→St→Hp→Prop
def EP (X:Cx) (pins:List (Addr×Obj)) (σ:St) (Q:VK) (u:Value) (s':Shared):Prop:=∃ v H',Inv X pins σ H' s'∧RelV v u∧Q v H'
def TP (X:Cx) (pins:List (Addr×Obj)) (σ:St) (Q:Bool→Hp→Prop) (b:Bool) (s':Shared):Prop:=∃ H',Inv X pins σ H' s'∧Q b H'
def AP (X:Cx) (pins:List (Addr×Obj)) (σ:St) (Q:List V→Hp→Prop) (us:List Value) (s':Shared):Prop:=∃ vs H',Inv X pins σ H' s'∧Vals vs us∧Q vs H'
def SP (X:Cx) (pins:List (Addr×Obj)) (D:Ends) (f:Flow) (s':Shared):Prop :=
 match f with
 | .next=>∃ σ' H',Inv X pins σ' H' s'∧D.nx σ' H'
 | .brk=>∃ σ' H',Inv X pins σ' H' s'∧D.bk σ' H'
 | .cont=>∃ σ' H',Inv X pins σ' H' s'∧D.ct σ' H'
 | .ret u=>∃ v σ' H',Inv X pins σ' H' s'∧RelV v u∧D.rt v H'
def PE (X:Cx) (e:Expr) (t:TE):Prop :=
 ∀ (pins:List (Addr×Obj)) (s:Shared) (σ:St) (H:Hp) (Q:VK),Inv X pins σ H s→t σ H Q→wpAny (model X.prog X.w) X.A (eval e X.env) (EP X pins σ Q) X.xe s
def PT (X:Cx) (e:Expr) (t:TT):Prop :=
 ∀ (pins:List (Addr×Obj)) (s:Shared) (σ:St) (H:Hp) (Q:Bool→Hp→Prop),Inv X pins σ H s→t σ H Q→wpAny (model X.prog X.w) X.A (isTrue e X.env (eval e X.env)) (TP X pins σ Q) X.xe s
def PW (X:Cx) (e:Expr) (t:TT):Prop :=
 ∀ (whole:Sem Value) (pins:List (Addr×Obj)) (s:Shared) (σ:St) (H:Hp) (Q:Bool→Hp→Prop),Inv X pins σ H s→t σ H Q→wpAny (model X.prog X.w) X.A (isTrue e X.env whole) (TP X pins σ Q) X.xe s
theorem PW.pt {X:Cx}{e:Expr}{t:TT} (h:PW X e t):PT X e t:=h _
def PA (X:Cx) (es:List Expr) (t:TA):Prop :=
 ∀ (pos:Pos) (pins:List (Addr×Obj)) (s:Shared) (σ:St) (H:Hp) (Q:List V→Hp→Prop),Inv X pins σ H s→t σ H Q→wpAny (model X.prog X.w) X.A (spliced (backTo pos (starEach es X.env))) (AP X pins σ Q) X.xe s
def PS (X:Cx) (st:Stmt) (t:TS):Prop :=
 ∀ (pins:List (Addr×Obj)) (s:Shared) (σ:St) (H:Hp) (D:Ends),Inv X pins σ H s→t D σ H→wpAny (model X.prog X.w) X.A (exec st X.env) (SP X pins D) X.xe s
def PSs (X:Cx) (st:List Stmt) (t:TS):Prop :=
 ∀ (pins:List (Addr×Obj)) (s:Shared) (σ:St) (H:Hp) (D:Ends),Inv X pins σ H s→t D σ H→wpAny (model X.prog X.w) X.A (execs st X.env) (SP X pins D) X.xe s
theorem thn {α:Type}{t:Sem α}{Q Q':α→Shared→Prop}{M:Model}{A:Around}{E:Value→Shared→Prop}{s:Shared} (h:wpAny M A t Q E s) (hQ:∀ a s,Q a s→Q' a s):wpAny M A t Q' E s:=wpAny_mono h hQ fun _ _ x=>x
end L2
namespace L2
open PySem PySem.Spec PyProof.Rows
section
variable {X:Cx}
def tVar (i:Nat):TE:=fun σ H Q=>∃ v,σ[i]?=some (some v)∧Q v H
def tC (v:V):TE:=fun _ H Q=>Q v H
theorem pe_var {i:Nat}{x:Str}{pos:Pos} (hN:X.N[i]?=some x) (hv:Vis X.env.scope x) (hd:(x == ("__debug__":Str))=false:=by decide) (hcd:(x == ("__classdict__":Str))=false:=by decide):PE X (.Name x pos) (tVar i):=by
 intro pins s σ H Q I h
 obtain⟨v,e,h⟩:=h
 obtain⟨m,hn,hl⟩:=I.loc
 obtain⟨u,r,l⟩:=hl i x v hN e hv
 have fin:EP X pins σ Q u s:=⟨v,H,I,r,h⟩
 rcases l with⟨hk,hm⟩ | ⟨hk,c,hc,hcell⟩
 ·exact wpAny_Name (wpAny_loadName_local I.ok.kind hk hn hm fin) hd
 ·rcases hk with hk | hk
  ·exact wpAny_Name (wpAny_loadName_cell I.ok.kind hk hc hcell fin) hd
  ·exact wpAny_Name (wpAny_loadName_free I.ok.kind hk hc hcell fin hcd) hd
theorem pe_int {i j pos}:PE X (.Constant (.int i) j pos) (tC (.int i)):=fun _ _ _ H _ I h=>wpAny_Constant_int ⟨.int i,H,I.tok _,⟨_,rfl⟩,h⟩
theorem pe_bl {b j pos}:PE X (.Constant (.bool b) j pos) (tC (.bl b)):=fun _ _ _ H _ I h=>Constant_bool ⟨.bl b,H,I,rfl,h⟩
theorem pe_non {j pos}:PE X (.Constant .none j pos) (tC .non):=fun _ _ _ H _ I h=>Constant_none ⟨.non,H,I,rfl,h⟩
theorem pe_str {x j pos}:PE X (.Constant (.str x) j pos) (tC (.str x)):=fun _ _ _ H _ I h=>Calls.Constant_str ⟨.str x,H,I.tok _,⟨_,rfl⟩,h⟩
def Gl (X:Cx) (x:Str):Prop:=X.env.kindOf x=some .globalImplicit
theorem ld_glob {E:Value→Shared→Prop}{pins:List (Addr×Obj)}{s:Shared}{σ:St}{H:Hp}{x:Str}{u:Value}{pos:Pos}{Q:Value→Shared→Prop} (I:Inv X pins σ H s) (hg:Gl X x) (hm:X.mg x=some u) (h:Q u s)
  (hd:(x == ("__debug__":Str))=false:=by decide):wpAny (model X.prog X.w) X.A (eval (.Name x pos) X.env) Q E s :=
 Calls.Name_function_global I.ok.kind hg (Calls.loadGlobal_global (by rw [I.ok.glob]; exact I.mod.glob.keeps I.bk) hm h) hd
theorem ld_blt {E:Value→Shared→Prop}{pins:List (Addr×Obj)}{s:Shared}{σ:St}{H:Hp}{x:Str}{u:Value}{pos:Pos}{Q:Value→Shared→Prop} (I:Inv X pins σ H s) (hg:Gl X x) (hm:X.mg x=none) (hv:bootBuiltins x=some u) (h:Q u s)
  (hn:x≠"__name__":=by decide) (hd:(x == ("__debug__":Str))=false:=by decide):wpAny (model X.prog X.w) X.A (eval (.Name x pos) X.env) Q E s:=by
 obtain⟨mb,h1,h2⟩:=I.mod.blt
 exact Calls.Name_function_global I.ok.kind hg (Calls.loadGlobal_builtin (by rw [I.ok.glob]; exact I.mod.glob.keeps I.bk) hm (by rw [I.ok.blt]; exact h1.keeps I.bk) ((h2 x hn).trans hv) h) hd
theorem pe_glob {x:Str}{v:V}{u:Value}{pos:Pos} (hg:Gl X x) (hm:X.mg x=some u) (r:RelV v u) (hd:(x == ("__debug__":Str))=false:=by decide):PE X (.Name x pos) (tC v) :=
 fun _ _ _ H _ I h=>ld_glob I hg hm ⟨v,H,I,r,h⟩ hd
theorem pe_bltn {x:Str}{v:V}{u:Value}{pos:Pos} (hg:Gl X x) (hm:X.mg x=none) (hv:bootBuiltins x=some u) (r:RelV v u) (hn:x≠"__name__":=by decide) (hd:(x == ("__debug__":Str))=false:=by decide):PE X (.Name x pos) (tC v) :=
 fun _ _ _ H _ I h=>ld_blt I hg hm hv ⟨v,H,I,r,h⟩ hn hd
variable {a b:Expr}{ta tb:TE}{pos:Pos}
def tB (t:TE):TT:=fun σ H Q=>t σ H fun x H1=>∃ c,x=.bl c∧Q c H1
theorem pt_val {e:Expr}{t:TE} (h:PE X e t) (he:∀ whole,isTrue e X.env whole=(do let v ← whole; standAt e.pos; holding [v] (truthy v)):=by intro _; rfl):PT X e (tB t):=by
 intro pins s σ H Q I hw
 refine isTrue_plain (thn (h pins s σ H _ I hw) fun v s1 ⟨x,H1,I1,r1,q1⟩=>?_) (he _)
 obtain⟨d,rfl,q⟩:=q1
 cases r1
 exact wpAny_truthy_bool ⟨H1,I1,q⟩
variable {tA tB':TT}{rest:List Expr}
def tAnd (t u:TT):TT:=fun σ H Q=>t σ H fun c H1=>if c=true then u σ H1 Q else Q false H1
def tOr (t u:TT):TT:=fun σ H Q=>t σ H fun c H1=>if c=true then Q true H1 else u σ H1 Q
def tNot (t:TT):TT:=fun σ H Q=>t σ H fun c H1=>Q (!c) H1
theorem pw_and1 (ha:PT X a tA):PW X (.BoolOp .And [a] pos) tA:=by
 intro wh pins s σ H Q I h
 refine isTrue_and (thn (ha pins s σ H Q I h) fun c s1 e=>?_)
 cases c with
 | true=>exact isTrue_and_nil e
 | false=>exact e
theorem pw_or1 (ha:PT X a tA):PW X (.BoolOp .Or [a] pos) tA:=by
 intro wh pins s σ H Q I h
 refine isTrue_or (thn (ha pins s σ H Q I h) fun c s1 e=>?_)
 cases c with
 | false=>exact isTrue_or_nil e
 | true=>exact e
theorem pw_and (ha:PT X a tA) (hb:PW X (.BoolOp .And (b::rest) pos) tB'):PW X (.BoolOp .And (a::b::rest) pos) (tAnd tA tB'):=by
 intro wh pins s σ H Q I h
 refine isTrue_and (thn (ha pins s σ H _ I h) fun c s1 ⟨H1,I1,q1⟩=>?_)
 cases c with
 | true=>exact hb wh pins s1 σ H1 Q I1 q1
 | false=>exact⟨H1,I1,q1⟩
theorem pw_or (ha:PT X a tA) (hb:PW X (.BoolOp .Or (b::rest) pos) tB'):PW X (.BoolOp .Or (a::b::rest) pos) (tOr tA tB'):=by
 intro wh pins s σ H Q I h
 refine isTrue_or (thn (ha pins s σ H _ I h) fun c s1 ⟨H1,I1,q1⟩=>?_)
 cases c with
 | true=>exact⟨H1,I1,q1⟩
 | false=>exact hb wh pins s1 σ H1 Q I1 q1
theorem pt_not (ha:PT X a tA):PT X (.UnaryOp .Not a pos) (tNot tA):=by
 intro pins s σ H Q I h
 exact isTrue_not (ha pins s σ H (fun c H1=>Q (!c) H1) I h)
def tAndV (ta tb:TE):TE:=fun σ H Q=>ta σ H fun x H1=>∃ c,x=.bl c∧if c=true then tb σ H1 Q else Q (.bl false) H1
theorem pe_one {op}{t:TE} (h:PE X a t):PE X (.BoolOp op [a] pos) t:=fun pins s σ H Q I hw=>BoolOp_one (h pins s σ H Q I hw)
theorem pe_and (ha:PE X a ta) (hb:PE X (.BoolOp .And (b::rest) pos) tb):PE X (.BoolOp .And (a::b::rest) pos) (tAndV ta tb):=by
 intro pins s σ H Q I h
 refine BoolOp_and (thn (ha pins s σ H _ I h) fun v s1 ⟨x,H1,I1,r1,q1⟩=>?_)
 obtain⟨c,rfl,q1⟩:=q1
 cases r1
 refine wpAny_truthy_bool ?_
 cases c with
 | true=>exact hb pins s1 σ H1 Q I1 q1
 | false=>exact⟨.bl false,H1,I1,rfl,q1⟩
def tIf (t:TT) (ta tb:TE):TE:=fun σ H Q=>t σ H fun c H1=>if c=true then ta σ H1 Q else tb σ H1 Q
theorem pe_ifExp {c:Expr} (hc:PT X c tA) (ha:PE X a ta) (hb:PE X b tb):PE X (.IfExp c a b pos) (tIf tA ta tb):=by
 intro pins s σ H Q I h
 refine wpAny_IfExp (thn (hc pins s σ H _ I h) fun d s1 ⟨H1,I1,q1⟩=>?_)
 cases d with
 | true=>exact ha pins s1 σ H1 Q I1 q1
 | false=>exact hb pins s1 σ H1 Q I1 q1
end
end L2
namespace L2
open PySem PySem.Spec PyProof.Rows
def SqL (K:PySem.W.Frag) (H:Hp) (a:Addr) (xs:List V):Prop :=
 Rd H a (.lst xs) ∨
  ∃ (o:Obj) (its:Array Value) (n:Nat),K.lookup a=some o∧o.cls=.type "list"∧o.dict=none∧o.data=.seq its n∧its.size≤sizeLine∧Vals xs its.toList
def SqT (K:PySem.W.Frag) (H:Hp) (a:Addr) (xs:List V):Prop :=
 Rd H a (.tup xs) ∨
  ∃ (o:Obj) (its:Array Value) (n:Nat),K.lookup a=some o∧o.cls=.type "tuple"∧o.data=.seq its n∧its.size≤sizeLine∧Vals xs its.toList
def absV:Value→Option V
 | .none=>some .non
 | .bool b=>some (.bl b)
 | .int i _=>some (.int i)
 | .str x _=>some (.str x)
 | .bytes b _=>some (.byt b)
 | .float b _=>some (.flt b)
 | .ref a=>some (.ref a)
 | .type n=>some (.ty n)
 | _=>none
theorem RelV.abs {x:V}{u:Value} (r:RelV x u):absV u=some x:=by
 cases x with
 | non=>cases r; rfl
 | bl _=>cases r; rfl
 | int _=>obtain⟨t,rfl⟩:=r; rfl
 | str _=>obtain⟨t,rfl⟩:=r; rfl
 | byt _=>obtain⟨t,rfl⟩:=r; rfl
 | flt _=>obtain⟨t,rfl⟩:=r; rfl
 | ref _=>cases r; rfl
 | ty _=>cases r; rfl
theorem RelV.inj {x y:V}{u:Value} (r:RelV x u) (q:RelV y u):x=y:=Option.some.inj (r.abs.symm.trans q.abs)
theorem Vals.inj:∀ {xs ys:List V}{us:List Value},Vals xs us→Vals ys us→xs=ys
 | _,_,_,.nil,.nil=>rfl
 | _,_,_,.cons r t,.cons r' t'=>by rw [r.inj r',Vals.inj t t']
section
variable {X:Cx}{pins:List (Addr×Obj)}{σ:St}{H:Hp}{s:Shared}{a:Addr}{xs ys:List V}
theorem SqL.of {K:PySem.W.Frag} (h:H a=some (.lst xs)):SqL K H a xs:=.inl (.inl h)
theorem SqT.of {K:PySem.W.Frag} (h:H a=some (.tup xs)):SqT K H a xs:=.inl (.inl h)
theorem Inv.list (I:Inv X pins σ H s) (h:SqL X.K H a xs):∃ its:List Value,Vals xs its∧PlainL s.heap a its.toArray∧xs.length≤sizeLine:=by
 rcases h with h | ⟨o,its,n,hk,hc,hd,hs,hz,r⟩
 ·obtain⟨z,its,n,r,e⟩:=h.ok I.hok
  exact⟨its,r,⟨_,n,e,rfl,rfl,rfl⟩,z⟩
 ·refine⟨its.toList,r,⟨o,n,I.kIn a o hk,hc,hd,by simpa using hs⟩,?_⟩
  have e:=r.length
  simp only [Array.length_toList] at e
  lia
theorem Inv.tuple (I:Inv X pins σ H s) (h:SqT X.K H a xs):∃ its:List Value,Vals xs its∧IsTup s.heap a its.toArray∧xs.length≤sizeLine:=by
 rcases h with h | ⟨o,its,n,hk,hc,hs,hz,r⟩
 ·obtain⟨z,its,r,p⟩:=h.ok I.hok
  exact⟨its,r,p,z⟩
 ·refine⟨its.toList,r,⟨o,I.kIn a o hk,hc,n,by simpa using hs⟩,?_⟩
  have e:=r.length
  simp only [Array.length_toList] at e
  lia
theorem Inv.list_inj (I:Inv X pins σ H s) (h:SqL X.K H a xs) (h':SqL X.K H a ys):xs=ys:=by
 obtain⟨its,r,⟨o,n,e,_,_,d⟩,_⟩:=I.list h
 obtain⟨its',r',⟨o',n',e',_,_,d'⟩,_⟩:=I.list h'
 rw [e] at e'; cases e'
 rw [d] at d'
 injection d' with d1 _
 have:its=its':=by simpa using congrArg Array.toList d1
 subst this
 exact r.inj r'
theorem Inv.tuple_inj (I:Inv X pins σ H s) (h:SqT X.K H a xs) (h':SqT X.K H a ys):xs=ys:=by
 obtain⟨its,r,⟨o,e,_,n,d⟩,_⟩:=I.tuple h
 obtain⟨its',r',⟨o',e',_,n',d'⟩,_⟩:=I.tuple h'
 rw [e] at e'; cases e'
 rw [d] at d'
 injection d' with d1 _
 have:its=its':=by simpa using congrArg Array.toList d1
 subst this
 exact r.inj r'
end
abbrev Cx.wish (X:Cx) (E:Value→Shared→Prop):Cx:={ X with xe:=E }
abbrev Cx.nox (X:Cx):Cx:=X.wish fun _ _=>False
theorem Cx.Ok.wish {X:Cx} (ok:X.Ok) (E:Value→Shared→Prop):(X.wish E).Ok :=
 ⟨ok.mod,ok.kind,ok.glob,ok.blt,ok.above,ok.inj,ok.has,ok.cab,ok.hd,ok.frames,ok.stk,ok.exf,ok.bs,ok.bsz,ok.noex,ok.exfs,ok.funs,ok.frf⟩
theorem Cx.Ok.unwish {X:Cx}{E:Value→Shared→Prop} (ok:(X.wish E).Ok):X.Ok :=
 ⟨ok.mod,ok.kind,ok.glob,ok.blt,ok.above,ok.inj,ok.has,ok.cab,ok.hd,ok.frames,ok.stk,ok.exf,ok.bs,ok.bsz,ok.noex,ok.exfs,ok.funs,ok.frf⟩
section
variable {X:Cx}{pins:List (Addr×Obj)}{σ:St}{H:Hp}{s:Shared}{E:Value→Shared→Prop}
theorem Inv.wish (I:Inv X pins σ H s) (E:Value→Shared→Prop):Inv (X.wish E) pins σ H s:=⟨I.ok.wish E,I.os,I.bare,I.base,I.loc,I.cell,I.free,I.freeC,I.pin,I.hok,I.len⟩
theorem Inv.unwish (I:Inv (X.wish E) pins σ H s):Inv X pins σ H s:=⟨I.ok.unwish,I.os,I.bare,I.base,I.loc,I.cell,I.free,I.freeC,I.pin,I.hok,I.len⟩
theorem SP.unwish {D:Ends}{f:Flow}{s':Shared} (h:SP (X.wish E) pins D f s'):SP X pins D f s':=by
 cases f with
 | next=>obtain⟨σ',H',I,q⟩:=h; exact⟨σ',H',I.unwish,q⟩
 | brk=>obtain⟨σ',H',I,q⟩:=h; exact⟨σ',H',I.unwish,q⟩
 | cont=>obtain⟨σ',H',I,q⟩:=h; exact⟨σ',H',I.unwish,q⟩
 | ret u=>obtain⟨v,σ',H',I,r,q⟩:=h; exact⟨v,σ',H',I.unwish,r,q⟩
theorem PSs.nox {st:List Stmt}{t:TS} (h:PSs X.nox st t):PSs X st t:=fun pins s σ H D I hw =>
 wpAny_mono (h pins s σ H D (I.wish _) hw) (fun _ _ q=>q.unwish) fun _ _ z=>False.elim z
end
section
variable {X:Cx}{st:Stmt}{rest:List Stmt}{t u:TS}{e:Expr}{te:TE}{pos:Pos}
def tNext:TS:=fun D σ H=>D.nx σ H
def tSeq (t u:TS):TS:=fun D σ H=>t { D with nx:=u D } σ H
theorem pss_nil:PSs X [] tNext:=fun _ _ σ H _ I h=>wpAny_execs_nil ⟨σ,H,I,h⟩
theorem pss_cons (h1:PS X st t) (h2:PSs X rest u):PSs X (st::rest) (tSeq t u):=by
 intro pins s σ H D I h
 refine wpAny_execs_cons (thn (h1 pins s σ H { D with nx:=u D } I h) fun f s1 q=>?_)
 cases f with
 | next =>
  obtain⟨σ',H',I',q⟩:=q
  exact h2 pins s1 σ' H' D I' q
 | ret v=>exact q
 | brk=>exact q
 | cont=>exact q
theorem pss_one (h1:PS X st t):PSs X [st] t:=by
 intro pins s σ H D I h
 refine wpAny_execs_cons (thn (h1 pins s σ H D I h) fun f s1 q=>?_)
 cases f with
 | next=>exact wpAny_execs_nil q
 | ret v=>exact q
 | brk=>exact q
 | cont=>exact q
def tCont:TS:=fun D σ H=>D.ct σ H
theorem ps_pass:PS X (.Pass pos) tNext:=fun _ _ σ H _ I h=>wpAny_Pass ⟨σ,H,I,h⟩
theorem ps_continue:PS X (.Continue pos) tCont:=fun _ _ σ H _ I h=>wpAny_Continue ⟨σ,H,I,h⟩
theorem Inv.quiet {pins:List (Addr×Obj)}{σ:St}{H:Hp}{s:Shared} (I:Inv X pins σ H s):interactive X.env=false:=by simp [interactive,I.ok.kind]
def tDrop (te:TE):TS:=fun D σ H=>te σ H fun _ H1=>D.nx σ H1
theorem ps_expr (he:PE X e te) (hs:swapsWith e none pos.line X.env=pure false:=by rfl):PS X (.Expr e pos) (tDrop te):=by
 intro pins s σ H D I h
 exact wpAny_Expr_any (thn (he pins s σ H _ I h) fun v s1 ⟨x,H1,I1,r1,q1⟩=>⟨σ,H1,I1,q1⟩) I.quiet hs
def tRet (te:TE):TS:=fun D σ H=>te σ H D.rt
theorem ps_ret (he:PE X e te):PS X (.Return (some e) pos) (tRet te):=by
 intro pins s σ H D I h
 exact wpAny_Return_some (thn (he pins s σ H _ I h) fun v s1 ⟨x,H1,I1,r1,q1⟩=>⟨x,σ,H1,I1,r1,q1⟩)
def tRetN:TS:=fun D _ H=>D.rt .non H
theorem ps_retN:PS X (.Return none pos) tRetN:=fun _ _ σ H _ I h=>wpAny_Return_none ⟨.non,σ,H,I,rfl,h⟩
def tIfS (c:TT) (t u:TS):TS:=fun D σ H=>c σ H fun b H1=>if b=true then t D σ H1 else u D σ H1
theorem ps_if {c:Expr}{a b:List Stmt}{tc:TT} (hc:PT X c tc) (ha:PSs X a t) (hb:PSs X b u):PS X (.If c a b pos) (tIfS tc t u):=by
 intro pins s σ H D I h
 refine wpAny_If (thn (hc pins s σ H _ I h) fun d s1 ⟨H1,I1,q1⟩=>?_)
 cases d with
 | true=>exact ha pins s1 σ H1 D I1 q1
 | false=>exact hb pins s1 σ H1 D I1 q1
def tNever:TS:=fun _ _ _=>False
theorem ps_never:PS X st tNever:=fun _ _ _ _ _ _ h=>h.elim
end
abbrev TG:=V→St→Hp→(St→Hp→Prop)→Prop
def PG (X:Cx) (target:Expr) (t:TG):Prop :=
 ∀ (pins:List (Addr×Obj)) (s:Shared) (σ:St) (H:Hp) (v:V) (u:Value) (Q:St→Hp→Prop),Inv X pins σ H s→RelV v u→t v σ H Q →
  wpAny (model X.prog X.w) X.A (assign target X.env u) (fun _ s'=>∃ σ' H',Inv X pins σ' H' s'∧Q σ' H') X.xe s
abbrev TSet:=V→V→V→Hp→(Hp→Prop)→Prop
def PSet (X:Cx) (t:TSet):Prop :=
 ∀ (pins:List (Addr×Obj)) (s:Shared) (σ:St) (H:Hp) (o i v:V) (ov iv u:Value) (Q:Hp→Prop),Inv X pins σ H s→RelV o ov→RelV i iv→RelV v u→t o i v H Q →
  wpAny (model X.prog X.w) X.A (setItem ov iv u) (fun _ s'=>∃ H',Inv X pins σ H' s'∧Q H') X.xe s
abbrev TIp:=V→V→Hp→VK→Prop
def PIp (X:Cx) (op:Operator) (t:TIp):Prop :=
 ∀ (pins:List (Addr×Obj)) (s:Shared) (σ:St) (H:Hp) (x y:V) (v u:Value) (Q:VK),Inv X pins σ H s→RelV x v→RelV y u→t x y H Q →
  wpAny (model X.prog X.w) X.A (inplaceOp op v u) (EP X pins σ Q) X.xe s
section
variable {X:Cx}{pos:Pos}
def gName (i:Nat):TG:=fun v σ H Q=>Q (σ.set i (some v)) H
theorem pg_name {i:Nat}{x:Str} (hN:X.N.Nodup) (hi:X.N[i]?=some x) (hx:Loc X.env.scope x) (hf:X.fn x=true∨X.env.scope.names.lookup x=some .local:=by first | exact .inl rfl | exact .inr rfl | assumption):PG X (.Name x pos) (gName i):=by
 intro pins s σ H v u Q I r h
 exact wpAny_assign_Name (store_ok I hN hi hx r (fun s' I'=>⟨_,H,I',h⟩) hf)
def gSub (to ti:TE) (t:TSet):TG:=fun v σ H Q=>to σ H fun o H1=>ti σ H1 fun i H2=>t o i v H2 fun H3=>Q σ H3
theorem pg_sub {o i:Expr}{to ti:TE}{t:TSet} (ho:PE X o to) (hi:PE X i ti) (hs:PSet X t)
  (ha:∀ v,assign (.Subscript o i pos) X.env v=(do
   let ov ← holding [v] (eval o X.env)
   let iv ← holding [v,ov] (eval i X.env)
   standAt pos
   holding [v,ov,iv] (setItem ov iv v)
   release [v,ov,iv] []):=by intro _; rfl):PG X (.Subscript o i pos) (gSub to ti t):=by
 intro pins s σ H v u Q I r h
 rw [ha]
 refine wpAny_bind (wpAny_holding (thn (ho pins s σ H _ I h) fun ov s1 ⟨x,H1,I1,r1,q1⟩=>?_))
 refine wpAny_bind (wpAny_holding (thn (hi pins s1 σ H1 _ I1 q1) fun iv s2 ⟨y,H2,I2,r2,q2⟩=>?_))
 refine wpAny_bind (wpAny_standAt (wpAny_bind (wpAny_holding (thn (hs pins s2 σ H2 x y v ov iv u _ I2 r1 r2 r q2) fun _ s3 ⟨H3,I3,q3⟩=>?_))))
 exact wpAny_release ⟨σ,H3,I3,q3⟩
def tAsg (te:TE) (g:TG):TS:=fun D σ H=>te σ H fun x H1=>g x σ H1 D.nx
theorem ps_asg {tg e:Expr}{te:TE}{g:TG} (he:PE X e te) (hg:PG X tg g) (hs:swapsWithSole [tg] e pos.line X.env=pure false:=by rfl) (hw:swappedStores [tg] e X.env=pure none:=by rfl)
  (h1:(assignEach [tg] X.env).map (·.2)=[assign tg X.env]:=by rfl):PS X (.Assign [tg] e pos) (tAsg te g):=by
 intro pins s σ H D I h
 refine wpAny_Assign_stores (thn (he pins s σ H _ I h) fun v s1 ⟨x,H1,I1,r1,q1⟩=>?_) hs hw
 rw [h1]
 exact thn (hg pins s1 σ H1 x v _ I1 r1 q1) fun _ s2 q=>q
theorem ps_set {i:Nat}{x:Str}{e:Expr}{te:TE}{pos':Pos} (hN:X.N.Nodup) (hi:X.N[i]?=some x) (hx:Loc X.env.scope x) (he:PE X e te) (hs:swapsWith e (some (.Name x pos')) pos.line X.env=pure false:=by rfl) (hf:X.fn x=true∨X.env.scope.names.lookup x=some .local:=by first | exact .inl rfl | exact .inr rfl | assumption) :
  PS X (.Assign [.Name x pos'] e pos) (tAsg te (gName i)):=by
 intro pins s σ H D I h
 refine wpAny_Assign_Name (thn (he pins s σ H _ I h) fun v s1 ⟨y,H1,I1,r1,q1⟩=>?_) hs
 exact store_ok I1 hN hi hx r1 (fun s2 I2=>⟨_,H1,I2,q1⟩) hf
def tAug (i:Nat) (te:TE) (ti:TIp):TS:=fun D σ H=>∃ x,σ[i]?=some (some x)∧te σ H fun y H1=>ti x y H1 fun z H2=>D.nx (σ.set i (some z)) H2
theorem ps_aug {i:Nat}{x:Str}{e:Expr}{te:TE}{op:Operator}{ti:TIp}{pos':Pos} (hN:X.N.Nodup) (hi:X.N[i]?=some x) (hx:Loc X.env.scope x) (he:PE X e te) (ho:PIp X op ti) (hf:X.fn x=true∨X.env.scope.names.lookup x=some .local:=by first | exact .inl rfl | exact .inr rfl | assumption) :
  PS X (.AugAssign (.Name x pos') op e pos) (tAug i te ti):=by
 intro pins s σ H D I h
 obtain⟨v,e1,h⟩:=h
 obtain⟨m,hn,hl⟩:=I.loc
 have vis:Vis X.env.scope x:=by rcases hx with k | k; exact .inl k; exact .inr (.inl k)
 obtain⟨u,r,l⟩:=hl i x v hi e1 vis
 refine wpAny_AugAssign_Name ?_
 have go:wpAny (model X.prog X.w) X.A (eval e X.env) (fun w s₂=>wpAny (model X.prog X.w) X.A (inplaceOp op u w) (fun r s₃=>wpAny (model X.prog X.w) X.A (storeName X.env x r) (fun _=>SP X pins D .next) X.xe s₃) X.xe s₂) X.xe s:=by
  refine thn (he pins s σ H _ I h) fun w s1 ⟨y,H1,I1,r1,q1⟩=>?_
  refine thn (ho pins s1 σ H1 v y u w _ I1 r r1 q1) fun z s2 ⟨zv,H2,I2,r2,q2⟩=>?_
  exact store_ok I2 hN hi hx r2 (fun s3 I3=>⟨_,H2,I3,q2⟩) hf
 rcases l with⟨hk,hm⟩ | ⟨hk,c,hc,hcell⟩
 ·exact wpAny_loadName_local I.ok.kind hk hn hm go
 ·rcases hk with hk | hk
  ·exact wpAny_loadName_cell I.ok.kind hk hc hcell go
  ·rcases hx with k | k
   ·have:X.env.scope.names.lookup x=some .free:=hk
    rw [k] at this; cases this
   ·have:X.env.scope.names.lookup x=some .free:=hk
    rw [k] at this; cases this
def tAugS (to ti te:TE) (tget:V→V→Hp→VK→Prop) (tip:TIp) (tset:TSet):TS:=fun D σ H=>to σ H fun o H1=>ti σ H1 fun i H2=>tget o i H2 fun x H3=>te σ H3 fun y H4=>tip x y H4 fun z H5=>tset o i z H5 fun H6=>D.nx σ H6
def PGet (X:Cx) (t:V→V→Hp→VK→Prop):Prop :=
 ∀ (pins:List (Addr×Obj)) (s:Shared) (σ:St) (H:Hp) (o i:V) (ov iv:Value) (Q:VK),Inv X pins σ H s→RelV o ov→RelV i iv→t o i H Q →
  wpAny (model X.prog X.w) X.A (getItem ov iv) (EP X pins σ Q) X.xe s
theorem ps_augS {o i e:Expr}{to ti te:TE}{tget:V→V→Hp→VK→Prop}{tip:TIp}{tset:TSet}{op:Operator}{tpos:Pos} (ho:PE X o to) (hi:PE X i ti) (hg:PGet X tget) (he:PE X e te) (hp:PIp X op tip) (hs:PSet X tset)
  (ha:∀ ov iv new,augStore i ov iv new=(do holding [new,ov,iv] (setItem ov iv new); release [new,ov,iv] []; pure .next):=by intros; rfl):PS X (.AugAssign (.Subscript o i tpos) op e pos) (tAugS to ti te tget tip tset):=by
 intro pins s σ H D I h
 refine wpAny_AugAssign_SubscriptAny (thn (ho pins s σ H _ I h) fun ov s1 ⟨x1,H1,I1,r1,q1⟩=>?_) ha
 refine thn (hi pins s1 σ H1 _ I1 q1) fun iv s2 ⟨x2,H2,I2,r2,q2⟩=>?_
 refine thn (hg pins s2 σ H2 x1 x2 ov iv _ I2 r1 r2 q2) fun old s3 ⟨x3,H3,I3,r3,q3⟩=>?_
 refine thn (he pins s3 σ H3 _ I3 q3) fun v s4 ⟨x4,H4,I4,r4,q4⟩=>?_
 refine thn (hp pins s4 σ H4 x3 x4 old v _ I4 r3 r4 q4) fun new s5 ⟨x5,H5,I5,r5,q5⟩=>?_
 exact thn (hs pins s5 σ H5 x1 x2 x5 ov iv new _ I5 r1 r2 r5 q5) fun _ s6 ⟨H6,I6,q6⟩=>⟨σ,H6,I6,q6⟩
def ipI (f:Int→Int→Int):TIp:=fun x y H Q=>∃ i j,x=.int i∧y=.int j∧Q (.int (f i j)) H
theorem ip_add:PIp X .Add (ipI fun i j=>i+j):=by
 intro pins s σ H x y v u Q I r1 r2 h
 obtain⟨i,j,e1,e2,q⟩:=h
 subst e1; subst e2
 obtain⟨t,rfl⟩:=r1
 obtain⟨t',rfl⟩:=r2
 exact iadd_int ⟨.int _,H,I.tok _,⟨_,rfl⟩,q⟩
end
section
variable {X:Cx}{pos:Pos}
def tWhile (c:TT) (tb:TS):TS:=fun D σ H=>∃ W:Nat→St→Hp→Prop,(∃ m,W m σ H)∧∀ m σ H,W m σ H →
 c σ H fun b H1=>if b=true then ∃ N:St→Hp→Prop,(∀ σ' H',N σ' H'→∃ m',m'<m∧W m' σ' H')∧tb { D with nx:=N,ct:=N,bk:=D.nx } σ H1 else D.nx σ H1
theorem ps_while {c:Expr}{body:List Stmt}{tc:TT}{tb:TS} (hp:PassesOwn (model X.prog X.w) X.A X.env X.xe) (hc:PT X c tc) (hb:PSs X body tb):PS X (.While c body [] pos) (tWhile tc tb):=by
 intro pins s σ H D I h
 obtain⟨W,⟨m0,w0⟩,turn⟩:=h
 refine wpAny_While (codeAny_whileLoop (fun n s'=>∃ σ' H',Inv X pins σ' H' s'∧W n σ' H') ?_ m0 ⟨σ,H,I,w0⟩)
 rintro n s1 ⟨σ1,H1,I1,w1⟩
 refine wpAny_passesOwn hp (thn (hc pins s1 σ1 H1 _ I1 (turn n σ1 H1 w1)) fun b s2 ⟨H2,I2,q2⟩=>?_)
 cases b with
 | true =>
  obtain⟨N,hN,q2⟩:=q2
  rw [if_pos rfl]
  refine wpAny_passesOwn hp (thn (hb pins s2 σ1 H2 _ I2 q2) fun f s3 q3=>?_)
  cases f with
  | next =>
   obtain⟨σ3,H3,I3,n3⟩:=q3
   obtain⟨m',hm,w3⟩:=hN σ3 H3 n3
   exact⟨m',hm,σ3,H3,I3,w3⟩
  | cont =>
   obtain⟨σ3,H3,I3,n3⟩:=q3
   obtain⟨m',hm,w3⟩:=hN σ3 H3 n3
   exact⟨m',hm,σ3,H3,I3,w3⟩
  | brk=>exact q3
  | ret v=>exact q3
 | false =>
  rw [if_neg Bool.false_ne_true]
  exact wpAny_execs_nil ⟨σ1,H2,I2,q2⟩
end
structure It where
 go:Nat→Hp→Prop
 yld:Nat→Hp→V→Hp→Prop
 stop:Nat→Hp→Prop
def FpOk (X:Cx) (pins:List (Addr×Obj)) (H:Hp) (b:Addr):Prop :=
 H b=none∧b≠X.env.locals∧b ∉ X.fs∧(b∈X.ex∨X.s₀.heap.objs.size≤b)∧(∀ x c,X.env.cells.lookup x=some c→c≠b)∧∀ p∈X.pn++pins,p.1≠b
theorem Inv.fpOk {X:Cx}{pins:List (Addr×Obj)}{σ:St}{H H':Hp}{s:Shared}{b:Addr} (I:Inv X pins σ H s) (hb:s.heap.objs.size≤b) (hn:H' b=none):FpOk X pins H' b:=by
 refine⟨hn,Nat.ne_of_gt (Nat.lt_of_lt_of_le I.lt hb),I.nofs hb,.inr (Nat.le_trans I.sz hb),fun x c e z=>?_,fun p hp z=>?_⟩
 ·obtain⟨v,q⟩:=I.cell x c e
  exact absurd (Nat.lt_of_lt_of_le q.lt (by rw [z]; exact hb)) (Nat.lt_irrefl _)
 ·exact absurd (Nat.lt_of_lt_of_le (Heap.lt_size (I.pin p hp).1) (by rw [z]; exact hb)) (Nat.lt_irrefl _)
structure Turn (P:Program) (w:World) (K:PySem.W.Frag) (tg:Expr) (J:It) (fp:List Addr) (it:Addr) (tn:Nat→Heap→Prop):Prop where
 mem:it∈fp
 obj:∀ i h,tn i h→∀ b∈fp,∃ o,h.get? b=some o∧∀ v,o.data≠.cell v
 keep:∀ i h h',tn i h→(∀ b∈fp,∀ o,h.get? b=some o→h'.get? b=some o)→tn i h'
 item:∀ (X:Cx),X.prog=P→X.w=w→X.K=K→X.calm=true→∀ (i:Nat) (pins:List (Addr×Obj)) (s:Shared) (σ:St) (H:Hp) (E:Value→Shared→Prop),Inv X pins σ H s→(∀ b∈fp,FpOk X pins H b)→tn i s.heap→J.go i H →
  wpAny (model P w) X.A (pyNext (.ref it)) (fun r s1=>∃ u,r=some u ∧
   wpAny (model P w) X.A (letOwnedTupleGo tg (.ref it) u) (fun _ s2=>∃ x H',Inv X pins σ H' s2∧RelV x u∧J.yld i H x H'∧tn (i+1) s2.heap∧∀ b∈fp,H' b=none) E s1) E s
 done:∀ (X:Cx),X.prog=P→X.w=w→X.K=K→X.calm=true→∀ (i:Nat) (pins:List (Addr×Obj)) (s:Shared) (σ:St) (H:Hp) (E:Value→Shared→Prop),Inv X pins σ H s→(∀ b∈fp,FpOk X pins H b)→tn i s.heap→J.stop i H →
  wpAny (model P w) X.A (pyNext (.ref it)) (fun r s1=>r=none∧Inv X pins σ H s1) E s
 self:∀ (A:Around) (i:Nat) (s:Shared) (Q:Value→Shared→Prop) (E:Value→Shared→Prop),tn i s.heap→Q (.ref it) s→wpAny (model P w) A (pyIter (.ref it)) Q E s
abbrev TI:=St→Hp→(It→Hp→Prop)→Prop
def PIE (X:Cx) (pins:List (Addr×Obj)) (σ:St) (tg:Expr) (R:It→Hp→Prop) (itv:Value) (s2:Shared):Prop :=
 ∃ (it:Addr) (fp:List Addr) (tn:Nat→Heap→Prop) (J:It) (H':Hp),itv=.ref it∧Inv X pins σ H' s2∧Turn X.prog X.w X.K tg J fp it tn∧tn 0 s2.heap∧(∀ b∈fp,FpOk X pins H' b)∧R J H'
def PI (X:Cx) (tg iter:Expr) (wi:TI):Prop :=
 ∀ (pins:List (Addr×Obj)) (s:Shared) (σ:St) (H:Hp) (R:It→Hp→Prop),Inv X pins σ H s→wi σ H R →
  wpAny (model X.prog X.w) X.A (eval iter X.env) (fun v s1=>wpAny (model X.prog X.w) X.A (pyIter v) (PIE X pins σ tg R) X.xe s1) X.xe s
theorem go_of {M:Model}{A:Around}{E:Value→Shared→Prop}{s:Shared}{tg:Expr}{it:Addr}{u:Value}{o:Obj}{n:String}{vs:Array Value}{Q:Unit→Shared→Prop} (ho:s.heap.get? it=some o) (hc:o.cls=.type n) (hd:o.data=.fields vs)
  (hn:["enumerate","zip","dict_itemiterator","dict_reverseitemiterator","odict_iterator","itertools.zip_longest","itertools.pairwise"].contains n=false) (hQ:Q () s):wpAny M A (letOwnedTupleGo tg (.ref it) u) Q E s:=by
 unfold letOwnedTupleGo
 cases tg <;> first
  | exact wpAny_pure hQ
  | (cases u <;> first
    | exact wpAny_pure hQ
    | (refine wpAny_bind (wpAny_load ho ?_);rw [hc,hd];show wpAny M A (if (["enumerate","zip","dict_itemiterator","dict_reverseitemiterator","odict_iterator","itertools.zip_longest","itertools.pairwise"].contains n && vs[0]? == some (rawInt _))=true then _ else _) Q E s;rw [if_neg (by intro h; rw [hn,Bool.false_and] at h; cases h)];exact wpAny_pure hQ))
def Itl (K:PySem.W.Frag) (a:Addr):It :=
 ⟨fun i H=>∃ xs x,SqL K H a xs∧xs[i]?=some x,fun i H x H'=>H'=H∧∀ xs,SqL K H a xs→xs[i]?=some x,fun i H=>∃ xs,SqL K H a xs∧xs.length≤i⟩
def Itt (K:PySem.W.Frag) (a:Addr):It :=
 ⟨fun i H=>∃ xs x,SqT K H a xs∧xs[i]?=some x,fun i H x H'=>H'=H∧∀ xs,SqT K H a xs→xs[i]?=some x,fun i H=>∃ xs,SqT K H a xs∧xs.length≤i⟩
def Itr (lo:Int) (n:Nat):It:=⟨fun i _=>i<n,fun i H x H'=>H'=H∧x=.int (lo+i),fun i _=>n≤i⟩
theorem turn_list {P:Program}{w:World}{K:PySem.W.Frag}{tg:Expr} (a it:Addr):Turn P w K tg (Itl K a) [it] it (fun i h=>h.IsListIter it a i) where
 mem:=by simp
 obj:=fun i h st b hb=>by
  have e:b=it:=by simpa using hb
  subst e
  obtain⟨o,e,c,d⟩:=st
  exact⟨o,e,fun v z=>by rw [d] at z; cases z⟩
 keep:=fun i h h' st k=>st.at fun o e=>k it (by simp) o e
 item:=by
  intro X hP hw hK hc i pins s σ H E I hf st hg
  subst hP hw hK
  obtain⟨xs,x,hq,hx⟩:=hg
  obtain⟨its,rv,p,hz⟩:=I.list hq
  obtain⟨u,hu,ru⟩:=rv.get hx
  obtain⟨f0,f1,f2,f3,f4,f5⟩:=hf it (by simp)
  refine wpAny_pyNext_list_item st p.isList (x:=u) (by simpa using hu) fun h' st' sb=>?_
  have I1:Inv X pins σ H { s with heap:=h' }:=I.turned (t':=s.toks) (fun b o hb e=>(sb.2 b hb).trans e) f0 f1 f3 f4 f5
  obtain⟨o,e,c,d⟩:=id st'
  exact⟨u,rfl,go_of (s:={ s with heap:=h' }) e c d (by decide) ⟨x,H,I1,ru,⟨rfl,fun ys hy=>by rw [I.list_inj hy hq]; exact hx⟩,st',fun b hb=>(hf b hb).1⟩⟩
 done:=by
  intro X hP hw hK hc i pins s σ H E I hf st hg
  subst hP hw hK
  obtain⟨xs,hq,hx⟩:=hg
  obtain⟨its,rv,p,hz⟩:=I.list hq
  obtain⟨f0,f1,f2,f3,f4,f5⟩:=hf it (by simp)
  have hl:=rv.length
  exact wpAny_pyNext_list_end (I.ok.hd hc) st p.isList (by simp; lia) fun h' eb=>⟨rfl,I.turned (t':=s.toks) (fun b o hb e=>eb b o hb e) f0 f1 f3 f4 f5⟩
 self:=fun _ _ _ _ _ st h=>wpAny_pyIter_listiter st h
theorem turn_tuple {P:Program}{w:World}{K:PySem.W.Frag}{tg:Expr} (a it:Addr):Turn P w K tg (Itt K a) [it] it (fun i h=>h.IsTupleIter it a i) where
 mem:=by simp
 obj:=fun i h st b hb=>by
  have e:b=it:=by simpa using hb
  subst e
  obtain⟨o,e,c,d⟩:=st
  exact⟨o,e,fun v z=>by rw [d] at z; cases z⟩
 keep:=fun i h h' st k=>st.at fun o e=>k it (by simp) o e
 item:=by
  intro X hP hw hK hc i pins s σ H E I hf st hg
  subst hP hw hK
  obtain⟨xs,x,hq,hx⟩:=hg
  obtain⟨its,rv,p,hz⟩:=I.tuple hq
  obtain⟨u,hu,ru⟩:=rv.get hx
  obtain⟨f0,f1,f2,f3,f4,f5⟩:=hf it (by simp)
  refine wpAny_pyNext_tuple_item st (show s.heap.IsTuple a its.toArray from p) (x:=u) (by simpa using hu) fun h' st' sb=>?_
  have I1:Inv X pins σ H { s with heap:=h' }:=I.turned (t':=s.toks) (fun b o hb e=>(sb.2 b hb).trans e) f0 f1 f3 f4 f5
  obtain⟨o,e,c,d⟩:=id st'
  exact⟨u,rfl,go_of (s:={ s with heap:=h' }) e c d (by decide) ⟨x,H,I1,ru,⟨rfl,fun ys hy=>by rw [I.tuple_inj hy hq]; exact hx⟩,st',fun b hb=>(hf b hb).1⟩⟩
 done:=by
  intro X hP hw hK hc i pins s σ H E I hf st hg
  subst hP hw hK
  obtain⟨xs,hq,hx⟩:=hg
  obtain⟨its,rv,p,hz⟩:=I.tuple hq
  obtain⟨f0,f1,f2,f3,f4,f5⟩:=hf it (by simp)
  have hl:=rv.length
  exact wpAny_pyNext_tuple_end (I.ok.hd hc) st (show s.heap.IsTuple a its.toArray from p) (by simp; lia) fun h' eb=>⟨rfl,I.turned (t':=s.toks) (fun b o hb e=>eb b o hb e) f0 f1 f3 f4 f5⟩
 self:=fun _ _ _ _ _ st h=>wpAny_pyIter_tupleiter st h
theorem turn_range {P:Program}{w:World}{K:PySem.W.Frag}{tg:Expr} (it:Addr) (lo:Int) (n:Nat):Turn P w K tg (Itr lo n) [it] it (fun i h=>IsRangeIter h it (lo+(i:Nat) * 1) ((n:Int) - (i:Nat)) 1) where
 mem:=by simp
 obj:=fun i h st b hb=>by
  have e:b=it:=by simpa using hb
  subst e
  exact⟨_,st,fun v z=>by
   have z':Data.fields _=Data.cell v:=z
   cases z'⟩
 keep:=fun i h h' st k=>k it (by simp) _ st
 item:=by
  intro X hP hw hK hc i pins s σ H E I hf st hg
  subst hP hw hK
  obtain⟨f0,f1,f2,f3,f4,f5⟩:=hf it (by simp)
  have W:=Walks.range (prog:=X.prog) (w:=X.w) (I.ok.hd hc) it lo 1 n
  refine W.item i s _ _ hg st fun v h' tk hv st' kk=>?_
  obtain⟨t,rfl⟩:=hv
  have I1:Inv X pins σ H { s with heap:=h',toks:=tk }:=I.turned (fun b o hb e=>kk b o (by simpa using hb) e) f0 f1 f3 f4 f5
  refine⟨_,rfl,go_of (s:={ s with heap:=h',toks:=tk }) (n:="range_iterator") st' rfl rfl (by decide) ⟨.int (lo+i),H,I1,⟨t,?_⟩,⟨rfl,rfl⟩,st',fun b hb=>(hf b hb).1⟩⟩
  rw [Int.mul_one]
 done:=by
  intro X hP hw hK hc i pins s σ H E I hf st hg
  subst hP hw hK
  obtain⟨f0,f1,f2,f3,f4,f5⟩:=hf it (by simp)
  exact wpAny_pyNext_range_end (I.ok.hd hc) st (by have:n≤i:=hg; lia) fun h' eb=>⟨rfl,I.turned (t':=s.toks) (fun b o hb e=>eb b o hb e) f0 f1 f3 f4 f5⟩
 self:=fun _ _ _ _ _ st h=>wpAny_pyIter_rangeiter st h
end L2
namespace L2
open PySem PySem.Spec PyProof.Rows
section
variable {X:Cx}{tg:Expr}
def iList (K:PySem.W.Frag) (tl:TE):TI:=fun σ H R=>tl σ H fun x H1=>∃ a,x=.ref a∧(∃ xs,SqL K H1 a xs)∧R (Itl K a) H1
def iTup (K:PySem.W.Frag) (tl:TE):TI:=fun σ H R=>tl σ H fun x H1=>∃ a,x=.ref a∧(∃ xs,SqT K H1 a xs)∧R (Itt K a) H1
theorem pi_list {l:Expr}{tl:TE} (hl:PE X l tl):PI X tg l (iList X.K tl):=by
 intro pins s σ H R I h
 refine thn (hl pins s σ H _ I h) fun v s1 ⟨x,H1,I1,r1,q1⟩=>?_
 obtain⟨a,e,⟨xs,hq⟩,q⟩:=q1
 subst e
 cases r1
 obtain⟨its,rv,p,hz⟩:=I1.list hq
 refine wpAny_pyIter_list p.isList ?_
 refine⟨s1.heap.objs.size,[s1.heap.objs.size],_,_,H1,rfl,I1.kept (t':=s1.toks) fun b o e=>Heap.get?_push_of_some _ e,turn_list a _,⟨_,Heap.get?_push_size _ rfl,rfl,rfl⟩,fun b hb=>?_,q⟩
 have e:b=s1.heap.objs.size:=by simpa using hb
 subst e
 exact I1.fpOk (Nat.le_refl _) (I1.hok.fresh (Nat.le_refl _))
theorem pi_tup {l:Expr}{tl:TE} (hl:PE X l tl):PI X tg l (iTup X.K tl):=by
 intro pins s σ H R I h
 refine thn (hl pins s σ H _ I h) fun v s1 ⟨x,H1,I1,r1,q1⟩=>?_
 obtain⟨a,e,⟨xs,hq⟩,q⟩:=q1
 subst e
 cases r1
 obtain⟨its,rv,p,hz⟩:=I1.tuple hq
 refine wpAny_pyIter_tuple (show s1.heap.IsTuple a its.toArray from p) ?_
 refine⟨s1.heap.objs.size,[s1.heap.objs.size],_,_,H1,rfl,I1.kept (t':=s1.toks) fun b o e=>Heap.get?_push_of_some _ e,turn_tuple a _,⟨_,Heap.get?_push_size _ rfl,rfl,rfl⟩,fun b hb=>?_,q⟩
 have e:b=s1.heap.objs.size:=by simpa using hb
 subst e
 exact I1.fpOk (Nat.le_refl _) (I1.hok.fresh (Nat.le_refl _))
theorem range_it {pins:List (Addr×Obj)}{σ:St}{H:Hp}{s:Shared}{R:It→Hp→Prop}{E:Value→Shared→Prop}{lo hi:Int}{t u v:Tok}{tk:Nat} (I:Inv X pins σ H s) (h1:-(2 ^ 62)≤lo) (h2:lo<2 ^ 62) (h3:-(2 ^ 62)≤hi) (h4:hi<2 ^ 62)
  (q:R (Itr lo (hi - lo).toNat) H):wpAny (model X.prog X.w) X.A (pyIter (.ref s.heap.objs.size)) (PIE X pins σ tg R) E { s with heap:=s.heap.push { cls:=.type "range",data:=.fields #[.int lo t,.int hi u,.int 1 v] },toks:=tk }:=by
 refine wpAny_pyIter_range (IsRange.new ..) (small_one h1 h2 h3 h4) ?_
 have I1:Inv X pins σ H { s with heap:=s.heap.push { cls:=.type "range",data:=.fields #[.int lo t,.int hi u,.int 1 v] },toks:=tk }:=I.kept fun b o e=>Heap.get?_push_of_some _ e
 refine⟨(s.heap.push { cls:=.type "range",data:=.fields #[.int lo t,.int hi u,.int 1 v] }).objs.size,[(s.heap.push { cls:=.type "range",data:=.fields #[.int lo t,.int hi u,.int 1 v] }).objs.size],_,_,H,rfl,
  I1.kept (t':=tk) fun b o e=>Heap.get?_push_of_some _ e,turn_range _ lo (hi - lo).toNat,?_,fun b hb=>?_,q⟩
 ·have e1:lo+((0:Nat):Int) * 1=lo:=by simp
  have e2:(((hi - lo).toNat:Nat):Int) - ((0:Nat):Int)=Builtin.Range.rangeSize lo hi 1:=by rw [rangeSize_one]; split <;> lia
  show IsRangeIter _ _ (lo+((0:Nat):Int) * 1) ((((hi - lo).toNat:Nat):Int) - ((0:Nat):Int)) 1
  rw [e1,e2]
  exact Heap.get?_push_size _ rfl
 ·have e:b=(s.heap.push { cls:=.type "range",data:=.fields #[.int lo t,.int hi u,.int 1 v] }).objs.size:=by simpa using hb
  subst e
  exact I1.fpOk (Nat.le_refl _) (I1.hok.fresh (Nat.le_refl _))
def iRng1 (ta:TA):TI:=fun σ H R=>ta σ H fun vs H1=>∃ j:Int,vs=[.int j]∧-(2 ^ 62)≤j∧j<2 ^ 62∧R (Itr 0 j.toNat) H1
theorem pi_range1 {a:Expr}{ta:TA}{p pos:Pos} (hg:Gl X "range") (hm:X.mg "range"=none) (ha:PA X [a] ta) (hs:starEach [a] X.env=[(false,eval a X.env)]:=by rfl):PI X tg (.Call (.Name "range" p) [a] [] pos) (iRng1 ta):=by
 intro pins s σ H R I h
 refine Call_ (ld_blt I hg hm boot_range (PyProof.Rows.callWith_type1 (thn (ha pos pins s σ H _ I h) fun us s1 ⟨vs,H1,I1,r1,q1⟩=>?_) hs rfl))
 obtain⟨j,e,q1,q2,q⟩:=q1
 subst e
 cases r1 with
 | cons r rr =>
  cases rr
  obtain⟨t,rfl⟩:=r
  exact call_range_1 (range_it I1 (by lia) (by lia) q1 q2 (by simpa using q))
def tFor (wi:TI) (g:TG) (tb:TS):TS:=fun D σ H=>wi σ H fun J H1=>∃ W:Nat→Nat→St→Hp→Prop,(∃ m,W 0 m σ H1)∧∀ i m σ H,W i m σ H →
 (J.stop i H∧D.nx σ H)∨(J.go i H∧∃ N:St→Hp→Prop,(∀ σ' H',N σ' H'→∃ m',m'<m∧W (i+1) m' σ' H')∧∀ x H',J.yld i H x H'→g x σ H' fun σ2 H2=>tb { D with nx:=N,ct:=N,bk:=D.nx } σ2 H2)
def pinsAt (fp:List Addr) (h:Heap):List (Addr×Obj):=fp.filterMap fun b=>(h.get? b).map fun o=>(b,o)
theorem mem_pinsAt {fp:List Addr}{h:Heap}{b:Addr}{o:Obj} (hb:b∈fp) (e:h.get? b=some o):(b,o)∈pinsAt fp h:=List.mem_filterMap.mpr ⟨b,hb,by rw [e]; rfl⟩
theorem of_pinsAt {fp:List Addr}{h:Heap}{p:Addr×Obj} (hp:p∈pinsAt fp h):p.1∈fp∧h.get? p.1=some p.2:=by
 obtain⟨b,hb,e⟩:=List.mem_filterMap.mp hp
 cases q:h.get? b with
 | none=>rw [q] at e; cases e
 | some o =>
  rw [q] at e
  have e':(b,o)=p:=Option.some.inj e
  subst e'
  exact⟨hb,q⟩
theorem Inv.pinned {pins:List (Addr×Obj)}{σ:St}{H:Hp}{s:Shared}{fp:List Addr} (I:Inv X pins σ H s) (hf:∀ b∈fp,FpOk X pins H b) (ho:∀ b∈fp,∃ o,s.heap.get? b=some o∧∀ v,o.data≠.cell v):Inv X (pins++pinsAt fp s.heap) σ H s :=
 I.pins_of fun p hp=>(List.mem_append.mp hp).elim (fun z=>I.pin p (List.mem_append_right _ z)) fun z=>by
  obtain⟨hb,e⟩:=of_pinsAt z
  obtain⟨f0,f1,f2,_⟩:=hf p.1 hb
  obtain⟨o,e',d⟩:=ho p.1 hb
  rw [e] at e'; cases e'
  exact⟨e,f0,f1,f2,d⟩
theorem Inv.unpinned {pins pl:List (Addr×Obj)}{σ:St}{H:Hp}{s:Shared} (I:Inv X (pins++pl) σ H s):Inv X pins σ H s:=I.pins_of fun p hp=>I.pin p (List.mem_append_right _ (List.mem_append_left _ hp))
theorem ps_for {iter:Expr}{body:List Stmt}{wi:TI}{g:TG}{tb:TS}{pos:Pos} (hp:PassesOwn (model X.prog X.w) X.A X.env X.xe) (hc:X.calm=true) (hi:PI X tg iter wi) (hg:PG X tg g) (hb:PSs X body tb)
  (hs:∀ x,foldedSetIterable iter X.env x=pure x:=by intro _; rfl):PS X (.For tg iter body [] pos) (tFor wi g tb):=by
 intro pins s σ H D I h
 refine wpAny_For (thn (hi pins s σ H _ I h) fun v s1 h1=>thn h1 fun itv s2 h2=>?_) hs
 obtain⟨it,fp,tn,J,H2,e,I2,T,st2,f2,W,⟨m0,w0⟩,turn⟩:=h2
 subst e
 have stat:∀ {H':Hp},(∀ b∈fp,H' b=none)→∀ b∈fp,FpOk X pins H' b:=fun hn b hb=>⟨hn b hb,(f2 b hb).2⟩
 refine codeAny_forLoop_any (fun n s'=>∃ i σ' H',Inv X pins σ' H' s'∧tn i s'.heap∧(∀ b∈fp,H' b=none)∧W i n σ' H') ?_ m0 ⟨0,σ,H2,I2,st2,fun b hb=>(f2 b hb).1,w0⟩
 rintro n s3 ⟨i,σ3,H3,I3,st3,fr3,w3⟩
 rcases turn i n σ3 H3 w3 with⟨stop,qn⟩ | ⟨go,N,hN,step⟩
 ·refine wpAny_passesOwn hp (thn (T.done X rfl rfl rfl hc i pins s3 σ3 H3 X.xe I3 (stat fr3) st3 stop) fun r s4 ⟨hr,I4⟩=>?_)
  subst hr
  exact wpAny_execs_nil ⟨σ3,H3,I4,qn⟩
 ·refine wpAny_passesOwn hp (thn (T.item X rfl rfl rfl hc i pins s3 σ3 H3 X.xe I3 (stat fr3) st3 go) fun r s4 ⟨u,hr,h4⟩=>?_)
  subst hr
  refine wpAny_passesOwn hp (thn h4 fun _ s5 ⟨x,H5,I5,r5,y5,st5,fr5⟩=>?_)
  have I5':=I5.pinned (stat fr5) (T.obj _ _ st5)
  refine wpAny_passesOwn hp (thn (hg _ s5 σ3 H5 x u _ I5' r5 (step x H5 y5)) fun _ s6 ⟨σ6,H6,I6,q6⟩=>?_)
  refine wpAny_passesOwn hp (thn (hb _ s6 σ6 H6 _ I6 q6) fun f s7 q7=>?_)
  have again:∀ {σ7:St}{H7:Hp},Inv X (pins++pinsAt fp s5.heap) σ7 H7 s7→N σ7 H7→∃ m,m<n∧∃ i σ' H',Inv X pins σ' H' s7∧tn i s7.heap∧(∀ b∈fp,H' b=none)∧W i m σ' H':=fun {σ7 H7} I7 n7=>by
   obtain⟨m',hm,w7⟩:=hN σ7 H7 n7
   refine⟨m',hm,i+1,σ7,H7,I7.unpinned,T.keep _ _ _ st5 fun b hb o e=>(I7.pin (b,o) (List.mem_append_right _ (List.mem_append_right _ (mem_pinsAt hb e)))).1,fun b hb=>?_,w7⟩
   obtain⟨o,e,d⟩:=T.obj _ _ st5 b hb
   exact (I7.pin (b,o) (List.mem_append_right _ (List.mem_append_right _ (mem_pinsAt hb e)))).2.1
  cases f with
  | next=>obtain⟨σ7,H7,I7,n7⟩:=q7; exact again I7 n7
  | cont=>obtain⟨σ7,H7,I7,n7⟩:=q7; exact again I7 n7
  | brk=>obtain⟨σ7,H7,I7,q7⟩:=q7; exact⟨σ7,H7,I7.unpinned,q7⟩
  | ret v=>obtain⟨x7,σ7,H7,I7,r7,q7⟩:=q7; exact⟨x7,σ7,H7,I7.unpinned,r7,q7⟩
end
theorem for_list {K:PySem.W.Frag}{a:Addr}{xs:List V}{g:TG}{tb:TS}{D:Ends}{σ:St}{H:Hp} (Pv:Nat→St→Hp→Prop) (h0:Pv 0 σ H) (hl:∀ i σ H,i≤xs.length→Pv i σ H→SqL K H a xs)
  (hs:∀ i x σ H,xs[i]?=some x→Pv i σ H→g x σ H fun σ2 H2=>tb { D with nx:=Pv (i+1),ct:=Pv (i+1),bk:=D.nx } σ2 H2) (hd:∀ σ H,Pv xs.length σ H→D.nx σ H) :
  ∃ W:Nat→Nat→St→Hp→Prop,(∃ m,W 0 m σ H)∧∀ i m σ H,W i m σ H →
   ((Itl K a).stop i H∧D.nx σ H)∨((Itl K a).go i H∧∃ N:St→Hp→Prop,(∀ σ' H',N σ' H'→∃ m',m'<m∧W (i+1) m' σ' H')∧∀ x H',(Itl K a).yld i H x H'→g x σ H' fun σ2 H2=>tb { D with nx:=N,ct:=N,bk:=D.nx } σ2 H2):=by
 refine⟨fun i m σ H=>m=xs.length - i∧i≤xs.length∧Pv i σ H,⟨xs.length,by simp,Nat.zero_le _,h0⟩,?_⟩
 rintro i m σ H ⟨rfl,hi,p⟩
 have q:=hl i σ H hi p
 by_cases hlt:i<xs.length
 ·refine .inr ⟨⟨xs,xs[i],q,by simp [hlt]⟩,Pv (i+1),fun σ' H' p'=>⟨xs.length - (i+1),by lia,rfl,hlt,p'⟩,fun x H' y=>?_⟩
  obtain⟨e,y⟩:=y
  subst e
  exact hs i x σ _ (y xs q) p
 ·have e:i=xs.length:=by lia
  subst e
  exact .inl ⟨⟨xs,q,Nat.le_refl _⟩,hd σ H p⟩
theorem for_range {lo:Int}{n:Nat}{g:TG}{tb:TS}{D:Ends}{σ:St}{H:Hp} (Pv:Nat→St→Hp→Prop) (h0:Pv 0 σ H)
  (hs:∀ i σ H,i<n→Pv i σ H→g (.int (lo+i)) σ H fun σ2 H2=>tb { D with nx:=Pv (i+1),ct:=Pv (i+1),bk:=D.nx } σ2 H2) (hd:∀ σ H,Pv n σ H→D.nx σ H) :
  ∃ W:Nat→Nat→St→Hp→Prop,(∃ m,W 0 m σ H)∧∀ i m σ H,W i m σ H →
   ((Itr lo n).stop i H∧D.nx σ H)∨((Itr lo n).go i H∧∃ N:St→Hp→Prop,(∀ σ' H',N σ' H'→∃ m',m'<m∧W (i+1) m' σ' H')∧∀ x H',(Itr lo n).yld i H x H'→g x σ H' fun σ2 H2=>tb { D with nx:=N,ct:=N,bk:=D.nx } σ2 H2):=by
 refine⟨fun i m σ H=>m=n - i∧i≤n∧Pv i σ H,⟨n,by simp,Nat.zero_le _,h0⟩,?_⟩
 rintro i m σ H ⟨rfl,hi,p⟩
 by_cases hlt:i<n
 ·refine .inr ⟨hlt,Pv (i+1),fun σ' H' p'=>⟨n - (i+1),by lia,rfl,hlt,p'⟩,fun x H' y=>?_⟩
  obtain⟨e,y⟩:=y
  subst e y
  exact hs i σ _ hlt p
 ·have e:i=n:=by lia
  subst e
  exact .inl ⟨Nat.le_refl _,hd σ H p⟩
end L2
namespace L2
open PySem PySem.Spec PyProof.Rows
abbrev R2:=V→V→Hp→VK→Prop
def OpR (X:Cx) (f:Value→Value→Sem Value) (r:R2):Prop :=
 ∀ (pins:List (Addr×Obj)) (s:Shared) (σ:St) (H:Hp) (x y:V) (v u:Value) (Q:VK),Inv X pins σ H s→RelV x v→RelV y u→r x y H Q →
  wpAny (model X.prog X.w) X.A (f v u) (EP X pins σ Q) X.xe s
def UnR (X:Cx) (f:Value→Sem Value) (r:V→Hp→VK→Prop):Prop :=
 ∀ (pins:List (Addr×Obj)) (s:Shared) (σ:St) (H:Hp) (x:V) (v:Value) (Q:VK),Inv X pins σ H s→RelV x v→r x H Q →
  wpAny (model X.prog X.w) X.A (f v) (EP X pins σ Q) X.xe s
def CallR (X:Cx) (f:Value) (r:List V→Hp→VK→Prop):Prop :=
 ∀ (pins:List (Addr×Obj)) (s:Shared) (σ:St) (H:Hp) (xs:List V) (us:List Value) (Q:VK),Inv X pins σ H s→Vals xs us→r xs H Q →
  wpAny (model X.prog X.w) X.A (call f us) (EP X pins σ Q) X.xe s
def TruR (X:Cx) (r:V→Hp→(Bool→Hp→Prop)→Prop):Prop :=
 ∀ (pins:List (Addr×Obj)) (s:Shared) (σ:St) (H:Hp) (x:V) (v:Value) (Q:Bool→Hp→Prop),Inv X pins σ H s→RelV x v→r x H Q →
  wpAny (model X.prog X.w) X.A (truthy v) (TP X pins σ Q) X.xe s
def tOp (r:R2) (ta tb:TE):TE:=fun σ H Q=>ta σ H fun x H1=>tb σ H1 fun y H2=>r x y H2 Q
def tUn (r:V→Hp→VK→Prop) (ta:TE):TE:=fun σ H Q=>ta σ H fun x H1=>r x H1 Q
def rI (C:Int→Int→Prop) (g:Int→Int→V):R2:=fun x y H Q=>∃ i j,x=.int i∧y=.int j∧C i j∧Q (g i j) H
def rI0 (g:Int→Int→V):R2:=fun x y H Q=>∃ i j,x=.int i∧y=.int j∧Q (g i j) H
def rU (g:Int→V):V→Hp→VK→Prop:=fun x H Q=>∃ i,x=.int i∧Q (g i) H
section
variable {X:Cx}{a b c:Expr}{ta tb tc:TE}{pos:Pos}
theorem binT (ha:PE X a ta) (hb:PE X b tb) {pins:List (Addr×Obj)}{s:Shared}{σ:St}{H:Hp}{R:V→V→Hp→Prop} (I:Inv X pins σ H s)
  (h:ta σ H fun x H1=>tb σ H1 fun y H2=>R x y H2) {Q:Value→Shared→Prop}{f:Value→Value→Sem Value}
  (hf:∀ v u s2 x y H2,Inv X pins σ H2 s2→RelV x v→RelV y u→R x y H2→wpAny (model X.prog X.w) X.A (f v u) Q X.xe s2) :
  wpAny (model X.prog X.w) X.A (eval a X.env) (fun v s₁=>wpAny (model X.prog X.w) X.A (eval b X.env) (fun u s₂=>wpAny (model X.prog X.w) X.A (f v u) Q X.xe s₂) X.xe s₁) X.xe s:=by
 refine thn (ha pins s σ H _ I h) fun v s1 ⟨x,H1,I1,r1,q1⟩=>?_
 refine thn (hb pins s1 σ H1 _ I1 q1) fun u s2 ⟨y,H2,I2,r2,q2⟩=>?_
 exact hf v u s2 x y H2 I2 r1 r2 q2
theorem pe_op {op:Operator}{r:R2} (ho:OpR X (binaryOp op) r) (ha:PE X a ta) (hb:PE X b tb):PE X (.BinOp a op b pos) (tOp r ta tb):=by
 intro pins s σ H Q I h
 exact wpAny_BinOp (binT ha hb I h fun v u s2 x y H2 I2 rx ry q=>ho pins s2 σ H2 x y v u Q I2 rx ry q)
theorem pe_un {op:UnaryOp}{r:V→Hp→VK→Prop} (ho:UnR X (unaryOp op) r) (ha:PE X a ta):PE X (.UnaryOp op a pos) (tUn r ta):=by
 intro pins s σ H Q I h
 exact UnaryOp_ (thn (ha pins s σ H _ I h) fun v s1 ⟨x,H1,I1,r1,q1⟩=>ho pins s1 σ H1 x v Q I1 r1 q1)
theorem opI {f:Value→Value→Sem Value}{C:Int→Int→Prop}{g:Int→Int→Int}
  (rule:∀ (i j:Int) (t u:Tok) (s:Shared) (Q:Value→Shared→Prop) (E:Value→Shared→Prop),C i j→Q (.int (g i j) s.toks) { s with toks:=s.toks+1 }→wpAny (model X.prog X.w) X.A (f (.int i t) (.int j u)) Q E s) :
  OpR X f (rI C fun i j=>.int (g i j)):=by
 intro pins s σ H x y v u Q I rx ry h
 obtain⟨i,j,rfl,rfl,hc,q⟩:=h
 obtain⟨t,rfl⟩:=rx
 obtain⟨t',rfl⟩:=ry
 exact rule i j t t' s _ _ hc ⟨.int (g i j),H,I.tok _,⟨_,rfl⟩,q⟩
theorem opI0 {f:Value→Value→Sem Value}{g:Int→Int→Int}
  (rule:∀ (i j:Int) (t u:Tok) (s:Shared) (Q:Value→Shared→Prop) (E:Value→Shared→Prop),Q (.int (g i j) s.toks) { s with toks:=s.toks+1 }→wpAny (model X.prog X.w) X.A (f (.int i t) (.int j u)) Q E s) :
  OpR X f (rI0 fun i j=>.int (g i j)):=by
 intro pins s σ H x y v u Q I rx ry h
 obtain⟨i,j,rfl,rfl,q⟩:=h
 obtain⟨t,rfl⟩:=rx
 obtain⟨t',rfl⟩:=ry
 exact rule i j t t' s _ _ ⟨.int (g i j),H,I.tok _,⟨_,rfl⟩,q⟩
theorem opB0 {f:Value→Value→Sem Value}{g:Int→Int→Bool}
  (rule:∀ (i j:Int) (t u:Tok) (s:Shared) (Q:Value→Shared→Prop) (E:Value→Shared→Prop),Q (.bool (g i j)) s→wpAny (model X.prog X.w) X.A (f (.int i t) (.int j u)) Q E s) :
  OpR X f (rI0 fun i j=>.bl (g i j)):=by
 intro pins s σ H x y v u Q I rx ry h
 obtain⟨i,j,rfl,rfl,q⟩:=h
 obtain⟨t,rfl⟩:=rx
 obtain⟨t',rfl⟩:=ry
 exact rule i j t t' s _ _ ⟨.bl (g i j),H,I,rfl,q⟩
def CDiv (i j:Int):Prop:=0<j∧j<1073741824
def CPow (i j:Int):Prop:=0≤j∧j≤1000000∧i.natAbs<2 ^ 64
def CMul (i j:Int):Prop:=(-(2 ^ 64)<i∧i<2 ^ 64)∨(-(2 ^ 64)<j∧j<2 ^ 64)
theorem CMul.ok {i j:Int} (h:CMul i j):IntMulOk i j:=by
 rcases h with⟨h1,h2⟩ | ⟨h1,h2⟩
 ·exact .of_left (intBits_le_64 h1 h2)
 ·exact .of_right (intBits_le_64 h1 h2)
theorem op_add:OpR X (binaryOp .Add) (rI0 fun i j=>.int (i+j)):=opI0 fun _ _ _ _ _ _ _ q=>add_int q
theorem op_sub:OpR X (binaryOp .Sub) (rI0 fun i j=>.int (i - j)):=opI0 fun _ _ _ _ _ _ _ q=>sub_int q
theorem op_mul:OpR X (binaryOp .Mult) (rI CMul fun i j=>.int (i * j)):=opI fun _ _ _ _ _ _ _ hc q=>mul_int q hc.ok
theorem op_fdiv:OpR X (binaryOp .FloorDiv) (rI CDiv fun i j=>.int (i / j)):=opI fun i j _ _ _ _ _ hc q=>by
 have h1:(0:Int)<j:=hc.1
 have h2:j<1073741824:=hc.2
 exact floordiv_int (by lia) (by rw [Int.fdiv_eq_ediv_of_nonneg i (by lia)]; exact q) (.inl (PyProof.noPylong_small (by lia)))
theorem op_mod:OpR X (binaryOp .Mod) (rI (fun _ j=>0<j) fun i j=>.int (i % j)):=opI fun i j _ _ _ _ _ hc q=>by
 have h1:(0:Int)<j:=hc
 exact mod_int' (by lia) (by rw [Int.fmod_eq_emod_of_nonneg i (by lia)]; exact q)
theorem op_pow:OpR X (binaryOp .Pow) (rI CPow fun i j=>.int (i ^ j.toNat)):=opI fun _ _ _ _ _ _ _ hc q=>pow_int_small hc.1 hc.2.1 hc.2.2 q
theorem unI {f:Value→Sem Value}{g:Int→Int}
  (rule:∀ (i:Int) (t:Tok) (s:Shared) (Q:Value→Shared→Prop) (E:Value→Shared→Prop),Q (.int (g i) s.toks) { s with toks:=s.toks+1 }→wpAny (model X.prog X.w) X.A (f (.int i t)) Q E s) :
  UnR X f (rU fun i=>.int (g i)):=by
 intro pins s σ H x v Q I rx h
 obtain⟨i,rfl,q⟩:=h
 obtain⟨t,rfl⟩:=rx
 exact rule i t s _ _ ⟨.int (g i),H,I.tok _,⟨_,rfl⟩,q⟩
theorem un_neg:UnR X (unaryOp .USub) (rU fun i=>.int (-i)):=unI fun _ _ _ _ _ q=>neg_int q
end
def scal:V→V→Bool
 | .non,.non=>true | .non,.int _=>true | .int _,.non=>true | .non,.bl _=>true | .bl _,.non=>true | .non,.str _=>true | .str _,.non=>true
 | .int _,.int _=>true | .bl _,.bl _=>true | .str _,.str _=>true | .byt _,.byt _=>true
 | .int _,.str _=>true | .str _,.int _=>true | .bl _,.str _=>true | .str _,.bl _=>true
 | _,_=>false
def rEq:R2:=fun x y H Q=>scal x y=true∧Q (.bl (decide (x=y))) H
theorem dec_int {i j:Int}:decide (V.int i=V.int j)=(i == j):=by
 rw [Bool.eq_iff_iff]
 simp
theorem dec_bl {i j:Bool}:decide (V.bl i=V.bl j)=(i == j):=by
 rw [Bool.eq_iff_iff]
 simp
theorem dec_str {i j:Str}:decide (V.str i=V.str j)=(i == j):=by
 rw [Bool.eq_iff_iff]
 simp
theorem dec_byt {i j:Array UInt8}:decide (V.byt i=V.byt j)=(i.toList == j.toList):=by
 rw [Bool.eq_iff_iff]
 cases i
 cases j
 simp
section
variable {X:Cx}{a b c:Expr}{ta tb tc:TE}{pos:Pos}
theorem fin_bl {pins:List (Addr×Obj)}{σ:St}{H:Hp}{s:Shared}{Q:VK}{k k':Bool} (I:Inv X pins σ H s) (q:Q (.bl k) H) (e:k=k'):EP X pins σ Q (.bool k') s:=by
 subst e
 exact⟨.bl k,H,I,rfl,q⟩
theorem op_eq:OpR X (compareOp .Eq) rEq:=by
 intro pins s σ H x y v u Q I rx ry h
 obtain⟨hs,q⟩:=h
 cases x with
 | non =>
  cases rx
  cases y with
  | non=>cases ry; exact PySem.EqNone.eq_none_none (fin_bl I q (by simp))
  | bl j=>cases ry; exact PySem.EqNone.eq_none_bool (fin_bl I q (by simp))
  | int j=>obtain⟨t',rfl⟩:=ry; exact PySem.EqNone.eq_none_int (fin_bl I q (by simp))
  | str j=>obtain⟨t',rfl⟩:=ry; exact PySem.EqNone.eq_none_str (fin_bl I q (by simp))
  | _=>exact absurd (show false=true from hs) Bool.false_ne_true
 | bl i =>
  cases rx
  cases y with
  | non=>cases ry; exact PySem.EqNone.eq_bool_none (fin_bl I q (by simp))
  | bl j=>cases ry; exact eq_bool (fin_bl I q dec_bl)
  | str j=>obtain⟨t',rfl⟩:=ry; exact PySem.EqMixed.eq_bool_str (fin_bl I q (by simp))
  | _=>exact absurd (show false=true from hs) Bool.false_ne_true
 | int i =>
  obtain⟨t,rfl⟩:=rx
  cases y with
  | non=>cases ry; exact PySem.EqNone.eq_int_none (fin_bl I q (by simp))
  | int j=>obtain⟨t',rfl⟩:=ry; exact eq_int (fin_bl I q dec_int)
  | str j=>obtain⟨t',rfl⟩:=ry; exact PySem.EqMixed.eq_int_str (fin_bl I q (by simp))
  | _=>exact absurd (show false=true from hs) Bool.false_ne_true
 | str i =>
  obtain⟨t,rfl⟩:=rx
  cases y with
  | non=>cases ry; exact PySem.EqNone.eq_str_none (fin_bl I q (by simp))
  | bl j=>cases ry; exact PySem.EqMixed.eq_str_bool (fin_bl I q (by simp))
  | int j=>obtain⟨t',rfl⟩:=ry; exact PySem.EqMixed.eq_str_int (fin_bl I q (by simp))
  | str j=>obtain⟨t',rfl⟩:=ry; exact eq_str (fin_bl I q dec_str)
  | _=>exact absurd (show false=true from hs) Bool.false_ne_true
 | byt i =>
  obtain⟨t,rfl⟩:=rx
  cases y with
  | byt j=>obtain⟨t',rfl⟩:=ry; exact PySem.W.eq_bytes (fin_bl I q dec_byt)
  | _=>exact absurd (show false=true from hs) Bool.false_ne_true
 | _=>cases y <;> exact absurd (show false=true from hs) Bool.false_ne_true
theorem op_lt:OpR X (compareOp .Lt) (rI0 fun i j=>.bl (decide (i<j))):=opB0 fun _ _ _ _ _ _ _ q=>lt_int q
theorem op_le:OpR X (compareOp .LtE) (rI0 fun i j=>.bl (decide (i≤j))):=opB0 fun _ _ _ _ _ _ _ q=>le_int q
theorem op_gt:OpR X (compareOp .Gt) (rI0 fun i j=>.bl (decide (j<i))):=opB0 fun _ _ _ _ _ _ _ q=>gt_int q
theorem op_isN:OpR X (compareOp .Is) (fun x y H Q=>y=.non∧Q (.bl (decide (x=.non))) H):=by
 intro pins s σ H x y v u Q I rx ry h
 obtain⟨rfl,q⟩:=h
 cases ry
 refine is_none_gen (fin_bl I q ?_)
 cases x <;> first
  | (cases rx; rfl)
  | (obtain⟨t,rfl⟩:=rx; rfl)
theorem op_notN:OpR X (compareOp .IsNot) (fun x y H Q=>y=.non∧Q (.bl (!decide (x=.non))) H):=by
 intro pins s σ H x y v u Q I rx ry h
 obtain⟨rfl,q⟩:=h
 cases ry
 refine isnot_none_gen (fin_bl I q ?_)
 cases x <;> first
  | (cases rx; rfl)
  | (obtain⟨t,rfl⟩:=rx; rfl)
theorem nomark (b:Expr) {op:CmpOp} (h:op≠.In:=by decide) (h2:op≠.NotIn:=by decide):behindInMarks op b=false:=by
 have e1:(op == CmpOp.In)=false:=by cases op <;> first | rfl | exact absurd rfl h
 have e2:(op == CmpOp.NotIn)=false:=by cases op <;> first | rfl | exact absurd rfl h2
 cases b <;> simp [behindInMarks,e1,e2]
theorem pe_cmpR {op:CmpOp}{r:R2} (ho:OpR X (compareOp op) r) (ha:PE X a ta) (hb:PE X b tb) (hm:behindInMarks op b=false):PE X (.Compare a [op] [b] pos) (tOp r ta tb):=by
 intro pins s σ H Q I h
 exact wpAny_Compare1 (binT ha hb I h fun v u s2 x y H2 I2 rx ry q=>ho pins s2 σ H2 x y v u Q I2 rx ry q) hm
def tTest (t:TE):TT:=fun σ H Q=>t σ H fun x H'=>∃ k,x=.bl k∧Q k H'
theorem pt_cmpR {op:CmpOp}{r:R2} (ho:OpR X (compareOp op) r) (ha:PE X a ta) (hb:PE X b tb) (hm:behindInMarks op b=false):PT X (.Compare a [op] [b] pos) (tTest (tOp r ta tb)):=by
 intro pins s σ H Q I h
 refine wpAny_isTrue_Compare1 (thn (ha pins s σ H _ I h) fun v s1 ⟨x,H1,I1,r1,q1⟩=>thn (hb pins s1 σ H1 _ I1 q1) fun u s2 ⟨y,H2,I2,r2,q2⟩ =>
  thn (ho pins s2 σ H2 x y v u _ I2 r1 r2 q2) fun c s3 ⟨z,H3,I3,r3,k,e,q3⟩=>?_) hm
 subst e
 cases r3
 exact wpAny_truthy_bool ⟨H3,I3,q3⟩
def TruV (K:PySem.W.Frag) (x:V) (H:Hp) (k:Bool):Prop :=
 match x with
 | .non=>k=false
 | .bl b=>k=b
 | .int i=>k=(i != 0)
 | .str y=>y.length≤sizeLine∧k=((y.length:Int) != 0)
 | .byt y=>y.size≤sizeLine∧k=((y.size:Int) != 0)
 | .ref p=>(∃ xs,SqL K H p xs∧k=!xs.isEmpty)∨(∃ xs,SqT K H p xs∧k=!xs.isEmpty)∨∃ kvs,H p=some (.dK kvs)∧k=!kvs.isEmpty
 | _=>False
theorem isEmpty_kv {κ:Type}{kvs:List (κ×V)}{vs:List (κ×Value)} (r:KV kvs vs):(!vs.isEmpty)=!kvs.isEmpty:=by
 cases r <;> rfl
theorem isEmpty_of {xs:List V}{its:List Value} (r:Vals xs its):(!its.toArray.isEmpty)=!xs.isEmpty:=by
 cases r <;> simp
theorem line63:(sizeLine:Nat)<2 ^ 63:=by rw [sizeLine_eq]; decide
theorem tru_ok:TruR X (fun x H Q=>∃ k,TruV X.K x H k∧Q k H):=by
 intro pins s σ H x v Q I rx h
 obtain⟨k,e,q⟩:=h
 have hl:=line63
 have hs:sizeLine=16777216:=sizeLine_eq
 cases x with
 | non =>
  cases rx
  have e':k=false:=e
  subst e'
  exact truthy_none ⟨H,I,q⟩
 | bl b =>
  cases rx
  have e':k=b:=e
  subst e'
  exact wpAny_truthy_bool ⟨H,I,q⟩
 | int i =>
  obtain⟨t,rfl⟩:=rx
  have e':k=(i != 0):=e
  subst e'
  exact PySem.P.truthy_int ⟨H,I,q⟩
 | str y =>
  obtain⟨t,rfl⟩:=rx
  obtain⟨hy,e'⟩:y.length≤sizeLine∧k=((y.length:Int) != 0):=e
  subst e'
  exact PySem.P.truthy_str (by lia) ⟨H,I.tok _,q⟩
 | byt y =>
  obtain⟨t,rfl⟩:=rx
  obtain⟨hy,e'⟩:y.size≤sizeLine∧k=((y.size:Int) != 0):=e
  subst e'
  exact PySem.W.truthy_bytes (by lia) ⟨H,I.tok _,q⟩
 | ref p =>
  cases rx
  have e':(∃ xs,SqL X.K H p xs∧k=!xs.isEmpty)∨(∃ xs,SqT X.K H p xs∧k=!xs.isEmpty)∨∃ kvs,H p=some (.dK kvs)∧k=!kvs.isEmpty:=e
  rcases e' with⟨xs,hx,e'⟩ | ⟨xs,hx,e'⟩ | ⟨kvs,hx,e'⟩
  ·subst e'
   obtain⟨its,r,pl,hz⟩:=I.list hx
   have hlen:=r.length
   exact wpAny_truthy_list pl.isList (by simp only [List.size_toArray]; lia) ⟨H,I.tok _,by rw [isEmpty_of r]; exact q⟩
  ·subst e'
   obtain⟨its,r,pl,hz⟩:=I.tuple hx
   have hlen:=r.length
   exact truthy_tuple pl (by simp only [List.size_toArray]; lia) ⟨H,I.tok _,by rw [isEmpty_of r]; exact q⟩
  ·subst e'
   obtain⟨hz,hS,vs,r,m⟩:kvs.length≤sizeLine∧(p == sysModules)=false∧∃ vs,KV kvs vs∧s.heap.DictOf (mixKind X.prog X.w) p vs:=I.hok p _ hx
   have hlen:kvs.length=vs.length:=Paired.length r
   exact wpAny_truthy_dict hS m (by lia) ⟨H,I.tok _,by rw [isEmpty_kv r]; exact q⟩
 | _=>exact (show False from e).elim
theorem pt_truth (ha:PE X a ta) (he:∀ whole,isTrue a X.env whole=(do let v ← whole; standAt a.pos; holding [v] (truthy v))) :
  PT X a (fun σ H Q=>ta σ H fun x H'=>∃ k,TruV X.K x H' k∧Q k H'):=by
 intro pins s σ H Q I h
 exact isTrue_plain (thn (ha pins s σ H _ I h) fun v s1 ⟨x,H1,I1,r1,q1⟩=>tru_ok pins s1 σ H1 x v Q I1 r1 q1) (he _)
theorem vals1 {x:V}{us:List Value} (r:Vals [x] us):∃ u,us=[u]∧RelV x u:=by
 cases r with
 | cons r1 r2=>cases r2; exact⟨_,rfl,r1⟩
theorem vals2 {x y:V}{us:List Value} (r:Vals [x,y] us):∃ u w',us=[u,w']∧RelV x u∧RelV y w':=by
 cases r with
 | cons r1 r2 =>
  cases r2 with
  | cons r3 r4=>cases r4; exact⟨_,_,rfl,r1,r3⟩
theorem call_min2 (hc:X.calm=true):CallR X (.builtin "min") (fun xs H Q=>∃ i j,xs=[.int i,.int j]∧Q (.int (if j<i then j else i)) H):=by
 intro pins s σ H xs us Q I r h
 obtain⟨i,j,rfl,q⟩:=h
 obtain⟨u,w',rfl,⟨t,rfl⟩,⟨t',rfl⟩⟩:=vals2 r
 refine min_two_ints (I.ok.hd hc) fun h' tk k=>⟨_,H,I.kept k,?_,q⟩
 by_cases hj:j<i
 ·rw [if_pos hj,if_pos hj]; exact⟨_,rfl⟩
 ·rw [if_neg hj,if_neg hj]; exact⟨_,rfl⟩
end
end L2
namespace L2
open PySem PySem.Spec PyProof.Rows
structure ObjM (h:Heap) (x dx C:Addr) (mA:Str→Option Value):Prop where
 obj:h.get? x=some (PySem.W.instObj C dx)
 ns:h.Ns1 dx mA
 ne:dx≠x
theorem lookIn_ns {h:Heap}{dx:Addr}{mA:Str→Option Value} (n:h.Ns1 dx mA):∃ od,h.get? dx=some od∧∀ name,PySem.W.lookIn name od=some (mA name):=by
 obtain⟨o,es,ep,ho,hd,hk,_,hm⟩:=n
 refine⟨o,ho,fun name=>?_⟩
 have e:=hm name
 unfold nsFind findBy at e
 rw [← Array.find?_toList] at e
 unfold PySem.W.lookIn
 rw [hd]
 dsimp only
 split
 ·rename_i y q
  rw [q] at e
  exact congrArg some e
 ·rename_i q
  rw [q] at e
  have a:es.toList.any (·.refKey)=false:=by
   rw [List.any_eq_false]
   intro y hy
   obtain⟨z,t,hkey⟩:=hk y (Array.mem_toList_iff.mp hy)
   simp [DictEntry.refKey,hkey]
  have a':¬ es.toList.any (·.refKey)=true:=by rw [a]; exact Bool.false_ne_true
  rw [if_neg a']
  exact congrArg some e
theorem ObjM.look {h:Heap}{x dx C:Addr}{mA:Str→Option Value} (I:ObjM h x dx C mA):∃ od,PySem.W.InstAt h x (PySem.W.instObj C dx) C (some od)∧∀ name,PySem.W.lookIn name od=some (mA name) :=
 let ⟨od,ho,hl⟩:=lookIn_ns I.ns
 ⟨od,⟨I.obj,rfl,rfl,ho⟩,hl⟩
section
variable {prog:Program}{w:World}{A:Around}{E:Value→Shared→Prop}{s:Shared}{K:PySem.W.Frag}{x dx C f:Addr}{mA:Str→Option Value}{name:Str}{v:Value}
theorem get_map {expr:Bool}{Q:Value→Shared→Prop} (X:K.In s.heap) (I:ObjM s.heap x dx C mA) (hg:PySem.W.plainGet K C name=true) (hh:PySem.W.hasDictIn K C=true)
  (ha:PySem.W.findIn K (.ref C) name=some none) (hv:mA name=some v) (hv':PySem.W.handedIn v=true) (h:Q v { s with toks:=s.toks+1 }) :
  wpAny (model prog w) A (getAttr (.ref x) name expr) Q E s:=by
 obtain⟨od,J,hl⟩:=I.look
 exact PySem.W.get_value X J (PySem.W.plainGet_of hg).1 (PySem.W.findObj_own hh ha rfl (by rw [hl,hv])) hv' h
theorem get_meth {pl:Sem Bool}{Q:Value×List Value→Shared→Prop} (X:K.In s.heap) (I:ObjM s.heap x dx C mA) (hg:PySem.W.plainGet K C name=true)
  (hf:PySem.W.findIn K (.ref C) name=some (some (.ref f))) (ht:PySem.W.isFn K (.ref f)=true) (hv:mA name=none) (h:Q (.ref f,[.ref x]) s) :
  wpAny (model prog w) A (getMethod (.ref x) name pl) Q E s:=by
 obtain⟨od,J,hl⟩:=I.look
 exact PySem.W.method_fn X J (PySem.W.plainGet_of hg).1 (PySem.W.plainGet_of hg).2 hf (beq_iff_eq.mp ht) (by show (PySem.W.lookIn name od).map (·.isSome)=some false; rw [hl,hv]; rfl) h
theorem set_map {ns:List Str}{Q:Unit→Shared→Prop} (X:K.In s.heap) (I:ObjM s.heap x dx C mA)
  (hs:PySem.W.findIn K (.ref C) "__setattr__"=some (some (.builtin "object.__setattr__"))) (hp:PySem.W.plainOver K C=true) (ht:PySem.W.takerIn K C name=some none) (hh:PySem.W.hasDictIn K C=true)
  (hw:PySem.Within mA ns) (hsz:ns.length≤sizeLine)
  (h:∀ h',ObjM h' x dx C (fun y=>if y=name then some v else mA y)→Heap.SameBut dx s.heap h'→Q () { s with heap:=h',toks:=s.toks+2 }) :
  wpAny (model prog w) A (setAttr (.ref x) name v) Q E s:=by
 obtain⟨od,J,hl⟩:=I.look
 refine PySem.W.set_plain X J hs (PySem.W.osa_open (s:={ s with toks:=s.toks+1 }) (r:=none) X J hp ht fun b=>?_)
 obtain⟨cd,hc,hd'⟩:=PySem.W.any_some hh
 have hx:s.heap.get? x=some ⟨.ref C,some dx,.plain,#[]⟩:=I.obj
 refine wpAny_bind (wpAny_pure (wpAny_bind (wpAny_bind (wpAny_loadPart hx (wpAny_bind (PySem.W.Looks.here (s:={ s with toks:=s.toks+1 }) (PySem.W.looks_clsIn X hc) ?_))))))
 rw [hd']
 refine wpAny_pure (a:=some dx) (wpAny_bind (wpAny_pure (wpAny_bind ?_)))
 refine wpAny_nsSet1 (s:={ s with toks:=s.toks+1 }) I.ns fun h' hn2 hs2=>?_
 obtain⟨oD,esD,epD,hoD,hdD,hcD⟩:=hn2.count (PySem.Within.cons name v hw)
 refine wpAny_bind (wpAny_lookBehind hoD (by rw [hdD]; exact pastItsLine_dict (Nat.le_trans hcD (by rw [List.length_cons]; lia))) ?_)
 exact wpAny_pure (h _ ⟨(hs2.2 _ (Ne.symm I.ne)).trans I.obj,hn2,I.ne⟩ hs2)
theorem make_map {R:Result→Shared→Prop}{vs:List Value}{kw:List (Str×Value)} (X:K.In s.heap) (hm:PySem.W.makesIn K C=true)
  (hi:PySem.W.findIn K (.ref C) "__init__"=some (some (.ref f))) (hf:PySem.W.typeIn K (.ref f)=some (.type "function"))
  (h:codeAny (model prog w) (A.under (.builtin "type.__call__" ⟨.ref C::vs,kw⟩)) (.call (.ref f) ⟨.ref (s.heap.objs.size+1)::vs,kw⟩) (PySem.W.InitBack (s.heap.objs.size+1) R)
   { s with heap:=(s.heap.push PySem.W.emptyDict).push (PySem.W.instObj C s.heap.objs.size) }) :
  codeAny (model prog w) A (.call (.ref C) ⟨vs,kw⟩) R s:=by
 obtain⟨hh,g,d,t,os⟩:=s
 exact PySem.W.make_core (PySem.W.makes_of X hm) (PySem.W.looks_findIn X hi) (fun self=>PySem.W.bind_fn X self hf) (.inl rfl) h
end
def putF (f:Str) (v:V):List (Str×V)→List (Str×V)
 | []=>[(f,v)]
 | (g,x)::r=>if g=f then (g,v)::r else (g,x)::putF f v r
theorem lookup_putF (f g:Str) (v:V):∀ fs:List (Str×V),(putF f v fs).lookup g=if g=f then some v else fs.lookup g
 | []=>by
  show List.lookup g [(f,v)]=_
  by_cases h:g=f
  ·have hb:(g == f)=true:=beq_iff_eq.mpr h
   simp only [List.lookup,hb,if_pos h]
  ·have hb:(g == f)=false:=beq_eq_false_iff_ne.mpr h
   simp only [List.lookup,hb,if_neg h]
 | (k,x)::r=>by
  have ih:=lookup_putF f g v r
  rw [show putF f v ((k,x)::r)=(if k=f then (k,v)::r else (k,x)::putF f v r) from rfl]
  by_cases hk:k=f
  ·rw [if_pos hk]
   by_cases h:g=k
   ·have hb:(g == k)=true:=beq_iff_eq.mpr h
    simp only [List.lookup,hb,if_pos (h.trans hk)]
   ·have hb:(g == k)=false:=beq_eq_false_iff_ne.mpr h
    simp only [List.lookup,hb,if_neg (fun e:g=f=>h (e.trans hk.symm))]
  ·rw [if_neg hk]
   by_cases h:g=k
   ·have hb:(g == k)=true:=beq_iff_eq.mpr h
    simp only [List.lookup,hb,if_neg (fun e:g=f=>hk (h.symm.trans e))]
   ·have hb:(g == k)=false:=beq_eq_false_iff_ne.mpr h
    simp only [List.lookup,hb]
    exact ih
theorem keys_putF (f:Str) (v:V):∀ fs:List (Str×V),f∈(putF f v fs).map (·.1)∧∀ g,g∈fs.map (·.1)→g∈(putF f v fs).map (·.1)
 | []=>⟨by simp [putF],fun g h=>by simp at h⟩
 | (k,x)::r=>by
  obtain⟨i1,i2⟩:=keys_putF f v r
  rw [show putF f v ((k,x)::r)=(if k=f then (k,v)::r else (k,x)::putF f v r) from rfl]
  by_cases hk:k=f
  ·rw [if_pos hk]
   subst hk
   exact⟨by simp,fun g h=>by simpa using h⟩
  ·rw [if_neg hk]
   refine⟨?_,fun g h=>?_⟩
   ·rw [List.map_cons]
    exact List.mem_cons_of_mem _ i1
   ·rw [List.map_cons] at h ⊢
    rcases List.mem_cons.mp h with e | e
    ·exact List.mem_cons.mpr (.inl e)
    ·exact List.mem_cons_of_mem _ (i2 g e)
theorem length_putF (f:Str) (v:V):∀ fs:List (Str×V),(putF f v fs).length≤fs.length+1
 | []=>by simp [putF]
 | (k,x)::r=>by
  have ih:=length_putF f v r
  rw [show putF f v ((k,x)::r)=(if k=f then (k,v)::r else (k,x)::putF f v r) from rfl]
  by_cases hk:k=f
  ·rw [if_pos hk,List.length_cons,List.length_cons]; lia
  ·rw [if_neg hk,List.length_cons,List.length_cons]; lia
theorem RelO.some_of {v:V}{o:Option Value} (r:RelO (some v) o):∃ u,o=some u∧RelV v u:=by
 cases o with
 | none=>exact (show False from r).elim
 | some u=>exact⟨u,rfl,r⟩
theorem RelO.none_of {o:Option Value} (r:RelO none o):o=none:=by
 cases o with
 | none=>rfl
 | some u=>exact (show False from r).elim
theorem handed_of {v:V}{u:Value} (r:RelV v u):PySem.W.handedIn u=true:=by
 cases v with
 | non=>cases (show u=Value.none from r); rfl
 | bl b=>cases (show u=Value.bool b from r); rfl
 | int i=>obtain⟨t,e⟩:=(show ∃ t,u=Value.int i t from r); cases e; rfl
 | str x=>obtain⟨t,e⟩:=(show ∃ t,u=Value.str x t from r); cases e; rfl
 | byt b=>obtain⟨t,e⟩:=(show ∃ t,u=Value.bytes b t from r); cases e; rfl
 | flt b=>obtain⟨t,e⟩:=(show ∃ t,u=Value.float b t from r); cases e; rfl
 | ref a=>cases (show u=Value.ref a from r); rfl
 | ty n=>cases (show u=Value.type n from r); rfl
section
variable {P:Program}{w:World}{H H':Hp}{h h':Heap}{a C dx:Addr}{fs fs':List (Str×V)}
theorem ins_get (hok:HOk P w H h) (e:H a=some (.ins C dx fs)):∃ mA,ObjM h a dx C mA∧(∀ f,RelO (fs.lookup f) (mA f))∧PySem.Within mA (fs.map (·.1))∧fs.length≤1000∧H dx=some (.own a):=by
 obtain⟨d,z,ne,ob,mA,n,r,q⟩:=(show ObjOk P w H h a (.ins C dx fs) from hok a _ e)
 exact⟨mA,⟨ob,n,ne⟩,r,q,z,d⟩
end
structure Cls (K:PySem.W.Frag) (C:Addr):Prop where
 pg:PySem.W.plainGet K C Str.empty=true
 hd:PySem.W.hasDictIn K C=true
 po:PySem.W.plainOver K C=true
 sa:PySem.W.findIn K (.ref C) "__setattr__"=some (some (.builtin "object.__setattr__"))
theorem Cls.get {K:PySem.W.Frag}{C:Addr} (c:Cls K C) (f:Str):PySem.W.plainGet K C f=true:=c.pg
def NoAttr (K:PySem.W.Frag) (C:Addr) (f:Str):Prop:=PySem.W.findIn K (.ref C) f=some none
theorem NoAttr.taker {K:PySem.W.Frag}{C:Addr}{f:Str} (n:NoAttr K C f):PySem.W.takerIn K C f=some none:=by
 unfold PySem.W.takerIn
 rw [show PySem.W.findIn K (.ref C) f=some none from n]
 rfl
structure Meth (K:PySem.W.Frag) (C:Addr) (m:Str) (f:Addr):Prop where
 at_:PySem.W.findIn K (.ref C) m=some (some (.ref f))
 fn:PySem.W.isFn K (.ref f)=true
 kp:PySem.W.keepIn K (.ref f)=true
section
variable {X:Cx}{pins:List (Addr×Obj)}{σ:St}{H:Hp}{s:Shared}{a C dx:Addr}{fs:List (Str×V)}{f:Str}{v:V}{A:Around}{E:Value→Shared→Prop}
theorem getattr_ok {b:Bool}{Q:Value→Shared→Prop} (I:Inv X pins σ H s) (e:H a=some (.ins C dx fs)) (c:Cls X.K C) (n:NoAttr X.K C f) (l:fs.lookup f=some v)
  (h:∀ u s',Inv X pins σ H s'→RelV v u→Q u s'):wpAny (model X.prog X.w) A (getAttr (.ref a) f b) Q E s:=by
 obtain⟨mA,O,r,_,_,_⟩:=ins_get I.hok e
 obtain⟨u,hu,ru⟩:=RelO.some_of (v:=v) (o:=mA f) (by rw [← l]; exact r f)
 exact get_map I.kIn O (c.get f) c.hd n hu (handed_of ru) (h u _ (I.tok _) ru)
theorem getmeth_ok {m:Str}{g:Addr}{pl:Sem Bool}{Q:Value×List Value→Shared→Prop} (I:Inv X pins σ H s) (e:H a=some (.ins C dx fs)) (c:Cls X.K C) (k:Meth X.K C m g) (l:fs.lookup m=none)
  (h:Q (.ref g,[.ref a]) s):wpAny (model X.prog X.w) A (getMethod (.ref a) m pl) Q E s:=by
 obtain⟨mA,O,r,_,_,_⟩:=ins_get I.hok e
 have hn:mA m=none:=RelO.none_of (by rw [← l]; exact r m)
 exact get_meth I.kIn O (c.get m) k.at_ k.fn hn h
theorem setattr_ok {y:V}{u:Value}{Q:Unit→Shared→Prop} (I:Inv X pins σ H s) (e:H a=some (.ins C dx fs)) (c:Cls X.K C) (n:NoAttr X.K C f) (hl:fs.length<1000) (ry:RelV y u)
  (h:∀ s',Inv X pins σ (upd H a (.ins C dx (putF f y fs))) s'→Q () s'):wpAny (model X.prog X.w) A (setAttr (.ref a) f u) Q E s:=by
 obtain⟨mA,O,r,wi,_,ho⟩:=ins_get I.hok e
 have hz:(fs.map (·.1)).length≤sizeLine:=by rw [List.length_map,sizeLine_eq]; lia
 refine set_map I.kIn O c.sa c.po n.taker c.hd wi hz fun h' O' sb=>h _ ?_
 have hd:∃ o,h'.get? dx=some o:=let ⟨o,_,_,e',_⟩:=O'.ns; ⟨o,e'⟩
 refine I.write (x:=a) (e:=dx) (by rw [e]; exact True.intro) (.inr ho) (fun b q hb z=>(sb.2 b hb).trans z) hd ?_
 refine⟨by rw [upd_ne O.ne]; exact ho,?_,O.ne,O'.obj,_,O'.ns,fun g=>?_,fun g hg=>?_⟩
 ·have:=length_putF f y fs; lia
 ·show RelO ((putF f y fs).lookup g) (if g=f then some u else mA g)
  rw [lookup_putF]
  by_cases q:g=f
  ·rw [if_pos q,if_pos q]; exact ry
  ·rw [if_neg q,if_neg q]; exact r g
 ·by_cases q:g=f
  ·rw [q]; exact (keys_putF f y fs).1
  ·refine (keys_putF f y fs).2 g (wi g fun z=>hg ?_)
   show (if g=f then some u else mA g)=none
   rw [if_neg q]; exact z
theorem Inv.made (I:Inv X pins σ H s):Inv X pins σ (upd (upd H s.heap.objs.size (.own (s.heap.objs.size+1))) (s.heap.objs.size+1) (.ins C s.heap.objs.size []))
  { s with heap:=(s.heap.push PySem.W.emptyDict).push (PySem.W.instObj C s.heap.objs.size) }:=by
 have e1:(s.heap.push PySem.W.emptyDict).get? s.heap.objs.size=some PySem.W.emptyDict:=Heap.get?_push_size s.heap rfl
 have e2:((s.heap.push PySem.W.emptyDict).push (PySem.W.instObj C s.heap.objs.size)).get? (s.heap.objs.size+1)=some (PySem.W.instObj C s.heap.objs.size):=by
  have:=Heap.get?_push_size (s.heap.push PySem.W.emptyDict) (o:=PySem.W.instObj C s.heap.objs.size) rfl
  rwa [Heap.size_push] at this
 have e3:(s.heap.push PySem.W.emptyDict).Ns s.heap.objs.size (fun _=>none):=⟨PySem.W.emptyDict,#[],_,e1,rfl,(fun e he=>absurd he (by simp)),fun _=>rfl⟩
 have I1:=I.laid (a:=s.heap.objs.size) (o:=.own (s.heap.objs.size+1)) (h':=s.heap.push PySem.W.emptyDict) (t':=s.toks) (fun b u q=>Heap.get?_push_of_some _ q) (Nat.le_refl _) ⟨_,e1⟩
 refine I1.laid (a:=s.heap.objs.size+1) (o:=.ins C s.heap.objs.size []) (t':=s.toks) (fun b u q=>Heap.get?_push_of_some _ q) (Nat.le_of_eq (Heap.size_push _ _)) ?_
 have ne:s.heap.objs.size≠s.heap.objs.size+1:=Nat.ne_of_lt (Nat.lt_succ_self _)
 refine⟨by rw [upd_ne ne,upd_same],Nat.zero_le _,ne,e2,fun _=>none,(Heap.Ns1.of_empty e3).at fun o q=>Heap.get?_push_of_some _ q,fun _=>True.intro,fun y hy=>absurd rfl hy⟩
theorem attr_of {prog:Program}{w:World}{env:Env}{e:Expr}{f:Str}{pos:Pos}{s:Shared}{Q:Value→Shared→Prop} (hb:attributeBase e f env (eval e env)=eval e env)
  (h:wpAny (model prog w) A (eval e env) (fun o s₁=>wpAny (model prog w) A (getAttr o f true) Q E s₁) E s):wpAny (model prog w) A (eval (.Attribute e f pos) env) Q E s :=
 Attribute_any_ h (by rw [arm_eval_Attribute,hb])
end
def tFld (K:PySem.W.Frag) (ta:TE) (f:Str):TE:=fun σ H Q=>ta σ H fun x H1=>∃ a C dx fs v,x=.ref a∧H1 a=some (.ins C dx fs)∧Cls K C∧NoAttr K C f∧fs.lookup f=some v∧Q v H1
def sFld (K:PySem.W.Frag) (ta tv:TE) (f:Str):TS:=fun D σ H=>tv σ H fun y H1=>ta σ H1 fun x H2=>∃ a C dx fs,x=.ref a∧H2 a=some (.ins C dx fs)∧Cls K C∧NoAttr K C f∧fs.length<1000 ∧
 D.nx σ (upd H2 a (.ins C dx (putF f y fs)))
def InOp (X:Cx) (op:Operator) (rd:V→V→Hp→VK→Prop):Prop :=
 ∀ (pins:List (Addr×Obj)) (s:Shared) (σ:St) (H:Hp) (x y:V) (u v:Value) (Q:VK),Inv X pins σ H s→RelV x u→RelV y v→rd x y H Q→wpAny (model X.prog X.w) X.A (inplaceOp op u v) (EP X pins σ Q) X.xe s
def sFldAug (K:PySem.W.Frag) (ta tv:TE) (rd:V→V→Hp→VK→Prop) (f:Str):TS:=fun D σ H=>ta σ H fun x H1=>∃ a C dx fs v,x=.ref a∧H1 a=some (.ins C dx fs)∧Cls K C∧NoAttr K C f∧fs.lookup f=some v ∧
 tv σ H1 fun y H2=>rd v y H2 fun z H3=>∃ dx' fs',H3 a=some (.ins C dx' fs')∧fs'.length<1000∧D.nx σ (upd H3 a (.ins C dx' (putF f z fs')))
section
variable {X:Cx}{o e value:Expr}{f:Str}{pos pos' tpos:Pos}{ta tv:TE}
theorem pe_fld (he:PE X e ta) (hb:attributeBase e f X.env (eval e X.env)=eval e X.env):PE X (.Attribute e f pos) (tFld X.K ta f):=by
 intro pins s σ H Q I h
 refine attr_of hb (thn (he pins s σ H _ I h) fun u s1 ⟨x,H1,I1,rx,a,C,dx,fs,v,ex,ea,c,n,l,q⟩=>?_)
 subst ex
 obtain rfl:u=Value.ref a:=rx
 exact getattr_ok I1 ea c n l fun u' s2 I2 ru=>⟨v,H1,I2,ru,q⟩
theorem ps_fld (ha:PE X o ta) (hv:PE X value tv) (hs:swapsWith value (some (.Attribute o f pos')) pos.line X.env=pure false):PS X (.Assign [.Attribute o f pos'] value pos) (sFld X.K ta tv f):=by
 intro pins s σ H D I h
 refine plainObj_wpAny_Assign_Attribute (thn (hv pins s σ H _ I h) fun u s1 ⟨y,H1,I1,ry,q⟩=>thn (ha pins s1 σ H1 _ I1 q) fun ov s2 ⟨x,H2,I2,rx,a,C,dx,fs,ex,ea,c,n,l,q2⟩=>?_) hs
 subst ex
 obtain rfl:ov=Value.ref a:=rx
 exact setattr_ok I2 ea c n l ry fun s3 I3=>⟨σ,_,I3,q2⟩
theorem ps_fldaug {op:Operator}{rd:V→V→Hp→VK→Prop} (ha:PE X o ta) (hv:PE X value tv) (hop:InOp X op rd):PS X (.AugAssign (.Attribute o f tpos) op value pos) (sFldAug X.K ta tv rd f):=by
 intro pins s σ H D I h
 refine wpAny_AugAssign_AttributeAny (thn (ha pins s σ H _ I h) fun ov s1 ⟨x,H1,I1,rx,a,C,dx,fs,v,ex,ea,c,n,l,q⟩=>?_)
 subst ex
 obtain rfl:ov=Value.ref a:=rx
 refine getattr_ok I1 ea c n l fun u s2 I2 ru=>thn (hv pins s2 σ H1 _ I2 q) fun w3 s3 ⟨y,H2,I3,ry,q3⟩=>thn (hop pins s3 σ H2 v y u w3 _ I3 ru ry q3) fun w4 s4 ⟨z,H3,I4,rz,dx',fs',ea',l',q4⟩=>?_
 exact setattr_ok I4 ea' c n l' rz fun s5 I5=>⟨σ,_,I5,q4⟩
def rAdd:V→V→Hp→VK→Prop:=fun x y H Q=>∃ i j,x=.int i∧y=.int j∧Q (.int (i+j)) H
def rSub:V→V→Hp→VK→Prop:=fun x y H Q=>∃ i j,x=.int i∧y=.int j∧Q (.int (i - j)) H
theorem in_add:InOp X .Add rAdd:=by
 rintro pins s σ H x y u v Q I rx ry ⟨i,j,rfl,rfl,q⟩
 obtain⟨t,rfl⟩:=(show ∃ t,u=Value.int i t from rx)
 obtain⟨t',rfl⟩:=(show ∃ t',v=Value.int j t' from ry)
 exact PyProof.Rows.iadd_int ⟨.int (i+j),H,I.tok _,⟨_,rfl⟩,q⟩
theorem in_sub:InOp X .Sub rSub:=by
 rintro pins s σ H x y u v Q I rx ry ⟨i,j,rfl,rfl,q⟩
 obtain⟨t,rfl⟩:=(show ∃ t,u=Value.int i t from rx)
 obtain⟨t',rfl⟩:=(show ∃ t',v=Value.int j t' from ry)
 exact PyProof.Rows.isub_int ⟨.int (i - j),H,I.tok _,⟨_,rfl⟩,q⟩
end
section
variable {X:Cx}{pins:List (Addr×Obj)}{σ:St}{H:Hp}{s:Shared}{A:Around}{E:Value→Shared→Prop}{Q:Value→Shared→Prop}{c:Value}{b:Bool}
inductive TyOf (K:PySem.W.Frag) (H:Hp):V→Value→Prop where
 | non:TyOf K H .non (.type "NoneType")
 | bl (x:Bool):TyOf K H (.bl x) (.type "bool")
 | int (i:Int):TyOf K H (.int i) (.type "int")
 | str (x:Str):TyOf K H (.str x) (.type "str")
 | flt (x:UInt64):TyOf K H (.flt x) (.type "float")
 | lst {a:Addr}{xs:List V} (e:H a=some (.lst xs)):TyOf K H (.ref a) (.type "list")
 | frz {a:Addr}{o:Obj}{xs:List V} (e:H a=some (.frz o (.lst xs))):TyOf K H (.ref a) (.type "list")
 | tup {a:Addr}{xs:List V} (e:H a=some (.tup xs)):TyOf K H (.ref a) (.type "tuple")
 | dK {a:Addr}{kvs:List (Key×V)} (e:H a=some (.dK kvs)):TyOf K H (.ref a) (.type "dict")
 | dT {a:Addr}{kvs:List (List Key×V)} (e:H a=some (.dT kvs)):TyOf K H (.ref a) (.type "dict")
 | ins {a C dx:Addr}{fs:List (Str×V)} (e:H a=some (.ins C dx fs)) (cl:Cls K C) (ha:PySem.W.findIn K (.ref C) "__class__"=some (some (.builtin "object.__class__")))
   (hn:PySem.W.specialIn K (.builtin "object.__class__") "__get__"=some (some (.builtin "getset_descriptor.__get__"))) (htk:PySem.W.takesIn K (.builtin "object.__class__")=some true)
   (hm:PySem.W.mroIn K C (.type "object")=some true):TyOf K H (.ref a) (.ref C)
theorem isinst_ok {x:V}{u t:Value} (I:Inv X pins σ H s) (rx:RelV x u) (ty:TyOf X.K H x t) (e:PySem.W.kitOne X.K t c=some b) (h:∀ tk,Q (.bool b) { s with toks:=tk }) :
  wpAny (model X.prog X.w) A (call (.builtin "isinstance") [u,c]) Q E s:=by
 cases ty with
 | non=>cases (show u=Value.none from rx); exact PySem.W.kia_one PySem.W.kitx_none I.kIn True.intro e (fun z=>nomatch z) h
 | bl y=>cases (show u=Value.bool y from rx); exact PySem.W.kia_one PySem.W.kitx_bool I.kIn True.intro e (fun z=>nomatch z) h
 | int i=>obtain⟨t,q⟩:=(show ∃ t,u=Value.int i t from rx); cases q; exact PySem.W.kia_one PySem.W.kitx_int I.kIn True.intro e (fun z=>nomatch z) h
 | str y=>obtain⟨t,q⟩:=(show ∃ t,u=Value.str y t from rx); cases q; exact PySem.W.kia_one PySem.W.kitx_str I.kIn True.intro e (fun z=>nomatch z) h
 | flt y=>obtain⟨t,q⟩:=(show ∃ t,u=Value.float y t from rx); cases q; exact PySem.W.kia_one PySem.W.kitx_float I.kIn True.intro e (fun z=>nomatch z) h
 | @lst a xs ea =>
  cases (show u=Value.ref a from rx)
  obtain⟨_,_,n,_,h1⟩:=(show ObjOk X.prog X.w H s.heap a (.lst xs) from I.hok a _ ea)
  exact PySem.W.kia_one PySem.W.kitx_list I.kIn ⟨_,h1,rfl⟩ e (fun z=>nomatch z) h
 | @frz a ob xs ea =>
  cases (show u=Value.ref a from rx)
  obtain⟨_,_,_,n,_,h1⟩:=(show ObjOk X.prog X.w H s.heap a (.frz ob (.lst xs)) from I.hok a _ ea)
  exact PySem.W.kia_one PySem.W.kitx_list I.kIn ⟨_,h1,rfl⟩ e (fun z=>nomatch z) h
 | @tup a xs ea =>
  cases (show u=Value.ref a from rx)
  obtain⟨_,_,_,p⟩:=(show ObjOk X.prog X.w H s.heap a (.tup xs) from I.hok a _ ea)
  obtain⟨o,h1,h2,_⟩:=p
  exact PySem.W.kia_one PySem.W.kitx_tuple I.kIn ⟨o,h1,h2⟩ e (fun z=>nomatch z) h
 | @dK a kvs ea =>
  cases (show u=Value.ref a from rx)
  obtain⟨_,_,vs,_,p⟩:=(show ObjOk X.prog X.w H s.heap a (.dK kvs) from I.hok a _ ea)
  obtain⟨o,es,ep,h1,h2,_⟩:=p
  exact PySem.W.kia_one PySem.W.kitx_dict I.kIn ⟨o,h1,h2.1⟩ e (fun z=>nomatch z) h
 | @dT a kvs ea =>
  cases (show u=Value.ref a from rx)
  obtain⟨_,_,xs,_,o,es,ep,h1,h2,_⟩:=(show ObjOk X.prog X.w H s.heap a (.dT kvs) from I.hok a _ ea)
  exact PySem.W.kia_one PySem.W.kitx_dict I.kIn ⟨o,h1,h2.1⟩ e (fun z=>nomatch z) h
 | @ins a C dx fs ea cl ha hn htk hm =>
  cases (show u=Value.ref a from rx)
  obtain⟨mA,O,_⟩:=ins_get I.hok ea
  obtain⟨od,J,_⟩:=O.look
  exact PySem.W.kia_one (PySem.W.kitx_own (cl.get _) cl.hd ha hn htk hm) I.kIn J e (fun z=>nomatch z) h
end
end L2
namespace L2
open PySem PySem.Spec PyProof.Rows
structure Room (k:Nat) (A:Around):Prop where
 hd:A.handled=none
 dp:A.depth+3 * k+5<recursionLimit
 un:A.units+16 * k+200<cLine
theorem Room.mono {j k:Nat}{A:Around} (r:Room k A) (h:j≤k):Room j A:=⟨r.hd,by have:=r.dp; lia,by have:=r.un; lia⟩
theorem Room.deeper {k:Nat}{A:Around} (r:Room (k+1) A) (env:Env):Room k (A.deeper env) :=
 ⟨r.hd,by have:=r.dp; show A.depth+1+3 * k+5<_; lia,by have:=r.un; show A.units+3+16 * k+200<_; lia⟩
theorem make_depth {A:Around}{C:Addr}{us:List Value}{kw:List (Str×Value)}:(A.under (.builtin "type.__call__" ⟨.ref C::us,kw⟩)).depth=A.depth+1:=by
 first | rfl | simp [Around.under,Code.weight,Code.isCreation,Code.isGuard,Code.isCaller,Code.frames,Code.isFrame,guardIds]
theorem make_units {A:Around}{C:Addr}{us:List Value}{kw:List (Str×Value)}:(A.under (.builtin "type.__call__" ⟨.ref C::us,kw⟩)).units=A.units+1:=by
 first | rfl | simp [Around.under,Code.cUnits,Code.frames,Code.isFrame]
theorem Room.make {k:Nat}{A:Around} (r:Room (k+1) A) (C:Addr) (us:List Value) (kw:List (Str×Value)):Room k (A.under (.builtin "type.__call__" ⟨.ref C::us,kw⟩)) :=
 ⟨r.hd,by have:=r.dp; rw [make_depth]; lia,by have:=r.un; rw [make_units]; lia⟩
theorem Room.depth {k:Nat}{A:Around} (r:Room k A):A.depth<recursionLimit:=by have:=r.dp; lia
def tNil:TA:=fun _ H Q=>Q [] H
def tCons (ta:TE) (tr:TA):TA:=fun σ H Q=>ta σ H fun x H1=>tr σ H1 fun xs H2=>Q (x::xs) H2
section
variable {X:Cx}{e:Expr}{es:List Expr}{te:TE}{t:TA}{pos:Pos}
theorem pa_nil:PA X [] tNil:=fun _ _ _ _ H Q I h=>Calls.spliced_nil ⟨[],H,I,.nil,h⟩
theorem pa_cons (ha:PE X e te) (hr:PA X es t) (hs:starEach (e::es) X.env=(false,eval e X.env)::starEach es X.env:=by rfl):PA X (e::es) (tCons te t):=by
 intro pos pins s σ H Q I h
 rw [hs]
 show wpAny _ _ (spliced ((false,eval e X.env)::backTo pos (starEach es X.env))) _ _ s
 refine Calls.spliced_cons (thn (ha pins s σ H _ I h) fun u s1 ⟨x,H1,I1,r1,q1⟩=>?_)
 exact thn (hr pos pins s1 σ H1 _ I1 q1) fun us s2 ⟨xs,H2,I2,r2,q2⟩=>⟨x::xs,H2,I2,.cons r1 r2,q2⟩
def tTup (t:TA):TE:=fun σ H Q=>t σ H fun xs H1=>xs.length≤sizeLine∧∀ p,H1 p=none→Q (.ref p) (upd H1 p (.tup xs))
def tLst (t:TA):TE:=fun σ H Q=>t σ H fun xs H1=>xs.length≤sizeLine∧∀ p,H1 p=none→Q (.ref p) (upd H1 p (.lst xs))
theorem pe_tup {x1} (h:PA X es t):PE X (.Tuple es x1 pos) (tTup t):=by
 intro pins s σ H Q I hq
 refine wpAny_Tuple_spliced (thn (h pos pins s σ H _ I hq) fun us s1 ⟨xs,H1,I1,r,z,q⟩=>⟨by rw [← r.length]; exact z,?_⟩)
 have hf:H1 s1.heap.objs.size=none:=I1.hok.fresh (Nat.le_refl _)
 refine⟨.ref s1.heap.objs.size,upd H1 s1.heap.objs.size (.tup xs),I1.laid (t':=s1.toks) (fun b u e=>Heap.get?_push_of_some _ e) (Nat.le_refl _) ?_,rfl,q _ hf⟩
 exact⟨z,us,r,⟨_,Heap.get?_push_size _ rfl,rfl,_,rfl⟩⟩
theorem pe_lst (h:PA X es t):PE X (.List es pos) (tLst t):=by
 intro pins s σ H Q I hq
 refine wpAny_List_spliced (thn (h pos pins s σ H _ I hq) fun us s1 ⟨xs,H1,I1,r,z,q⟩=>⟨by rw [← r.length]; exact z,?_⟩)
 have hf:H1 s1.heap.objs.size=none:=I1.hok.fresh (Nat.le_refl _)
 refine⟨.ref s1.heap.objs.size,upd H1 s1.heap.objs.size (.lst xs),I1.laid (t':=s1.toks) (fun b u e=>Heap.get?_push_of_some _ e) (Nat.le_refl _) ?_,rfl,q _ hf⟩
 exact⟨z,us,0,r,Heap.get?_push_size _ rfl⟩
end
abbrev Sp:=List V→Hp→VK→XK→Prop
abbrev CXT:=List Env→Hp→Shared→XK→Value→Shared→Prop
structure Env0 (P:Program) (w:World) (K:PySem.W.Frag) (mg:Str→Option Value) (base:Heap) (A:Around) (outer:List Env) (s:Shared) (H:Hp):Prop where
 frames:A.frames=some outer
 mod:Mod K mg base
 bs:∀ b o,base.get? b=some o→s.heap.get? b=some o∧H b=none
 bsz:base.objs.size≤s.heap.objs.size
 funs:s.heap.FunFrames base outer
 frf:∀ b∈frs outer,H b=none
 hok:HOk P w H s.heap
 bare:AllBare s.gens
def CE (outer:List Env) (P:Program) (w:World) (H:Hp) (s:Shared) (Q:VK) (u:Value) (s':Shared):Prop :=
 ∃ v H',s'.os=s.os∧AllBare s'.gens∧Un (frs outer) [] H H' s.heap s'.heap∧HOk P w H' s'.heap∧RelV v u∧Q v H'
def CR (CX:CXT) (outer:List Env) (P:Program) (w:World) (H:Hp) (s:Shared) (Q:VK) (E:XK) (r:Result) (s':Shared):Prop :=
 match r with
 | .ok (.ret u)=>CE outer P w H s Q u s'
 | .ok _=>False
 | .error e=>CX outer H s E e s'
structure FnOk (P:Program) (w:World) (K:PySem.W.Frag) (mg:Str→Option Value) (base:Heap) (CX:CXT) (k:Nat) (f:Addr) (fd:FuncData) (ps:List Str) (sp:Sp):Prop where
 len:∀ vs H Q E,sp vs H Q E→vs.length=ps.length
 run:∀ (A:Around) (outer:List Env) (s:Shared) (H:Hp) (args:Args) (us:List Value) (vs:List V) (Q:VK) (E:XK),Room k A→Env0 P w K mg base A outer s H→BindsTo s fd args (ps.zip us)→Vals vs us→sp vs H Q E →
  codeAny (model P w) A (.call (.ref f) args) (CR CX outer P w H s Q E) s
theorem FnOk.mono {P:Program}{w:World}{K:PySem.W.Frag}{mg:Str→Option Value}{base:Heap}{CX:CXT}{j k:Nat}{f:Addr}{fd:FuncData}{ps:List Str}{sp:Sp} (F:FnOk P w K mg base CX j f fd ps sp) (h:j≤k) :
  FnOk P w K mg base CX k f fd ps sp:=⟨F.len,fun A outer s H args us vs Q E hr=>F.run A outer s H args us vs Q E (hr.mono h)⟩
theorem Env0.make {P:Program}{w:World}{K:PySem.W.Frag}{mg:Str→Option Value}{base:Heap}{A:Around}{outer:List Env}{s:Shared}{H:Hp} (e:Env0 P w K mg base A outer s H) (C:Addr) (us:List Value) (kw:List (Str×Value)) :
  Env0 P w K mg base (A.under (.builtin "type.__call__" ⟨.ref C::us,kw⟩)) outer s H:=⟨by first | exact e.frames | (simpa [Around.under,Code.envs,Code.isFrame,pushEnvs] using e.frames),e.mod,e.bs,e.bsz,e.funs,e.frf,e.hok,e.bare⟩
section
variable {X:Cx}{pins:List (Addr×Obj)}{σ:St}{H:Hp}{s s':Shared}
theorem Inv.env0 (I:Inv X pins σ H s):Env0 X.prog X.w X.K X.mg X.base X.A X.stack s H :=
 ⟨I.ok.frames,I.ok.mod,I.bs,Nat.le_trans I.ok.bsz I.sz,I.stack,I.stkFree,I.hok,I.bare⟩
theorem Inv.after {Q:VK}{u:Value} (I:Inv X pins σ H s) (h:CE X.stack X.prog X.w H s Q u s'):EP X pins σ Q u s':=by
 obtain⟨v,H',os,bare,un,hok,r,q⟩:=h
 obtain⟨hh,g,d,t,os'⟩:=s'
 obtain rfl:os'=s.os:=os
 exact⟨v,H',I.call (h':=hh) (g':=g) (d':=d) (t':=t) (ch:=[]) un hok bare (fun b z=>absurd z (by simp)),r,q⟩
end
def tCall (sp:Sp) (dvs:List V) (E:XK) (t:TA):TE:=fun σ H Q=>t σ H fun vs H1=>sp (vs++dvs) H1 Q E
def tMeth (C:Addr) (m:Str) (sp:Sp) (dvs:List V) (E:XK) (ta:TE) (t:TA):TE:=fun σ H Q=>ta σ H fun x H1=>∃ a dx fs,x=.ref a∧H1 a=some (.ins C dx fs)∧fs.lookup m=none ∧
 t σ H1 fun vs H2=>sp (x::(vs++dvs)) H2 Q E
def tMake (C:Addr) (sp:Sp) (dvs:List V) (E:XK) (t:TA):TE:=fun σ H Q=>t σ H fun vs H1=>∀ x dx,H1 x=none→H1 dx=none→dx≠x →
 sp (.ref x::(vs++dvs)) (upd (upd H1 dx (.own x)) x (.ins C dx [])) (fun v H2=>v=.non∧Q (.ref x) H2) E
def Binds (K:PySem.W.Frag) (fd:FuncData) (ps:List Str) (ds:List Value):Prop :=
 ∀ (s:Shared) (us:List Value),K.In s.heap→(us++ds).length=ps.length→BindsTo s fd ⟨us,[]⟩ (ps.zip (us++ds))
theorem Binds.all {K:PySem.W.Frag}{fd:FuncData}{ps:List Str} (h:∀ us:List Value,us.length=ps.length→bindArgs fd ⟨us,[]⟩=pure (ps.zip us)):Binds K fd ps []:=fun s us _ hl=>by
 rw [List.append_nil] at hl ⊢
 exact .of_eq (h us hl)
def Passes (CX:CXT) (X:Cx) (E:XK):Prop:=∀ (pins:List (Addr×Obj)) (σ:St) (H:Hp) (s:Shared) (e:Value) (s':Shared),Inv X pins σ H s→CX X.stack H s E e s'→X.xe e s'
section
variable {X:Cx}{CX:CXT}{k:Nat}{f C:Addr}{fd:FuncData}{ps:List Str}{sp:Sp}{dvs:List V}{ds:List Value}{E:XK}{x m:Str}{p pos apos:Pos}{e o:Expr}{es:List Expr}{ta:TE}{t:TA}
theorem run_fn {pins:List (Addr×Obj)}{σ:St}{H:Hp}{s:Shared}{Q:VK}{us:List Value}{vs:List V} (F:FnOk X.prog X.w X.K X.mg X.base CX k f fd ps sp) (hr:Room k X.A) (hb:Binds X.K fd ps ds) (hd:Vals dvs ds) (hx:Passes CX X E)
  (I:Inv X pins σ H s) (r:Vals vs us) (h:sp (vs++dvs) H Q E):wpAny (model X.prog X.w) X.A (call (.ref f) us) (EP X pins σ Q) X.xe s:=by
 have r2:Vals (vs++dvs) (us++ds):=r.append hd
 have hl:(us++ds).length=ps.length:=by rw [← r2.length]; exact F.len _ _ _ _ h
 refine wpAny_call (codeAny_mono (F.run X.A X.stack s H ⟨us,[]⟩ (us++ds) (vs++dvs) Q E hr I.env0 (hb s us I.kIn hl) r2 h) fun r s' hq=>?_)
 cases r with
 | error e=>exact hx pins σ H s e s' I hq
 | ok fl =>
  cases fl with
  | ret u=>exact I.after hq
  | next=>exact False.elim hq
  | brk=>exact False.elim hq
  | cont=>exact False.elim hq
theorem pe_call (F:FnOk X.prog X.w X.K X.mg X.base CX k f fd ps sp) (hr:Room k X.A) (hg:Gl X x) (hm:X.mg x=some (.ref f)) (hk:PySem.W.keepIn X.K (.ref f)=true) (hb:Binds X.K fd ps ds) (hd:Vals dvs ds) (hx:Passes CX X E)
  (ha:PA X (e::es) t) (hdb:(x == ("__debug__":Str))=false:=by decide) (he:starEach (e::es) X.env=(false,eval e X.env)::starEach es X.env:=by rfl) (hpl:(backTo pos (starEach es X.env)).any (·.1)=false:=by rfl) :
  PE X (.Call (.Name x p) (e::es) [] pos) (tCall sp dvs E t):=by
 intro pins s σ H Q I h
 refine wpAny_Call_Name_kw (ld_glob I hg hm ?_ hdb)
 refine PySem.W.callWith_K (h₀:=X.base) I.ok.mod.kin hk (thn (ha pos pins s σ H _ I h) fun us s1 ⟨vs,H1,I1,r,q⟩=>⟨I1.kIn,?_⟩) he hpl
 exact run_fn F hr hb hd hx I1 r q
theorem pe_call0 (F:FnOk X.prog X.w X.K X.mg X.base CX k f fd ps sp) (hr:Room k X.A) (hg:Gl X x) (hm:X.mg x=some (.ref f)) (hk:PySem.W.keepIn X.K (.ref f)=true) (hb:Binds X.K fd ps ds) (hd:Vals dvs ds) (hx:Passes CX X E)
  (hdb:(x == ("__debug__":Str))=false:=by decide):PE X (.Call (.Name x p) [] [] pos) (tCall sp dvs E tNil):=by
 intro pins s σ H Q I h
 refine wpAny_Call_Name_kw (ld_glob I hg hm ?_ hdb)
 exact PySem.W.callWith_K0 I.kIn hk (run_fn (us:=[]) F hr hb hd hx I .nil h)
theorem pe_meth {pl:Sem Bool} (he:PE X o ta) (c:Cls X.K C) (hm:Meth X.K C m f) (F:FnOk X.prog X.w X.K X.mg X.base CX k f fd ps sp) (hr:Room k X.A) (hb:Binds X.K fd ps ds) (hd:Vals dvs ds) (hx:Passes CX X E) (ha:PA X (e::es) t)
  (hst:starEach (e::es) X.env=(false,eval e X.env)::starEach es X.env:=by rfl) (hpl:(backTo pos (starEach es X.env)).any (·.1)=false:=by rfl)
  (ht:eval (.Call (.Attribute o m apos) (e::es) [] pos) X.env=(do
   let ov ← eval o X.env
   standAt apos.atName
   let (f,first) ← holding [ov] (getMethod ov m pl)
   callWith pos f first (backTo pos (starEach (e::es) X.env)) (backToKw pos (keywordEach [] X.env))):=by rfl) :
  PE X (.Call (.Attribute o m apos) (e::es) [] pos) (tMeth C m sp dvs E ta t):=by
 intro pins s σ H Q I h
 refine PySem.W.methodCall_KW (pl:=pl) (thn (he pins s σ H _ I h) fun u s1 ⟨x,H1,I1,rx,a,dx,fs,ex,ea,l,q⟩=>?_) ht
 subst ex
 obtain rfl:u=Value.ref a:=rx
 refine getmeth_ok I1 ea c hm l ?_
 refine PySem.W.callWith_K (first:=[.ref a]) (h₀:=X.base) I.ok.mod.kin hm.kp (thn (ha pos pins s1 σ H1 _ I1 q) fun us s2 ⟨vs,H2,I2,r,q2⟩=>⟨I2.kIn,?_⟩) hst hpl
 exact run_fn (us:=.ref a::us) (vs:=.ref a::vs) F hr hb hd hx I2 (.cons rfl r) q2
theorem pe_meth0 {pl:Sem Bool} (he:PE X o ta) (c:Cls X.K C) (hm:Meth X.K C m f) (F:FnOk X.prog X.w X.K X.mg X.base CX k f fd ps sp) (hr:Room k X.A) (hb:Binds X.K fd ps ds) (hd:Vals dvs ds) (hx:Passes CX X E)
  (ht:eval (.Call (.Attribute o m apos) [] [] pos) X.env=(do
   let ov ← eval o X.env
   standAt apos.atName
   let (f,first) ← holding [ov] (getMethod ov m pl)
   callWith pos f first (backTo pos (starEach [] X.env)) (backToKw pos (keywordEach [] X.env))):=by rfl) :
  PE X (.Call (.Attribute o m apos) [] [] pos) (tMeth C m sp dvs E ta tNil):=by
 intro pins s σ H Q I h
 refine PySem.W.methodCall_KW (pl:=pl) (thn (he pins s σ H _ I h) fun u s1 ⟨x,H1,I1,rx,a,dx,fs,ex,ea,l,q⟩=>?_) ht
 subst ex
 obtain rfl:u=Value.ref a:=rx
 refine getmeth_ok I1 ea c hm l ?_
 exact PySem.W.callWith_K0 (first:=[.ref a]) I1.kIn hm.kp (run_fn (us:=[.ref a]) (vs:=[.ref a]) F hr hb hd hx I1 (.cons rfl .nil) q)
structure Mk (K:PySem.W.Frag) (C f:Addr):Prop where
 makes:PySem.W.makesIn K C=true
 init:PySem.W.findIn K (.ref C) "__init__"=some (some (.ref f))
 fn:PySem.W.isFn K (.ref f)=true
 kp:PySem.W.keepIn K (.ref C)=true
theorem run_make {pins:List (Addr×Obj)}{σ:St}{H:Hp}{s:Shared}{Q:VK}{us:List Value}{vs:List V} (M:Mk X.K C f) (F:FnOk X.prog X.w X.K X.mg X.base CX k f fd ps sp) (hr:Room (k+1) X.A) (hb:Binds X.K fd ps ds) (hd:Vals dvs ds)
  (hx:Passes CX X E) (I:Inv X pins σ H s) (r:Vals vs us)
  (h:∀ x dx,H x=none→H dx=none→dx≠x→sp (.ref x::(vs++dvs)) (upd (upd H dx (.own x)) x (.ins C dx [])) (fun v H2=>v=.non∧Q (.ref x) H2) E) :
  wpAny (model X.prog X.w) X.A (call (.ref C) us) (EP X pins σ Q) X.xe s:=by
 have hq:=h (s.heap.objs.size+1) s.heap.objs.size (I.hok.fresh (Nat.le_succ _)) (I.hok.fresh (Nat.le_refl _)) (Nat.ne_of_lt (Nat.lt_succ_self _))
 have I2:=Inv.made (C:=C) I
 have r2:Vals (V.ref (s.heap.objs.size+1)::(vs++dvs)) (Value.ref (s.heap.objs.size+1)::(us++ds)):=.cons rfl (r.append hd)
 have hl:(Value.ref (s.heap.objs.size+1)::us++ds).length=ps.length:=by
  have e:=r2.length
  rw [F.len _ _ _ _ hq] at e
  exact e.symm
 refine wpAny_call (make_map (f:=f) I.kIn M.makes M.init (beq_iff_eq.mp M.fn) (codeAny_mono (F.run _ X.stack _ _ ⟨Value.ref (s.heap.objs.size+1)::us,[]⟩ (Value.ref (s.heap.objs.size+1)::(us++ds)) _ _ E (hr.make C us [])
  (I2.env0.make C us []) (hb _ (Value.ref (s.heap.objs.size+1)::us) I2.kIn hl) r2 hq) fun r s' hq'=>?_))
 cases r with
 | error e=>exact hx pins σ _ _ e s' I2 hq'
 | ok fl =>
  cases fl with
  | ret u =>
   obtain⟨v,H',I3,rv,ev,q3⟩:=I2.after hq'
   subst ev
   exact⟨rv,⟨V.ref (s.heap.objs.size+1),H',I3,rfl,q3⟩⟩
  | next=>exact False.elim hq'
  | brk=>exact False.elim hq'
  | cont=>exact False.elim hq'
theorem pe_make (M:Mk X.K C f) (F:FnOk X.prog X.w X.K X.mg X.base CX k f fd ps sp) (hr:Room (k+1) X.A) (hg:Gl X x) (hm:X.mg x=some (.ref C)) (hb:Binds X.K fd ps ds) (hd:Vals dvs ds) (hx:Passes CX X E)
  (ha:PA X (e::es) t) (hdb:(x == ("__debug__":Str))=false:=by decide) (he:starEach (e::es) X.env=(false,eval e X.env)::starEach es X.env:=by rfl) (hpl:(backTo pos (starEach es X.env)).any (·.1)=false:=by rfl) :
  PE X (.Call (.Name x p) (e::es) [] pos) (tMake C sp dvs E t):=by
 intro pins s σ H Q I h
 refine wpAny_Call_Name_kw (ld_glob I hg hm ?_ hdb)
 refine PySem.W.callWith_K (h₀:=X.base) I.ok.mod.kin M.kp (thn (ha pos pins s σ H _ I h) fun us s1 ⟨vs,H1,I1,r,q⟩=>⟨I1.kIn,?_⟩) he hpl
 exact run_make M F hr hb hd hx I1 r q
end
section
variable {X:Cx}{CX:CXT}{k:Nat}{f C:Addr}{fd:FuncData}{ps ks:List Str}{sp:Sp}{E:XK}{x m:Str}{p pos apos kpos:Pos}{e o:Expr}{es:List Expr}{kws:List Keyword}{te ta:TE}{t tk:TA}{nm:Option Str}
variable {g:List Value→List Value→List Value}{gV:List V→List V→List V}
end
structure FnScope (N P:List Str) (sc:Scope):Prop where
 kind:sc.kind=.function
 co:sc.isCoroutine=false
 gen:sc.isGenerator=false
 nd:N.Nodup
 pre:N.take P.length=P
 par:∀ x∈P,sc.names.lookup x=some .local∨sc.names.lookup x=some .cell
 nofree:∀ y∈sc.names,y.2≠.free
theorem bindL_out {kindOf:Str→Option NameKind}{x:Str}:∀ {binds:List (Str×Value)}{m:Str→Option Value},(∀ v,(x,v) ∉ binds)→bindL kindOf binds m x=m x
 | [],_,_=>rfl
 | (n,v)::r,m,h=>by
  unfold bindL
  rw [bindL_out fun w hw=>h w (List.mem_cons_of_mem _ hw)]
  split
  ·have:x≠n:=by rintro rfl; exact h v List.mem_cons_self
   simp [this]
  ·rfl
theorem bindC_out {kindOf:Str→Option NameKind}{x:Str}:∀ {binds:List (Str×Value)}{m:Str→Option Value},(∀ v,(x,v) ∉ binds)→bindC kindOf binds m x=m x
 | [],_,_=>rfl
 | (n,v)::r,m,h=>by
  unfold bindC
  rw [bindC_out fun w hw=>h w (List.mem_cons_of_mem _ hw)]
  split
  ·rfl
  ·have:x≠n:=by rintro rfl; exact h v List.mem_cons_self
   simp [this]
theorem bindL_get {kindOf:Str→Option NameKind}{x:Str}{v:Value}:∀ {P:List Str}{vs:List Value}{i:Nat}{m:Str→Option Value},P.Nodup→P[i]?=some x→vs[i]?=some v→kindOf x=some .local →
  bindL kindOf (P.zip vs) m x=some v
 | [],_,_,_,_,h,_,_=>by simp at h
 | _::_,[],_,_,_,_,h,_=>by simp at h
 | p::P,w::vs,0,m,nd,h1,h2,hk=>by
  simp at h1 h2; subst h1; subst h2
  show bindL kindOf ((p,w)::P.zip vs) m p=_
  unfold bindL
  rw [bindL_out fun v hv=>(List.nodup_cons.mp nd).1 (List.of_mem_zip hv).1,if_pos hk]
  simp
 | p::P,w::vs,i+1,m,nd,h1,h2,hk=>by
  show bindL kindOf ((p,w)::P.zip vs) m x=_
  unfold bindL
  exact bindL_get (i:=i) (List.nodup_cons.mp nd).2 (by simpa using h1) (by simpa using h2) hk
theorem bindC_get {kindOf:Str→Option NameKind}{x:Str}{v:Value}:∀ {P:List Str}{vs:List Value}{i:Nat}{m:Str→Option Value},P.Nodup→P[i]?=some x→vs[i]?=some v→kindOf x≠some .local →
  bindC kindOf (P.zip vs) m x=some v
 | [],_,_,_,_,h,_,_=>by simp at h
 | _::_,[],_,_,_,_,h,_=>by simp at h
 | p::P,w::vs,0,m,nd,h1,h2,hk=>by
  simp at h1 h2; subst h1; subst h2
  show bindC kindOf ((p,w)::P.zip vs) m p=_
  unfold bindC
  rw [bindC_out fun v hv=>(List.nodup_cons.mp nd).1 (List.of_mem_zip hv).1,if_neg hk]
  simp
 | p::P,w::vs,i+1,m,nd,h1,h2,hk=>by
  show bindC kindOf ((p,w)::P.zip vs) m x=_
  unfold bindC
  exact bindC_get (i:=i) (List.nodup_cons.mp nd).2 (by simpa using h1) (by simpa using h2) hk
def start (N:List Str) (vs:List V):St:=vs.map some++List.replicate (N.length - vs.length) none
def cxOf (CX:CXT) (P:Program) (w:World) (K:PySem.W.Frag) (mg:Str→Option Value) (base:Heap) (N:List Str) (qual:Str) (scope:Scope) (f:Addr) (cd:Value) (A:Around) (outer:List Env) (s:Shared) (H:Hp) (E:XK):Cx where
 prog:=P
 w:=w
 K:=K
 mg:=mg
 base:=base
 A:=A.deeper (envOfC qual scope s.heap.objs.size f cd)
 N:=N
 s₀:=s
 H₀:=H
 env:=envOfC qual scope s.heap.objs.size f cd
 outer:=outer
 stack:=envOfC qual scope s.heap.objs.size f cd::outer
 ex:=[]
 calm:=true
 fn:=fun _=>true
 pn:=[]
 xe:=fun e s'=>wpAny (model P w) (A.deeper (envOfC qual scope s.heap.objs.size f cd)) (leaving (envOfC qual scope s.heap.objs.size f cd) e) (fun _ s''=>CX outer H s E e s'') (fun e' s''=>CX outer H s E e' s'') s'
theorem cell_has {sc:Scope}{n:Nat}{x:Str} (h:sc.names.lookup x=some .cell):∃ c,(cellsFrom n sc.names []).lookup x=some c:=by
 have q:=PySem.W.cellsFrom_some sc.names n [] (.inl h)
 exact Option.isSome_iff_exists.mp q
theorem inv_start {CX:CXT}{P:Program}{w:World}{K:PySem.W.Frag}{mg:Str→Option Value}{base:Heap}{N ps:List Str}{qual:Str}{scope:Scope}{f:Addr}{cd:Value}{A:Around}{outer:List Env}{s s1:Shared}{H:Hp}{E:XK}{us:List Value}{vs:List V}
  (S:FnScope N ps scope) (hd:A.handled=none) (e0:Env0 P w K mg base A outer s H) (hl:vs.length=ps.length) (r:Vals vs us)
  (x:InCallC s s.heap.objs.size (bindL (envOfC qual scope s.heap.objs.size f cd).kindOf (ps.zip us) fun _=>none) (cellsFrom (s.heap.objs.size+1) scope.names []) (bindC (envOfC qual scope s.heap.objs.size f cd).kindOf (ps.zip us) fun _=>none) s1) :
  Inv (cxOf CX P w K mg base N qual scope f cd A outer s H E) [] (start N vs) H s1:=by
 have hpl:ps.length≤N.length:=by have:=congrArg List.length S.pre; rw [List.length_take] at this; lia
 obtain⟨h1,tk,rfl,hk⟩:=x.done
 have noA:∀ b:Addr,b ∉ (cxOf CX P w K mg base N qual scope f cd A outer s H E).ex:=fun b z=>absurd (show b∈([]:List Addr) from z) (by simp)
 refine⟨⟨e0.mod,S.kind,rfl,rfl,Nat.le_refl _,fun y z c h1 h2=>?_,fun y hy=>?_,fun y c _ h=>?_,fun _=>hd,Around.frames_deeper e0.frames,.inr ⟨rfl,rfl⟩,fun b z=>absurd z (noA b),e0.bs,e0.bsz,fun b _ _=>noA b,fun b z=>absurd z (noA b),e0.funs,e0.frf⟩,
  rfl,e0.bare,Un.kept hk,⟨_,x.toInCall.ns,fun i y v h1 h2 h3=>?_⟩,fun y c h=>⟨_,x.cell y c h⟩,e0.hok.fresh (Nat.le_refl _),fun y c h=>?_,fun p hp=>absurd (show p∈([]:List (Addr×Obj)) from hp) (by simp),e0.hok.kept hk,?_⟩
 ·exact name_of_addr x.apart (PySem.mem_of_lookup h1) (PySem.mem_of_lookup h2)
 ·have hy:scope.names.lookup y=some .cell∨scope.names.lookup y=some .free:=hy
  rcases hy with hy | hy
  ·exact cell_has hy
  ·exact absurd rfl (S.nofree _ (PySem.mem_of_lookup hy))
 ·exact Nat.le_of_lt (x.above y c (PySem.mem_of_lookup h))
 ·have hi:i<vs.length:=by
   unfold start at h2
   by_cases hi:i<vs.length
   ·exact hi
   ·rw [List.getElem?_append_right (by simpa using hi)] at h2
    rw [List.getElem?_replicate] at h2
    split at h2 <;> cases h2
  have ha:vs[i]?=some v:=by
   unfold start at h2
   rw [List.getElem?_append_left (by simpa using hi),List.getElem?_map] at h2
   cases e:vs[i]? with
   | none=>rw [e] at h2; cases h2
   | some a=>rw [e] at h2; cases h2; rfl
  obtain⟨u,hu,rv⟩:=r.get ha
  have hp:ps[i]?=some y:=by
   rw [← S.pre,List.getElem?_take_of_lt (by lia)]; exact h1
  have ndP:ps.Nodup:=by rw [← S.pre]; exact S.nd.sublist (List.take_sublist _ _)
  refine⟨u,rv,?_⟩
  rcases S.par y (List.mem_of_getElem? hp) with k | k
  ·exact .inl ⟨k,bindL_get ndP hp hu k⟩
  ·obtain⟨c,e⟩:=cell_has (n:=s.heap.objs.size+1) k
   refine .inr ⟨.inl k,c,e,?_⟩
   have q:=x.cell y c e
   rw [bindC_get ndP hp hu (by show scope.names.lookup y≠_; rw [k]; decide)] at q
   exact q
 ·exact e0.hok.fresh (Nat.le_of_lt (x.above y c (PySem.mem_of_lookup h)))
 ·unfold start
  show _=N.length
  rw [List.length_append,List.length_map,List.length_replicate]
  lia
theorem fn_of {CX:CXT}{P:Program}{w:World}{K:PySem.W.Frag}{mg:Str→Option Value}{base:Heap}{k:Nat}{f:Addr}{name qual:Str}{params:Arguments}{body:List Stmt}{scope:Scope}{dV kV doc pm cdv ct oc:Value}{an od:Option Addr}
  {osl:Array (Option Value)}{N ps:List Str}{sp:Sp} (lk:K.lookup f=some ⟨oc,od,.func (PySem.W.fnOf name qual params body scope dV kV doc pm an cdv ct),osl⟩) (hcd:PySem.W.codeIn K cdv qual=true) (S:FnScope N ps scope)
  (len:∀ vs H Q E,sp vs H Q E→vs.length=ps.length)
  (hbody:∀ (A:Around) (outer:List Env) (s:Shared) (H:Hp) (vs:List V) (Q:VK) (E:XK),Room k (A.deeper (envOfC qual scope s.heap.objs.size f cdv))→sp vs H Q E →
   ∃ t,PSs (cxOf CX P w K mg base N qual scope f cdv A outer s H E) body t∧t { nx:=fun _ H'=>Q .non H',rt:=Q } (start N vs) H) :
  FnOk P w K mg base CX (k+1) f (PySem.W.fnOf name qual params body scope dV kV doc pm an cdv ct) ps sp:=by
 refine⟨len,fun A outer s H args us vs Q E hr e0 hb r hsp=>?_⟩
 have hl:=len _ _ _ _ hsp
 have KX:K.In s.heap:=e0.mod.kin.keeps fun b o e=>(e0.bs b o e).1
 have lim:s.heap.NoLimit:=e0.mod.nolimit.keeps fun b o e=>(e0.bs b o e).1
 have hkind:∀ y∈ps.zip us,scope.names.lookup y.1=some .local∨(scope.names.lookup y.1=some .cell∧((cellsFrom (s.heap.objs.size+1) scope.names []).lookup y.1).isSome=true):=fun ⟨n,v⟩ hy=>by
  rcases S.par n (List.of_mem_zip hy).1 with q | q
  ·exact .inl q
  ·exact .inr ⟨q,PySem.W.cellsFrom_some _ _ _ (.inl q)⟩
 refine codeAny_call_function hr.depth (KX _ _ lk) rfl S.co S.gen rfl (PySem.W.codeRec_of KX hcd) (hb _ _ _ _ ?_)
 refine wpAny_newFunctionEnv_cells S.kind hkind fun env he s1 x=>?_
 subst he
 refine⟨lim.keeps x.toInCall.keep,codeAny_func ?_⟩
 obtain⟨t,ht,hq⟩:=hbody A outer s H vs Q E (hr.deeper _) hsp
 have I:Inv (cxOf CX P w K mg base N qual scope f cdv A outer s H E) [] (start N vs) H s1:=inv_start S hr.hd e0 hl r x
 refine wpAny_mono (ht [] s1 (start N vs) H _ I hq) (fun fl s' hs=>?_) fun e s' hs=>hs
 have fin:∀ {σ':St}{H':Hp}{v:V}{u:Value},Inv (cxOf CX P w K mg base N qual scope f cdv A outer s H E) [] σ' H' s'→RelV v u→Q v H'→CE outer P w H s Q u s' :=
  fun {σ' H' v u} J rv q=>⟨v,H',J.os,J.bare,J.base,J.hok,rv,q⟩
 cases fl with
 | ret u =>
  obtain⟨v,σ',H',J,rv,q⟩:=hs
  exact fin J rv q
 | next =>
  obtain⟨σ',H',J,q⟩:=hs
  exact fin (v:=V.non) (u:=Value.none) J rfl q
 | brk =>
  obtain⟨_,_,_,q⟩:=hs
  exact False.elim q
 | cont =>
  obtain⟨_,_,_,q⟩:=hs
  exact False.elim q
end L2
namespace L2
open PySem PySem.Spec PyProof.Rows
section
variable {X:Cx}{x:Str}{p pos:Pos}{e:Expr}{es:List Expr}{t:TA}{id T:String}{r:List V→Hp→VK→Prop}
def tCB (r:List V→Hp→VK→Prop) (t:TA):TE:=fun σ H Q=>t σ H fun vs H1=>r vs H1 Q
theorem pe_callB (hc:CallR X (.builtin id) r) (hg:Gl X x) (hm:X.mg x=none) (hv:bootBuiltins x=some (.builtin id)) (ha:PA X (e::es) t) (hn:x≠"__name__":=by decide) (hdb:(x == ("__debug__":Str))=false:=by decide)
  (he:starEach (e::es) X.env=(false,eval e X.env)::starEach es X.env:=by rfl) (hpl:(backTo pos (starEach es X.env)).any (·.1)=false:=by rfl):PE X (.Call (.Name x p) (e::es) [] pos) (tCB r t):=by
 intro pins s σ H Q I h
 refine wpAny_Call_Name_kw (ld_blt I hg hm hv ?_ hn hdb)
 exact PyProof.Rows.callWith_builtin1 (thn (ha pos pins s σ H _ I h) fun us s1 ⟨vs,H1,I1,r1,q1⟩=>hc pins s1 σ H1 vs us Q I1 r1 q1) he hpl
theorem pe_callTy (hc:CallR X (.type T) r) (hg:Gl X x) (hm:X.mg x=none) (hv:bootBuiltins x=some (.type T)) (ha:PA X (e::es) t) (hn:x≠"__name__":=by decide) (hdb:(x == ("__debug__":Str))=false:=by decide)
  (he:starEach (e::es) X.env=(false,eval e X.env)::starEach es X.env:=by rfl) (hpl:(backTo pos (starEach es X.env)).any (·.1)=false:=by rfl):PE X (.Call (.Name x p) (e::es) [] pos) (tCB r t):=by
 intro pins s σ H Q I h
 refine wpAny_Call_Name_kw (ld_blt I hg hm hv ?_ hn hdb)
 exact PyProof.Rows.callWith_type1 (thn (ha pos pins s σ H _ I h) fun us s1 ⟨vs,H1,I1,r1,q1⟩=>hc pins s1 σ H1 vs us Q I1 r1 q1) he hpl
end
end L2
namespace HT
open PySem PyProof.Rows
section
open PySem.SeqAt
open PySem.AutoSeq1 (wpAny_loadPart')
open PySem.MeetsSeq PySem.MeetsSeq2 PySem.MeetsSeq3
end
section
variable {prog:Program}{w:World}{A:Around}{E:Value→Shared→Prop}{s:Shared}
theorem cat_tup {t b:Addr}{vs ws:List Value}{Q:Value→Shared→Prop} (ht:IsTup s.heap t vs.toArray) (hb:IsTup s.heap b ws.toArray) (hv:vs≠[])
  (h1:ws=[]→Q (.ref t) s) (h2:ws≠[]→Q (.ref s.heap.objs.size) { s with heap:=s.heap.push { cls:=.type "tuple",data:=.seq (vs++ws).toArray } })
  (hsz:vs.length+ws.length≤sizeLine):wpAny (model prog w) A (binaryOp .Add (.ref t) (.ref b)) Q E s:=by
 obtain⟨⟨cls,dd,data,sl⟩,ho,hc,n,hd⟩:=id ht
 obtain⟨⟨cls2,dd2,data2,sl2⟩,ho2,hc2,n2,hd2⟩:=id hb
 simp only at hc hd hc2 hd2
 subst hc hd hc2 hd2
 have e:vs.toArray++ws.toArray=(vs++ws).toArray:=by simp
 by_cases hw:ws=[]
 ·exact concat_meets ⟨_,ho,rfl⟩ ⟨_,ho2,rfl⟩ noFill_tuple_add seq_tuple_add PySem.F.slot_tuple_add PySem.F.entry_tuple_add (PySem.F.args_tuple_add_2 _ _)
   (tuple_addW1 t b vs.toArray ws.toArray n n2 dd dd2 sl sl2 (by simpa using hv) (by simp [hw])) ⟨ho,ho2,h1 hw⟩
 ·refine concat_meets ⟨_,ho,rfl⟩ ⟨_,ho2,rfl⟩ noFill_tuple_add seq_tuple_add PySem.F.slot_tuple_add PySem.F.entry_tuple_add (PySem.F.args_tuple_add_2 _ _)
   (tuple_addW2 t b vs.toArray ws.toArray n n2 dd dd2 sl sl2 (by simpa using hv) (by simpa using hw) (by rw [List.size_toArray,List.size_toArray]; exact hsz)) ⟨ho,ho2,?_⟩
  rw [e]
  exact h2 hw
def sIx (n d:Nat):Option Int→Nat
 | none=>d
 | some v=>if v<0 then (v+(n:Int)).toNat else min v.toNat n
theorem sIx_none (n d:Nat):sIx n d none=d:=rfl
theorem sIx_nat (n d k:Nat):sIx n d (some (k:Int))=min k n:=by
 show (if (k:Int)<0 then ((k:Int)+(n:Int)).toNat else min (k:Int).toNat n)=min k n
 rw [if_neg (by lia),Int.toNat_natCast]
theorem sIx_le (n d:Nat) (hd:d≤n) (o:Option Int):sIx n d o≤n:=by
 cases o with
 | none=>exact hd
 | some v =>
  show (if v<0 then (v+(n:Int)).toNat else min v.toNat n)≤n
  by_cases hv:v<0
  ·rw [if_pos hv]; lia
  ·rw [if_neg hv]; exact Nat.min_le_right _ _
theorem clip_eq (v:Int) (n d:Nat):(if v<0 then max (v+(n:Int)) 0 else min v (n:Int))=((sIx n d (some v):Nat):Int):=by
 show (if v<0 then max (v+(n:Int)) 0 else min v (n:Int))=(((if v<0 then (v+(n:Int)).toNat else min v.toNat n):Nat):Int)
 by_cases hv:v<0
 ·simp only [if_pos hv]; lia
 ·simp only [if_neg hv]; lia
theorem adjust_gen (lo hi:Option Int) (n:Nat):Builtin.Slice.sliceAdjust lo hi 1 (n:Int)=(((sIx n 0 lo:Nat):Int),((sIx n n hi:Nat):Int)):=by
 have h1:¬ ((1:Int)<0):=by lia
 unfold Builtin.Slice.sliceAdjust
 simp only [h1,if_false]
 refine Prod.ext ?_ ?_
 ·cases lo with
  | none=>rfl
  | some v=>exact clip_eq v n 0
 ·cases hi with
  | none=>rfl
  | some v=>exact clip_eq v n n
theorem places_gen (i j:Nat):Builtin.Slice.slicePlaces (i:Int) (j:Int) 1=j - i:=by
 unfold Builtin.Slice.slicePlaces
 have h1:(1:Int) > 0:=by lia
 simp only [h1,if_true,Int.ediv_one]
 split <;> lia
theorem slicePart_ {v:Value}{o:Option Int}{Q:Option Int→Shared→Prop} (p:IsPart v o) (h:Q o s):wpAny (model prog w) A (Builtin.Slice.slicePartIndex v) Q E s:=by
 cases p with
 | none=>exact slicePart_none h
 | int i t=>exact slicePart_int h
theorem sliceApplied_gen {sl:Addr}{vl vu:Value}{lo hi:Option Int}{n:Nat}{Q:Int×Int×Nat→Shared→Prop} (hs:s.heap.IsSliceOf sl vl vu .none) (pl:IsPart vl lo) (pu:IsPart vu hi)
  (h:Q (((sIx n 0 lo:Nat):Int),1,sIx n n hi - sIx n 0 lo) s):wpAny (model prog w) A (Builtin.Slice.sliceApplied (.ref sl) (pure (n:Int))) Q E s:=by
 obtain⟨os,hos,hcs,hds⟩:=id hs
 unfold Builtin.Slice.sliceApplied Builtin.Slice.sliceFields
 refine wpAny_bind (wpAny_bind (wpAny_field hos hds (x:=vl) rfl (wpAny_bind (wpAny_field hos hds (x:=vu) rfl (wpAny_bind (wpAny_field hos hds (x:=.none) rfl (wpAny_pure ?_)))))))
 refine wpAny_bind (slicePart_none ?_)
 show wpAny _ _ (if ((1:Int) == 0)=true then _ else _) _ _ s
 rw [if_neg (by decide)]
 refine wpAny_bind (slicePart_ pl (wpAny_bind (slicePart_ pu (wpAny_bind (wpAny_pure ?_)))))
 show wpAny _ _ (match Builtin.Slice.sliceAdjust lo hi 1 (n:Int) with | (lo,hi)=>pure (lo,(1:Int),Builtin.Slice.slicePlaces lo hi 1)) _ _ s
 rw [adjust_gen lo hi n]
 show wpAny _ _ (pure (((sIx n 0 lo:Nat):Int),(1:Int),Builtin.Slice.slicePlaces ((sIx n 0 lo:Nat):Int) ((sIx n n hi:Nat):Int) 1)) _ _ s
 rw [places_gen]
 exact wpAny_pure h
theorem pick_gen (xs:Array Value) (i k:Nat):((List.range k).filterMap fun (m:Nat)=>xs[((i:Int)+(m:Int) * 1).toNat]?).toArray=((xs.toList.drop i).take k).toArray:=by
 have e:(fun (m:Nat)=>xs[((i:Int)+(m:Int) * 1).toNat]?)=fun m=>xs[i+m]?:=by
  funext m
  have:((i:Int)+(m:Int) * 1).toNat=i+m:=by lia
  rw [this]
 rw [e]
 have:=pick_run xs i k
 rw [List.filterMap_map] at this
 have e2:((fun x=>xs[x]?)∘fun x=>i+x)=fun m=>xs[i+m]?:=rfl
 rw [e2] at this
 rw [this]
theorem getItem_tuple_cut {t sl:Addr}{items:Array Value}{vl vu:Value}{lo hi:Option Int}{Q:Value→Shared→Prop} (ht:IsTup s.heap t items) (hs:s.heap.IsSliceOf sl vl vu .none) (pl:IsPart vl lo) (pu:IsPart vu hi)
  (hw:¬ (sIx items.size 0 lo=0∧sIx items.size items.size hi=items.size))
  (h:Q (.ref s.heap.objs.size) { s with heap:=s.heap.push { cls:=.type "tuple",data:=.seq ((items.toList.drop (sIx items.size 0 lo)).take (sIx items.size items.size hi - sIx items.size 0 lo)).toArray } })
  (hsz:items.size≤sizeLine):wpAny (model prog w) A (getItem (.ref t) (.ref sl)) Q E s:=by
 have htake:sizeOk (.seq ((items.toList.drop (sIx items.size 0 lo)).take (sIx items.size items.size hi - sIx items.size 0 lo)).toArray):=by
  show ((items.toList.drop (sIx items.size 0 lo)).take (sIx items.size items.size hi - sIx items.size 0 lo)).toArray.size≤sizeLine
  rw [List.size_toArray,List.length_take,List.length_drop,Array.length_toList]
  lia
 have hj:sIx items.size items.size hi≤items.size:=sIx_le _ _ (Nat.le_refl _) hi
 obtain⟨os,hos,hcs,hds⟩:=id hs
 have hTs:s.TypeIs (.ref sl) "slice":=⟨os,hos,hcs⟩
 unfold getItem
 try with_reducible refine wpAny_holding ?_
 first | refine wpAny_bind (wpAny_pure ?_) | skip
 refine wpAny_bind (wpAny_sequenceKey ht.typeIs (by decide) ?_)
 refine wpAny_bind (wpAny_callSpecial?_slot (name:=Str.ofString "__getitem__") ht.typeIs PyProof.Rows.slot_tuple_getitem
  (wpAny_call_entry PyProof.Rows.slot_tuple_getitem ht.typeIs entry_tuple_getitem ?_ (args_tuple_getitem _ _)))
 show wpAny _ _ (Builtin.Tuple.tupleItemsOf (.ref t) >>= _) _ _ s
 refine wpAny_bind (tupleItemsOf_ ht ?_)
 refine wpAny_bind (wpAny_typeOf hTs ?_)
 rw [if_pos (by decide)]
 refine wpAny_bind (sliceApplied_gen hs pl pu ?_)
 have hno:¬ ((((sIx items.size 0 lo:Nat):Int) == 0 && (1:Int) == 1 && (sIx items.size items.size hi - sIx items.size 0 lo) == items.size)=true):=by
  intro q
  rw [Bool.and_eq_true,Bool.and_eq_true] at q
  have q1:((sIx items.size 0 lo:Nat):Int)=0:=eq_of_beq q.1.1
  have q2:sIx items.size items.size hi - sIx items.size 0 lo=items.size:=eq_of_beq q.2
  exact hw ⟨by lia,by lia⟩
 show wpAny _ _ (if (((sIx items.size 0 lo:Nat):Int) == 0 && (1:Int) == 1 && (sIx items.size items.size hi - sIx items.size 0 lo) == items.size)=true then _ else _) _ _ s
 rw [if_neg hno,pick_gen]
 first
  | exact wpAny_bind (m:=Builtin.Tuple.tupleExact _) (wpAny_newObj_type (wpAny_pure ⟨_,rfl,wpAny_pure h⟩) htake)
  | exact wpAny_bind (m:=Builtin.Tuple.tupleExact _) (wpAny_newObj_type (wpAny_bind (wpAny_pure (wpAny_pure ⟨_,rfl,wpAny_pure h⟩))) htake)
  | exact wpAny_bind (wpAny_bind (m:=Builtin.Tuple.tupleExact _) (wpAny_newObj_type (wpAny_pure (wpAny_pure ⟨_,rfl,wpAny_pure h⟩)) htake))
  | exact wpAny_bind (wpAny_bind (m:=Builtin.Tuple.tupleExact _) (wpAny_newObj_type (wpAny_pure ⟨_,rfl,wpAny_pure h⟩) htake))
end
end HT
namespace L2
open PySem PySem.Spec PyProof.Rows
abbrev TO:=St→Hp→(Option Int→Hp→Prop)→Prop
def PO (X:Cx) (e:Option Expr) (t:TO):Prop :=
 ∀ (pins:List (Addr×Obj)) (s:Shared) (σ:St) (H:Hp) (Q:Option Int→Hp→Prop),Inv X pins σ H s→t σ H Q →
  wpAny (model X.prog X.w) X.A (evalPart e X.env) (fun u s'=>∃ o H',Inv X pins σ H' s'∧IsPart u o∧Q o H') X.xe s
def tNoPart:TO:=fun _ H Q=>Q none H
def tPart (t:TE):TO:=fun σ H Q=>t σ H fun x H1=>∃ i,x=.int i∧Q (some i) H1
theorem intsAre_of {ns:List Int}:∀ {us:List Value},Vals (ns.map V.int) us→IntsAre us ns:=by
 induction ns with
 | nil=>intro us r; rw [List.map_nil] at r; cases r; exact .nil
 | cons n ns ih =>
  intro us r
  rw [List.map_cons] at r
  cases r with
  | cons r1 r2 =>
   obtain⟨t,e⟩:=r1
   subst e
   exact .cons n t (ih r2)
section
variable {X:Cx}{e:Expr}{te:TE}{lo hi:Option Expr}{tl th:TO}{pos p2:Pos}
theorem po_none:PO X none tNoPart:=by
 intro pins s σ H Q I h
 rw [evalPart_none]
 exact wpAny_pure ⟨none,H,I,.none,h⟩
theorem po_some (h:PE X e te):PO X (some e) (tPart te):=by
 intro pins s σ H Q I hw
 rw [evalPart_some]
 refine thn (h pins s σ H _ I hw) fun u s1 ⟨x,H1,I1,r1,q1⟩=>?_
 obtain⟨i,rfl,q⟩:=q1
 obtain⟨t,rfl⟩:=r1
 exact⟨some i,H1,I1,.int i t,q⟩
def SlR (X:Cx) (r:V→Option Int→Option Int→Hp→VK→Prop):Prop :=
 ∀ (pins:List (Addr×Obj)) (s:Shared) (σ:St) (H:Hp) (x:V) (v vl vu:Value) (lo hi:Option Int) (sl:Addr) (Q:VK),Inv X pins σ H s→RelV x v→s.heap.IsSliceOf sl vl vu .none→IsPart vl lo→IsPart vu hi→r x lo hi H Q →
  ∃ T id,typeLookup (.type T) "__getitem__"=pure (some (.builtin id))∧s.TypeIs v T∧wpAny (model X.prog X.w) X.A (getItem v (.ref sl)) (EP X pins σ Q) X.xe s
def tSl (r:V→Option Int→Option Int→Hp→VK→Prop) (te:TE) (tl th:TO):TE:=fun σ H Q=>te σ H fun x H1=>tl σ H1 fun l H2=>th σ H2 fun u H3=>r x l u H3 Q
theorem pe_slice {r:V→Option Int→Option Int→Hp→VK→Prop} (hr:SlR X r) (he:PE X e te) (hl:PO X lo tl) (hu:PO X hi th):PE X (.Subscript e (.Slice lo hi none p2) pos) (tSl r te tl th):=by
 intro pins s σ H Q I h
 refine Subscript_ (thn (he pins s σ H _ I h) fun v s1 ⟨x,H1,I1,r1,q1⟩=>?_)
 refine wpAny_Slice (thn (hl pins s1 σ H1 _ I1 q1) fun vl s2 ⟨l,H2,I2,pl,q2⟩=>thn (hu pins s2 σ H2 _ I2 q2) fun vu s3 ⟨u,H3,I3,pu,q3⟩=>?_)
 rw [evalPart_none]
 refine wpAny_pure ?_
 have I4:Inv X pins σ H3 { s3 with heap:=s3.heap.push { cls:=.type "slice",data:=.fields #[vl,vu,.none] } }:=I3.kept (t':=s3.toks) fun b ob q=>Heap.get?_push_of_some _ q
 obtain⟨T,id,hT,ht,hg⟩:=hr pins { s3 with heap:=s3.heap.push { cls:=.type "slice",data:=.fields #[vl,vu,.none] } } σ H3 x v vl vu l u s3.heap.objs.size Q I4 r1 (Heap.IsSliceOf.new ..) pl pu q3
 show wpAny (model X.prog X.w) X.A (subscriptTail e (.Slice lo hi none p2) v (.ref s3.heap.objs.size)) (EP X pins σ Q) X.xe { s3 with heap:=s3.heap.push { cls:=.type "slice",data:=.fields #[vl,vu,.none] } }
 exact tail_any (ops:=[.ref s3.heap.objs.size,v]) ht hT hg (by with_unfolding_all rfl)
def cutV (xs:List V) (lo hi:Option Int):List V:=(xs.drop (HT.sIx xs.length 0 lo)).take (HT.sIx xs.length xs.length hi - HT.sIx xs.length 0 lo)
theorem cutV_length (xs:List V) (lo hi:Option Int):(cutV xs lo hi).length≤xs.length:=by
 unfold cutV
 rw [List.length_take,List.length_drop]
 lia
def rSlT (K:PySem.W.Frag):V→Option Int→Option Int→Hp→VK→Prop:=fun x lo hi H Q=>∃ a xs,x=.ref a∧SqT K H a xs ∧
 ¬ (HT.sIx xs.length 0 lo=0∧HT.sIx xs.length xs.length hi=xs.length)∧∀ p,H p=none→Q (.ref p) (upd H p (.tup (cutV xs lo hi)))
theorem sl_tup:SlR X (rSlT X.K):=by
 intro pins s σ H x v vl vu lo hi sl Q I rx hs pl pu h
 obtain⟨a,xs,rfl,hx,hw,q⟩:=h
 cases rx
 obtain⟨its,r,ht,hz⟩:=I.tuple hx
 have hlen:its.toArray.size=xs.length:=by rw [List.size_toArray]; exact r.length.symm
 refine⟨"tuple",_,PyProof.Rows.slot_tuple_getitem.lookup,ht.typeIs,?_⟩
 refine HT.getItem_tuple_cut ht hs pl pu (by rw [hlen]; exact hw) ?_ (by rw [hlen]; exact hz)
 rw [hlen]
 refine⟨.ref s.heap.objs.size,_,I.laid (t':=s.toks) (o:=.tup (cutV xs lo hi)) (fun b ob q=>Heap.get?_push_of_some _ q) (Nat.le_refl _) ?_,rfl,q _ (I.hok.fresh (Nat.le_refl _))⟩
 exact⟨Nat.le_trans (cutV_length xs lo hi) hz,_,(r.drop (HT.sIx xs.length 0 lo)).take (HT.sIx xs.length xs.length hi - HT.sIx xs.length 0 lo),IsTup.new _ _⟩
def rCatT (K:PySem.W.Frag):R2:=fun x y H Q=>∃ a b xs ys,x=.ref a∧y=.ref b∧SqT K H a xs∧SqT K H b ys∧xs≠[]∧xs.length+ys.length≤sizeLine ∧
 (ys=[]→Q (.ref a) H)∧(ys≠[]→∀ p,H p=none→Q (.ref p) (upd H p (.tup (xs++ys))))
theorem Vals.nil_iff {xs:List V}{us:List Value} (r:Vals xs us):us=[]↔xs=[]:=by
 cases r with
 | nil=>simp
 | cons _ _=>simp
theorem op_catT:OpR X (binaryOp .Add) (rCatT X.K):=by
 intro pins s σ H x y v u Q I rx ry h
 obtain⟨a,b,xs,ys,rfl,rfl,ha,hb,hx,hz,q1,q2⟩:=h
 cases rx
 cases ry
 obtain⟨its,r1,p1,_⟩:=I.tuple ha
 obtain⟨its2,r2,p2,_⟩:=I.tuple hb
 refine HT.cat_tup p1 p2 (fun z=>hx (r1.nil_iff.mp z)) (fun z=>⟨.ref a,H,I,rfl,q1 (r2.nil_iff.mp z)⟩) (fun z=>?_) (by rw [← r1.length,← r2.length]; exact hz)
 refine⟨.ref s.heap.objs.size,_,I.laid (t':=s.toks) (o:=.tup (xs++ys)) (fun b ob q=>Heap.get?_push_of_some _ q) (Nat.le_refl _) ?_,rfl,q2 (fun w=>z (r2.nil_iff.mpr w)) _ (I.hok.fresh (Nat.le_refl _))⟩
 exact⟨by rw [List.length_append]; exact hz,_,r1.append r2,IsTup.new _ _⟩
end
end L2
namespace L2
open PySem PySem.Spec PyProof.Rows
def ixN (n:Nat) (i:Int):Option Nat:=if 0≤i then (if i<n then some i.toNat else none) else if -(n:Int)≤i then some (i+n).toNat else none
def atI {α:Type} (xs:List α) (i:Int):Option α:=(ixN xs.length i).bind fun j=>xs[j]?
theorem ixN_seq {n:Nat}{i:Int}{j:Nat} (h:ixN n i=some j):seqIndex? i n=some j∧j<n∧-(n:Int)≤i∧i<n:=by
 unfold ixN at h
 by_cases h0:0≤i
 ·rw [if_pos h0] at h
  by_cases h1:i<n
  ·rw [if_pos h1] at h
   have e:i.toNat=j:=Option.some.inj h
   exact⟨by rw [seqIndex_of h0 h1,e],by lia,by lia,h1⟩
  ·rw [if_neg h1] at h; cases h
 ·rw [if_neg h0] at h
  by_cases h1:-(n:Int)≤i
  ·rw [if_pos h1] at h
   have e:(i+n).toNat=j:=Option.some.inj h
   exact⟨by rw [seqIndex_neg (by lia) h1,e],by lia,h1,by lia⟩
  ·rw [if_neg h1] at h; cases h
theorem atI_get {α:Type}{xs:List α}{i:Int}{v:α} (h:atI xs i=some v):∃ j,seqIndex? i xs.length=some j∧xs[j]?=some v∧j<xs.length∧-(xs.length:Int)≤i∧i<xs.length:=by
 unfold atI at h
 cases e:ixN xs.length i with
 | none=>rw [e] at h; cases h
 | some j =>
  rw [e] at h
  obtain⟨h1,h2,h3,h4⟩:=ixN_seq e
  exact⟨j,h1,h,h2,h3,h4⟩
theorem atI_nat {α:Type}{xs:List α}{j:Nat}{v:α} (h:xs[j]?=some v):atI xs (j:Int)=some v:=by
 have hj:j<xs.length:=(List.getElem?_eq_some_iff.mp h).1
 have e:ixN xs.length (j:Int)=some j:=by
  unfold ixN
  rw [if_pos (by lia),if_pos (by lia)]; simp
 unfold atI; rw [e]; exact h
def PlainIx (b:Expr):Prop:=∀ o i,subscripted b false o i=operate [o,i] (getItem o i)
def IxR (X:Cx) (r:R2):Prop :=
 ∀ (value slice:Expr) (pins:List (Addr×Obj)) (s:Shared) (σ:St) (H:Hp) (x y:V) (v u:Value) (Q:VK),Inv X pins σ H s→RelV x v→RelV y u→r x y H Q →
  subscripted slice false v u=operate [v,u] (getItem v u)→wpAny (model X.prog X.w) X.A (subscriptTail value slice v u) (EP X pins σ Q) X.xe s
def MtR (X:Cx) (id:String) (r:V→List V→Hp→VK→Prop):Prop :=
 ∀ (pins:List (Addr×Obj)) (s:Shared) (σ:St) (H:Hp) (x:V) (xs:List V) (v:Value) (us:List Value) (Q:VK),Inv X pins σ H s→RelV x v→Vals xs us→r x xs H Q →
  wpAny (model X.prog X.w) X.A (call (.builtin id) (v::us)) (EP X pins σ Q) X.xe s
section
variable {X:Cx}{a b:Expr}{ta tb:TE}{pos:Pos}
theorem pe_ix {r:R2} (hr:IxR X r) (ha:PE X a ta) (hb:PE X b tb) (hs:PlainIx b):PE X (.Subscript a b pos) (tOp r ta tb):=by
 intro pins s σ H Q I h
 exact Subscript_ (binT ha hb I h fun v u s2 x y H2 I2 rx ry q=>hr a b pins s2 σ H2 x y v u Q I2 rx ry q (hs _ _))
def rIxL (K:PySem.W.Frag):R2:=fun x y H Q=>∃ p xs i v,x=.ref p∧y=.int i∧SqL K H p xs∧atI xs i=some v∧Q v H
def rIxT (K:PySem.W.Frag):R2:=fun x y H Q=>∃ p xs i v,x=.ref p∧y=.int i∧SqT K H p xs∧atI xs i=some v∧Q v H
theorem ix_list:IxR X (rIxL X.K):=by
 intro value slice pins s σ H x y v u Q I rx ry h hs
 obtain⟨p,xs,i,z,rfl,rfl,hq,he,q⟩:=h
 cases rx
 obtain⟨t,rfl⟩:=ry
 obtain⟨its,r,pl,hz⟩:=I.list hq
 obtain⟨j,h1,h2,h3,h4,h5⟩:=atI_get he
 obtain⟨w,ew,rw'⟩:=r.get h2
 have hl:=r.length
 have hn:=line63
 have fin:EP X pins σ Q w s:=⟨z,H,I,rw',q⟩
 by_cases h0:0≤i
 ·have hj:i.toNat=j:=by
   rw [seqIndex_of h0 h5] at h1
   exact Option.some.inj h1
  exact item_listR pl.isList h0 (by lia) (by rw [hj]; simpa using ew) fin hs
 ·have hj:(i+(its.toArray.size:Int)).toNat=j:=by
   rw [seqIndex_neg (by lia) h4] at h1
   rw [List.size_toArray,← hl]
   exact Option.some.inj h1
  exact subscriptTail_builtinR (x:=w) pl.isList.typeIs slot_list_getitem.lookup
   (wpAny_getItem_list_neg (Q:=fun r s'=>r=w∧EP X pins σ Q r s') pl.isList (by lia) (by rw [List.size_toArray] <;> lia) (by lia) (by rw [hj]; simpa using ew) ⟨rfl,fin⟩) hs
theorem ix_tup:IxR X (rIxT X.K):=by
 intro value slice pins s σ H x y v u Q I rx ry h hs
 obtain⟨p,xs,i,z,rfl,rfl,hq,he,q⟩:=h
 cases rx
 obtain⟨t,rfl⟩:=ry
 obtain⟨its,r,pl,hz⟩:=I.tuple hq
 obtain⟨j,h1,h2,h3,h4,h5⟩:=atI_get he
 obtain⟨w,ew,rw'⟩:=r.get h2
 have hl:=r.length
 have hn:=line63
 have fin:EP X pins σ Q w s:=⟨z,H,I,rw',q⟩
 exact subscriptTail_builtinR (x:=w) pl.typeIs slot_tuple_getitem.lookup
  (getItem_tuple (j:=j) (Q:=fun r s'=>r=w∧EP X pins σ Q r s') pl (by lia) (by lia) (by rw [List.size_toArray,← hl]; exact h1) (by simpa using ew) ⟨rfl,fin⟩) hs
theorem mapSeq_set (its:List Value) (n j:Nat) (u:Value):Obj.mapSeq (·.setIfInBounds j u) { cls:=.type "list",data:=.seq its.toArray n }={ cls:=.type "list",data:=.seq (its.set j u).toArray n }:=by
 simp [Obj.mapSeq]
theorem Inv.lst {pins:List (Addr×Obj)}{σ:St}{H:Hp}{s:Shared}{p:Addr}{xs:List V} (I:Inv X pins σ H s) (h:H p=some (.lst xs)) :
  ∃ (its:List Value) (n:Nat),Vals xs its∧s.heap.get? p=some { cls:=.type "list",data:=.seq its.toArray n }∧xs.length≤sizeLine:=by
 obtain⟨z,its,n,r,e⟩:=I.hok p _ h
 exact⟨its,n,r,e,z⟩
theorem Inv.lstUpd {pins:List (Addr×Obj)}{σ:St}{H:Hp}{s:Shared}{p:Addr}{xs ys:List V}{its its':List Value}{n n':Nat}{f:Obj→Obj} (I:Inv X pins σ H s) (h:H p=some (.lst xs))
  (ho:s.heap.get? p=some { cls:=.type "list",data:=.seq its.toArray n }) (hf:f { cls:=.type "list",data:=.seq its.toArray n }={ cls:=.type "list",data:=.seq its'.toArray n' }) (r:Vals ys its') (hz:ys.length≤sizeLine) (t:Nat) :
  Inv X pins σ (upd H p (.lst ys)) { s with heap:=s.heap.update p f,toks:=t }:=by
 have e:(s.heap.update p f).get? p=some { cls:=.type "list",data:=.seq its'.toArray n' }:=by
  rw [Heap.get?_update_self f ho (by rw [hf] <;> rfl),hf]
 refine I.write (x:=p) (e:=p) (by rw [h]; trivial) (.inl rfl) (fun b u hb q=>(Heap.get?_update_other _ _ (Ne.symm hb)).trans q) ⟨_,e⟩ ?_
 exact⟨hz,its',n',r,e⟩
def rSetL:V→V→V→Hp→(Hp→Prop)→Prop:=fun o i v H Q=>∃ p xs k j,o=.ref p∧i=.int k∧H p=some (.lst xs)∧ixN xs.length k=some j∧Q (upd H p (.lst (xs.set j v)))
theorem set_list:PSet X rSetL:=by
 intro pins s σ H o i v ov iv u Q I ro ri rv h
 obtain⟨p,xs,k,j,rfl,rfl,hp,hj,q⟩:=h
 cases ro
 obtain⟨t,rfl⟩:=ri
 obtain⟨its,n,r,ho,hz⟩:=I.lst hp
 obtain⟨h1,h2,h3,h4⟩:=ixN_seq hj
 have hl:=r.length
 have hn:=line63
 have I':Inv X pins σ (upd H p (.lst (xs.set j v))) { s with heap:=s.heap.update p (Obj.mapSeq (·.setIfInBounds j u)) } :=
  I.lstUpd hp ho (mapSeq_set its n j u) (r.set rv j) (by rw [List.length_set]; exact hz) s.toks
 by_cases h0:0≤k
 ·have hk:k.toNat=j:=by
   rw [seqIndex_of h0 h4] at h1
   exact Option.some.inj h1
  exact PySem.W.ki_setAt ho h0 (by lia) (by rw [List.size_toArray,← hl]; exact h4) (by rw [hk]; exact⟨_,I',q⟩)
 ·have hk:(k+(its.toArray.size:Int)).toNat=j:=by
   rw [seqIndex_neg (by lia) h3] at h1
   rw [List.size_toArray,← hl]
   exact Option.some.inj h1
  exact PySem.W.ki_setBack ho (by lia) (by rw [List.size_toArray,← hl]; exact h3) (by lia) (by rw [hk]; exact⟨_,I',q⟩)
theorem slice_bounds (lo hi:Option Int) (n:Nat):(sliceBounds lo hi none n).1=((HT.sIx n 0 lo:Nat):Int)∧(sliceBounds lo hi none n).2.1=((HT.sIx n n hi:Nat):Int)∧(sliceBounds lo hi none n).2.2=1:=by
 refine⟨?_,?_,rfl⟩
 ·cases lo with
  | none=>simp [sliceBounds,HT.sIx]
  | some i =>
   simp only [sliceBounds,HT.sIx,Option.getD_none,show (1:Int) > 0 by decide,if_true]
   by_cases h:i<0
   ·simp only [h,if_true] <;> lia
   ·simp only [h,if_false] <;> lia
 ·cases hi with
  | none=>simp [sliceBounds,HT.sIx]
  | some i =>
   simp only [sliceBounds,HT.sIx,Option.getD_none,show (1:Int) > 0 by decide,if_true]
   by_cases h:i<0
   ·simp only [h,if_true] <;> lia
   ·simp only [h,if_false] <;> lia
theorem slicePick_cut (its:List Value) (lo hi:Option Int):slicePick its.toArray lo hi none=((its.drop (HT.sIx its.length 0 lo)).take (HT.sIx its.length its.length hi - HT.sIx its.length 0 lo)).toArray:=by
 obtain⟨h1,h2,h3⟩:=slice_bounds lo hi its.toArray.size
 unfold slicePick
 rw [h1,h2,h3]
 simp only [sliceRange_one,pick_run,List.size_toArray] <;> rfl
def rSlL (K:PySem.W.Frag):V→Option Int→Option Int→Hp→VK→Prop:=fun x lo hi H Q=>∃ a xs,x=.ref a∧SqL K H a xs∧∀ p,H p=none→Q (.ref p) (upd H p (.lst (cutV xs lo hi)))
theorem sl_list:SlR X (rSlL X.K):=by
 intro pins s σ H x v vl vu lo hi sl Q I rx hs pl pu h
 obtain⟨a,xs,rfl,hx,q⟩:=h
 cases rx
 obtain⟨its,r,ht,hz⟩:=I.list hx
 have hlen:=r.length
 refine⟨"list",_,slot_list_getitem.lookup,ht.isList.typeIs,?_⟩
 refine wpAny_getItem_list_slice ht.isList hs pl pu .none (by simp) ?_ (by rw [List.size_toArray] <;> lia)
 rw [slicePick_cut,← hlen]
 refine⟨.ref s.heap.objs.size,_,I.laid (t':=s.toks) (o:=.lst (cutV xs lo hi)) (fun b ob q=>Heap.get?_push_of_some _ q) (Nat.le_refl _) ?_,rfl,q _ (I.hok.fresh (Nat.le_refl _))⟩
 exact⟨Nat.le_trans (cutV_length xs lo hi) hz,_,0,(r.drop (HT.sIx xs.length 0 lo)).take (HT.sIx xs.length xs.length hi - HT.sIx xs.length 0 lo),Heap.get?_push_size _ rfl⟩
def flatV:V→Bool
 | .non=>true
 | .bl _=>true
 | .int _=>true
 | .str _=>true
 | _=>false
def eqV:V→V→Bool
 | .non,.non=>true
 | .bl a,.bl b=>a == b
 | .bl a,.int b=>(if a then 1 else 0) == b
 | .int a,.bl b=>a == (if b then 1 else 0)
 | .int a,.int b=>a == b
 | .str a,.str b=>a == b
 | _,_=>false
theorem eqAt_V {A:Around}{s:Shared}{y x:V}{u v:Value} (ry:RelV y u) (rx:RelV x v) (fy:flatV y=true) (fx:flatV x=true):SeqAt.EqAt A s u v (eqV y x):=by
 cases y with
 | non =>
  cases ry
  cases x with
  | non=>cases rx; exact SeqAt.EqAt.same _
  | bl b=>cases rx; exact SeqAt.EqAt.none_bool b
  | int b=>obtain⟨t,rfl⟩:=rx; exact SeqAt.EqAt.none_int b t
  | str b=>obtain⟨t,rfl⟩:=rx; exact SeqAt.EqAt.none_str b t
  | _=>exact absurd (show false=true from fx) Bool.false_ne_true
 | bl a =>
  cases ry
  cases x with
  | non=>cases rx; exact SeqAt.EqAt.bool_none a
  | bl b=>cases rx; exact SeqAt.EqAt.bool_bool a b
  | int b=>obtain⟨t,rfl⟩:=rx; exact SeqAt.EqAt.bool_int a b t
  | str b=>obtain⟨t,rfl⟩:=rx; exact SeqAt.EqAt.bool_str a b t
  | _=>exact absurd (show false=true from fx) Bool.false_ne_true
 | int a =>
  obtain⟨t',rfl⟩:=ry
  cases x with
  | non=>cases rx; exact SeqAt.EqAt.int_none a t'
  | bl b=>cases rx; exact SeqAt.EqAt.int_bool a t' b
  | int b=>obtain⟨t,rfl⟩:=rx; exact SeqAt.EqAt.int_int a t' b t
  | str b=>obtain⟨t,rfl⟩:=rx; exact SeqAt.EqAt.int_str a t' b t
  | _=>exact absurd (show false=true from fx) Bool.false_ne_true
 | str a =>
  obtain⟨t',rfl⟩:=ry
  cases x with
  | non=>cases rx; exact SeqAt.EqAt.str_none a t'
  | bl b=>cases rx; exact SeqAt.EqAt.str_bool a t' b
  | int b=>obtain⟨t,rfl⟩:=rx; exact SeqAt.EqAt.str_int a t' b t
  | str b=>obtain⟨t,rfl⟩:=rx; exact SeqAt.EqAt.str_str a t' b t
  | _=>exact absurd (show false=true from fx) Bool.false_ne_true
 | _=>exact absurd (show false=true from fy) Bool.false_ne_true
def eqU (x:V) (u:Value):Bool:=match u with
 | .none=>eqV .non x
 | .bool b=>eqV (.bl b) x
 | .int i _=>eqV (.int i) x
 | .str z _=>eqV (.str z) x
 | _=>false
theorem eqU_of {x y:V}{u:Value} (r:RelV y u) (f:flatV y=true):eqU x u=eqV y x:=by
 cases y with
 | non=>cases r; rfl
 | bl b=>cases r; rfl
 | int i=>obtain⟨t,rfl⟩:=r; rfl
 | str z=>obtain⟨t,rfl⟩:=r; rfl
 | _=>exact absurd (show false=true from f) Bool.false_ne_true
theorem mem_eqAt {A:Around}{s:Shared}{x:V}{v:Value} (rx:RelV x v) (fx:flatV x=true):∀ {xs:List V}{us:List Value},Vals xs us→xs.all flatV=true→∀ u∈us,SeqAt.EqAt A s u v (eqU x u)
 | _,_,.nil,_=>fun u hu=>by cases hu
 | y::xs,u::us,.cons r t,f=>fun u' hu=>by
  rw [List.all_cons,Bool.and_eq_true] at f
  rcases List.mem_cons.mp hu with rfl | hu
  ·rw [eqU_of r f.1]; exact eqAt_V r rx f.1 fx
  ·exact mem_eqAt rx fx t f.2 u' hu
theorem call_len_seq:CallR X (.builtin "len") (fun xs H Q=>∃ p ys,xs=[.ref p]∧(SqL X.K H p ys∨SqT X.K H p ys)∧Q (.int ys.length) H):=by
 intro pins s σ H xs us Q I r h
 obtain⟨p,ys,rfl,hq,q⟩:=h
 obtain⟨u,rfl,rx⟩:=vals1 r
 cases rx
 have hn:=line63
 rcases hq with hq | hq
 ·obtain⟨its,r',pl,hz⟩:=I.list hq
  have hlen:=r'.length
  exact Calls.call_len_list pl.isList (by simp only [List.size_toArray] <;> lia) ⟨.int ys.length,H,I.tok _,⟨s.toks+1,by rw [List.size_toArray,hlen]⟩,q⟩
 ·obtain⟨its,r',pl,hz⟩:=I.tuple hq
  have hlen:=r'.length
  exact len_tuple pl (by simp only [List.size_toArray] <;> lia) ⟨.int ys.length,H,I.tok _,⟨s.toks+1,by rw [List.size_toArray,hlen]⟩,q⟩
theorem call_tuple_of:CallR X (.type "tuple") (fun xs H Q=>∃ p ys,xs=[.ref p]∧((SqL X.K H p ys∧∀ l,H l=none→Q (.ref l) (upd H l (.tup ys)))∨(SqT X.K H p ys∧Q (.ref p) H))):=by
 intro pins s σ H xs us Q I r h
 obtain⟨p,ys,rfl,h⟩:=h
 obtain⟨u,rfl,rx⟩:=vals1 r
 cases rx
 rcases h with⟨hq,q⟩ | ⟨hq,q⟩
 ·obtain⟨its,r',pl,hz⟩:=I.list hq
  have hlen:=r'.length
  refine call_tuple_list pl.isList (fun h' kp=>?_) (by simp only [List.size_toArray] <;> lia)
  have I1:Inv X pins σ H { s with heap:=h' }:=I.kept (t':=s.toks) kp
  have I2:Inv X pins σ (upd H h'.objs.size (.tup ys)) { s with heap:=h'.push { cls:=.type "tuple",data:=.seq its.toArray } } :=
   I1.laid (t':=s.toks) (fun b o e=>Heap.get?_push_of_some _ e) (Nat.le_refl _) (show ObjOk X.prog X.w _ _ _ (.tup ys) from ⟨hz,its,r',IsTup.new _ _⟩)
  exact⟨.ref h'.objs.size,_,I2,rfl,q _ (I1.hok.fresh (Nat.le_refl _))⟩
 ·obtain⟨its,r',pl,hz⟩:=I.tuple hq
  exact call_tuple_same pl ⟨.ref p,H,I,rfl,q⟩
def tyV (K:PySem.W.Frag) (T:String) (x:V) (H:Hp):Prop:=match x with
 | .str _=>T="str"
 | .int _=>T="int"
 | .ref p=>(T="list"∧∃ xs,SqL K H p xs)∨(T="tuple"∧∃ o,K.lookup p=some o∧o.cls=.type "tuple"∧o.dict=none) ∨
   (T="dict"∧((∃ kvs,H p=some (.dK kvs))∨∃ kvs,H p=some (.dT kvs)))∨(T="set"∧∃ S n,H p=some (.set S n))
 | _=>False
theorem tyV_is {pins:List (Addr×Obj)}{σ:St}{H:Hp}{s:Shared}{T:String}{x:V}{v:Value} (I:Inv X pins σ H s) (r:RelV x v) (ty:tyV X.K T x H) :
  s.TypeIs v T∧∀ a,v=.ref a→∃ ob,s.heap.get? a=some ob∧ob.dict=none:=by
 cases x with
 | str z =>
  obtain⟨t,rfl⟩:=r
  cases (show T="str" from ty)
  exact⟨typeIs_str s z t,fun _ e=>nomatch e⟩
 | int i =>
  obtain⟨t,rfl⟩:=r
  cases (show T="int" from ty)
  exact⟨typeIs_int s i t,fun _ e=>nomatch e⟩
 | ref p =>
  cases r
  rcases ty with⟨rfl,xs,hq⟩ | ⟨rfl,o,hk,hc,hd⟩ | ⟨rfl,hk⟩ | ⟨rfl,S,n,hk⟩
  ·obtain⟨its,_,pl,_⟩:=I.list hq
   refine⟨pl.isList.typeIs,fun a e=>?_⟩
   cases e
   obtain⟨o,n,e,c,hd,_⟩:=pl
   exact⟨o,e,hd⟩
  ·refine⟨⟨o,I.kIn p o hk,hc⟩,fun a e=>?_⟩
   cases e
   exact⟨o,I.kIn _ o hk,hd⟩
  ·have z:∃ o,s.heap.get? p=some o∧o.ExactDict:=by
    rcases hk with⟨kvs,hk⟩ | ⟨kvs,hk⟩
    ·obtain⟨_,_,_,_,o,_,_,e,ex,_⟩:=I.hok p _ hk
     exact⟨o,e,ex⟩
    ·obtain⟨_,_,_,_,o,_,_,e,ex,_⟩:=I.hok p _ hk
     exact⟨o,e,ex⟩
   obtain⟨o,e,ex⟩:=z
   refine⟨⟨o,e,ex.1⟩,fun a e2=>?_⟩
   cases e2
   exact⟨o,e,ex.2.1⟩
  ·obtain⟨o,_,_,_,e,ex,_⟩:=I.hok p _ hk
   refine⟨⟨o,e,ex.1⟩,fun a e2=>?_⟩
   cases e2
   exact⟨o,e,ex.2.1⟩
 | _=>exact False.elim ty
def tBM0 (K:PySem.W.Frag) (T:String) (r:V→List V→Hp→VK→Prop) (to:TE):TE:=fun σ H Q=>to σ H fun x H1=>tyV K T x H1∧r x [] H1 Q
def tBM (K:PySem.W.Frag) (T:String) (r:V→List V→Hp→VK→Prop) (to:TE) (t:TA):TE:=fun σ H Q=>to σ H fun x H1=>tyV K T x H1∧t σ H1 fun xs H2=>r x xs H2 Q
variable {o e:Expr}{es:List Expr}{to:TE}{t:TA}{name:Str}{apos cpos:Pos}{T id:String}{r:V→List V→Hp→VK→Prop}
theorem pe_bm0 (pa:PlainAttrs T) (slot:Slot T name id) (hty:typeOf (.builtin id)=pure (.type "method_descriptor")) (hm:MtR X id r) (ho:PE X o to)
  (hbase:attributeBase o name X.env (eval o X.env)=eval o X.env:=by rfl) (hline:(apos.endLine == cpos.line)=true:=by rfl):PE X (.Call (.Attribute o name apos) [] [] cpos) (tBM0 X.K T r to):=by
 intro pins s σ H Q I h
 refine wpAny_Call_method0_late hbase hline (thn (ho pins s σ H _ I h) fun v s1 ⟨x,H1,I1,r1,ty,q1⟩=>?_)
 obtain⟨h1,h2⟩:=tyV_is I1 r1 ty
 exact⟨T,id,pa,slot,hty,h1,h2,Calls.callWith_builtin rfl (PySem.evalArgs_none (hm pins s1 σ H1 x [] v [] Q I1 r1 .nil q1))⟩
theorem pe_bm (pa:PlainAttrs T) (slot:Slot T name id) (hty:typeOf (.builtin id)=pure (.type "method_descriptor")) (hm:MtR X id r) (ho:PE X o to) (ha:PA X (e::es) t)
  (hbase:attributeBase o name X.env (eval o X.env)=eval o X.env:=by rfl)
  (hfew:((backTo cpos (starEach (e::es) X.env)).all (fun x=>!x.1) && (backToKw cpos (keywordEach [] X.env)).all (fun x=>x.1.isSome)
   && decide ((e::es).length+([]:List Keyword).length+(if ([]:List Keyword).isEmpty then 0 else 1)<30))=true:=by rfl)
  (hline:(apos.endLine == cpos.line)=true:=by rfl) (hs:starEach (e::es) X.env=(false,eval e X.env)::starEach es X.env:=by rfl) (hplain:(backTo cpos (starEach es X.env)).any (·.1)=false:=by rfl) :
  PE X (.Call (.Attribute o name apos) (e::es) [] cpos) (tBM X.K T r to t):=by
 intro pins s σ H Q I h
 refine wpAny_Call_method_late hbase hfew hline rfl (thn (ho pins s σ H _ I h) fun v s1 ⟨x,H1,I1,r1,ty,q1⟩=>?_)
 obtain⟨h1,h2⟩:=tyV_is I1 r1 ty
 refine⟨T,id,pa,slot,hty,h1,h2,?_⟩
 have hA:=ha cpos pins s1 σ H1 _ I1 q1
 rw [hs] at hA ⊢
 refine Calls.callWith_builtin (by show (false || (backTo cpos (starEach es X.env)).any (·.1))=false; rw [hplain] <;> rfl) (Calls.evalArgs_plain ?_)
 exact thn hA fun us s2 ⟨vs,H2,I2,r2,q2⟩=>hm pins s2 σ H2 x vs v us Q I2 r1 r2 q2
end
end L2
namespace L2
open PySem PySem.Spec PyProof.Rows
def MtM (X:Cx) (id:String) (r:V→List V→Hp→VK→Prop):Prop :=
 ∀ (pins:List (Addr×Obj)) (s:Shared) (σ:St) (H:Hp) (x:V) (xs:List V) (v:Value) (us:List Value) (Q:VK),Inv X pins σ H s→RelV x v→Vals xs us→r x xs H Q →
  wpAny (model X.prog X.w) X.A (call (.builtin id) (v::us)) (EP X pins σ Q) X.xe s
theorem Vals.one:∀ {x:V}{us:List Value},Vals [x] us→∃ u,us=[u]∧RelV x u
 | _,_,.cons r .nil=>⟨_,rfl,r⟩
theorem Vals.zero:∀ {us:List Value},Vals [] us→us=[]
 | _,.nil=>rfl
theorem Vals.dropLast {xs:List V}{us:List Value} (h:Vals xs us):Vals xs.dropLast us.dropLast:=by
 induction h with
 | nil=>exact .nil
 | cons r t ih =>
  cases t with
  | nil=>exact .nil
  | cons q t'=>exact .cons r ih
theorem Vals.eraseIdx:∀ {xs:List V}{us:List Value} (i:Nat),Vals xs us→Vals (xs.eraseIdx i) (us.eraseIdx i)
 | _,_,_,.nil=>.nil
 | _,_,0,.cons _ t=>t
 | _,_,i+1,.cons r t=>.cons r (Vals.eraseIdx i t)
theorem Vals.reverse {xs:List V}{us:List Value} (h:Vals xs us):Vals xs.reverse us.reverse:=by
 induction h with
 | nil=>exact .nil
 | cons r t ih=>rw [List.reverse_cons,List.reverse_cons]; exact Vals.append ih (.cons r .nil)
theorem Vals.rep {xs:List V}{us:List Value} (h:Vals xs us):∀ k:Nat,Vals (List.replicate k xs).flatten (List.replicate k us).flatten
 | 0=>.nil
 | k+1=>by
  rw [List.replicate_succ,List.replicate_succ,List.flatten_cons,List.flatten_cons]
  exact Vals.append h (Vals.rep h k)
theorem erase_last {α:Type} (l:List α):l.eraseIdx (l.length - 1)=l.dropLast:=by
 induction l with
 | nil=>rfl
 | cons a r ih =>
  cases r with
  | nil=>rfl
  | cons b r =>
   have e:(a::b::r).length - 1=((b::r).length - 1)+1:=by
    have h1:(a::b::r).length=r.length+2:=rfl
    have h2:(b::r).length=r.length+1:=rfl
    lia
   rw [e,List.eraseIdx_cons_succ,ih]
   all_goals rfl
theorem len_erase {α:Type}:∀ (l:List α) (i:Nat),(l.eraseIdx i).length≤l.length
 | [],_=>Nat.le_refl _
 | _::_,0=>Nat.le_succ _
 | _::r,i+1=>Nat.succ_le_succ (len_erase r i)
theorem foldl_rep (its:List Value):∀ (k:Nat) (acc:List Value),
  List.foldl (fun x1 x2=>x1++x2) acc.toArray (List.replicate k its.toArray)=(acc++(List.replicate k its).flatten).toArray
 | 0,acc=>by simp
 | k+1,acc=>by
  have e:acc.toArray++its.toArray=(acc++its).toArray:=by simp
  have e2:(acc++its)++(List.replicate k its).flatten=acc++(List.replicate (k+1) its).flatten:=by
   rw [List.replicate_succ,List.flatten_cons,List.append_assoc]
  rw [← e2,← foldl_rep its k (acc++its),← e,List.replicate_succ,List.foldl_cons]
section
variable {X:Cx}{pins:List (Addr×Obj)}{σ:St}{H:Hp}{s:Shared}{l b:Addr}{xs ys zs:List V}
theorem Inv.lset {its its':List Value}{n:Nat}{f:Array Value→Array Value}{t':Nat} (I:Inv X pins σ H s) (hH:H l=some (.lst xs))
  (e:s.heap.get? l=some { cls:=.type "list",data:=.seq its.toArray n }) (hf:f its.toArray=its'.toArray) (hv:Vals ys its') (hz:ys.length≤sizeLine) :
  Inv X pins σ (upd H l (.lst ys)) { s with heap:=s.heap.update l (Obj.mapSeq f),toks:=t' }:=by
 have q:=PySem.IsL.update e f
 rw [hf] at q
 refine I.write (x:=l) (e:=l) (by rw [hH]; exact trivial) (.inl rfl) (fun b' u hb hu=>(Heap.get?_update_other s.heap (Obj.mapSeq f) (Ne.symm hb)).trans hu) ⟨_,q⟩ ?_
 exact⟨hz,its',_,hv,q⟩
theorem Inv.lnew {its:List Value}{t':Nat} (I:Inv X pins σ H s) (hv:Vals ys its) (hz:ys.length≤sizeLine) :
  Inv X pins σ (upd H s.heap.objs.size (.lst ys)) { s with heap:=s.heap.push { cls:=.type "list",data:=.seq its.toArray },toks:=t' } :=
 I.laid (fun _ _ q=>Heap.get?_push_of_some _ q) (Nat.le_refl _) ⟨hz,its,0,hv,Heap.get?_push_size _ rfl⟩
theorem Inv.fresh (I:Inv X pins σ H s):H s.heap.objs.size=none:=I.hok.fresh (Nat.le_refl _)
theorem Inv.lstM (I:Inv X pins σ H s) (hH:H l=some (.lst xs)):xs.length≤sizeLine∧∃ (its:List Value) (n:Nat),Vals xs its∧xs.length=its.length∧s.heap.get? l=some { cls:=.type "list",data:=.seq its.toArray n }:=by
 obtain⟨z,its,n,r,e⟩:=I.hok l _ hH
 exact⟨z,its,n,r,r.length,e⟩
theorem notLongL {n:Nat} (h:n≤sizeLine):Builtin.List.listTooLong n=false:=by
 unfold Builtin.List.listTooLong
 exact decide_eq_false (by lia)
end
section
variable {X:Cx}
def rAppend:V→List V→Hp→VK→Prop:=fun x vs H Q=>∃ l xs y,x=.ref l∧vs=[y]∧H l=some (.lst xs)∧xs.length<sizeLine∧Q .non (upd H l (.lst (xs++[y])))
theorem mt_append:MtM X "list.append" rAppend:=by
 intro pins s σ H x vs v us Q I rx rv h
 obtain⟨l,xs,y,rfl,rfl,hH,hz,q⟩:=h
 cases rx
 obtain⟨u,rfl,ru⟩:=rv.one
 obtain⟨z,its,n,r,hl,e⟩:=I.lstM hH
 refine call_meets F.slot_list_append ⟨_,e,rfl⟩ F.entry_list_append (F.args_list_append_2 _ _) (PySem.list_append l its.toArray n u (by rw [List.size_toArray]; lia)) ⟨e,?_⟩
 refine⟨.non,_,I.lset (its':=its++[u]) hH e (by simp) (r.append (.cons ru .nil)) ?_,rfl,q⟩
 rw [List.length_append,List.length_singleton]
 lia
def rPop:V→List V→Hp→VK→Prop:=fun x vs H Q=>∃ l xs y,x=.ref l∧vs=[]∧H l=some (.lst xs)∧xs[xs.length - 1]?=some y∧Q y (upd H l (.lst xs.dropLast))
theorem mt_pop:MtM X "list.pop" rPop:=by
 intro pins s σ H x vs v us Q I rx rv h
 obtain⟨l,xs,y,rfl,rfl,hH,hy,q⟩:=h
 cases rx
 have hus:=rv.zero
 subst hus
 obtain⟨z,its,n,r,hl,e⟩:=I.lstM hH
 obtain⟨u,hu,ru⟩:=r.get hy
 have hy':its.toArray[its.toArray.size - 1]?=some u:=by
  show its.toArray[its.length - 1]?=some u
  rw [← Array.getElem?_toList,← hl]
  exact hu
 refine call_meets F.slot_list_pop ⟨_,e,rfl⟩ F.entry_list_pop (F.args_list_pop_1 _) (MeetsSeq.list_pop_last l its.toArray n u hy' (by rw [List.size_toArray]; lia)) ⟨e,?_⟩
 refine⟨y,_,I.lset (its':=its.dropLast) hH e ?_ r.dropLast ?_,ru,q⟩
 ·show its.toArray.eraseIdxIfInBounds (its.toArray.size - 1)=its.dropLast.toArray
  rw [List.size_toArray,List.eraseIdxIfInBounds_toArray,erase_last]
 ·rw [List.length_dropLast]
  lia
def rPopAt:V→List V→Hp→VK→Prop:=fun x vs H Q=>∃ l xs i k y,x=.ref l∧vs=[.int i]∧H l=some (.lst xs)∧-(2 ^ 63)≤i∧i<2 ^ 63∧seqIndex? i xs.length=some k∧xs[k]?=some y∧Q y (upd H l (.lst (xs.eraseIdx k)))
theorem mt_popAt:MtM X "list.pop" rPopAt:=by
 intro pins s σ H x vs v us Q I rx rv h
 obtain⟨l,xs,i,k,y,rfl,rfl,hH,h1,h2,hk,hy,q⟩:=h
 cases rx
 obtain⟨u,rfl,ru⟩:=rv.one
 obtain⟨t,rfl⟩:=ru
 obtain⟨z,its,n,r,hl,e⟩:=I.lstM hH
 obtain⟨w,hw,rw'⟩:=r.get hy
 refine call_meets F.slot_list_pop ⟨_,e,rfl⟩ F.entry_list_pop (F.args_list_pop_2 _ _)
  (MeetsSeq.list_pop_at l its.toArray n i t k w (fitsIndex_both h1 h2) (by rw [List.size_toArray,← hl]; exact hk) (by rw [← Array.getElem?_toList]; exact hw) (by rw [List.size_toArray]; lia)) ⟨e,?_⟩
 refine⟨y,_,I.lset (its':=its.eraseIdx k) hH e ?_ (r.eraseIdx k) ?_,rw',q⟩
 ·show its.toArray.eraseIdxIfInBounds k=(its.eraseIdx k).toArray
  rw [List.eraseIdxIfInBounds_toArray]
 ·have:=len_erase xs k
  lia
def rRep:R2:=fun x y H Q=>∃ l k xs,x=.ref l∧y=.int k∧H l=some (.lst xs)∧-(2 ^ 63)≤k∧k<2 ^ 63∧xs.length * k.toNat≤sizeLine ∧
 ∀ p,H p=none→Q (.ref p) (upd H p (.lst (List.replicate k.toNat xs).flatten))
theorem len_rep {α:Type} (xs:List α) (k:Nat):(List.replicate k xs).flatten.length=k * xs.length:=by
 induction k with
 | zero=>simp
 | succ k ih=>rw [List.replicate_succ,List.flatten_cons,List.length_append,ih,Nat.succ_mul,Nat.add_comm]
theorem op_rep:OpR X (binaryOp .Mult) rRep:=by
 intro pins s σ H x y v u Q I rx ry h
 obtain⟨l,k,xs,rfl,rfl,hH,h1,h2,hz,q⟩:=h
 cases rx
 obtain⟨t,rfl⟩:=ry
 obtain⟨z,its,n,r,hl,e⟩:=I.lstM hH
 have hlen:its.toArray.size * k.toNat≤sizeLine:=by rw [List.size_toArray,← hl]; exact hz
 have hcap:¬ its.toArray.size * k.toNat > (2 ^ 63 - 1) / 8:=by
  have:(sizeLine:Nat)≤(2 ^ 63 - 1) / 8:=by decide
  lia
 have hfit:¬ (!Builtin.List.listFitsIndex k)=true:=by
  rw [fitsIndex_both h1 h2]
  exact Bool.false_ne_true
 have hlong:¬ Builtin.List.listTooLong (its.toArray.size * k.toNat)=true:=by
  rw [notLongL hlen]
  exact Bool.false_ne_true
 have hnew:List.foldl (fun x1 x2=>x1++x2) #[] (List.replicate (if its.toArray.isEmpty=true then 0 else k.toNat) its.toArray)=(List.replicate k.toNat its).flatten.toArray:=by
  have f0:∀ m:Nat,List.foldl (fun x1 x2=>x1++x2) #[] (List.replicate m its.toArray)=(List.replicate m its).flatten.toArray:=fun m=>by
   have:=foldl_rep its m []
   rw [List.nil_append] at this
   exact this
  rw [f0]
  cases its with
  | nil=>simp
  | cons a r'=>rw [if_neg (by simp)]
 refine wpAny_binaryOp_repeat_ref (T:="list") (U:="int") (by decide) ⟨_,e,rfl⟩ (fun s'=>typeIs_int s' k t) noFill_list_mul F.fills_int_mul F.slot_int_rmul repeat_list F.slot_int_index.lookup
  (call_meets F.slot_int_rmul (typeIs_int s k t) F.entry_int_rmul (F.args_int_rmul_2 _ _) (int___rmul___int_list k t l its.toArray n)
   ⟨e,rfl,⟨_,e,rfl⟩,call_meets F.slot_list_mul ⟨_,e,rfl⟩ F.entry_list_mul (F.args_list_mul_2 _ _) (AutoListH.list___mul___list_int_3 l its.toArray n k t hfit hcap hlong) ⟨e,?_⟩⟩)
 rw [hnew]
 exact⟨.ref _,_,I.lnew (t':=s.toks) (r.rep k.toNat) (by rw [len_rep,Nat.mul_comm]; exact hz),rfl,q _ I.fresh⟩
end
section
variable {prog:Program}{w:World}{A:Around}{E:Value→Shared→Prop}{s:Shared}
end
section
variable {X:Cx}
end
end L2
namespace Att
open PySem PySem.W PySem.Calls PyProof.Rows
theorem ints_of_wellAll {P:Params}{h:Heap}:∀ (ns:List Int) (vs:List Value),WellAll P h vs (ns.map WData.int)→IntsAre vs ns:=by
 intro ns
 induction ns with
 | nil =>
  intro vs w
  rw [List.map_nil] at w
  cases w
  exact .nil
 | cons n ns ih =>
  intro vs w
  rw [List.map_cons] at w
  cases w with
  | cons a b =>
   cases a
   exact .cons _ _ (ih _ b)
theorem script_of {l:OpenLaw}{n:Nat} (hn:l.most=some n) {P:Params}{h:Heap}{args:List WData}{vals:List Value}
  (hpre:l.row.toRowW.claim.pre args=true) (hwl:WellAll P h vals args) :
  ∃ a vs ns,vals=[Value.ref a]∧args=[WData.list (ns.map WData.int)]∧h.get? a=some { cls:=.type "list",data:=.seq vs.toArray }∧IntsAre vs ns∧ns.length≤n:=by
 have hsh:WShape.hasAll [] args [.list .int]=true:=(pre_splitW hpre).1
 have hc:l.pre.holds [] { args:=args }=true:=(pre_splitW hpre).2
 obtain⟨d,r,rfl,h1,h2⟩:=hasAllW_cons hsh
 obtain rfl:=hasAllW_nil h2
 obtain⟨xs,rfl,h3⟩:=hasW_list h1
 obtain⟨ns,rfl⟩:=items_int h3
 have hlen:ns.length≤n:=by
  unfold OpenLaw.pre at hc
  have h4:(WTm.not (.lt (.lit (.int (n:Int))) (.len (.arg 0)))).holds [] { args:=[.list (ns.map .int)] }=true:=by
   have h4:=(holds_andW hc).1
   rw [hn] at h4
   exact h4
  have h5:=condW_of h4 (w_not (w_lt w_lit (w_len_list (w_arg rfl))))
  rw [List.length_map] at h5
  refine Nat.le_of_not_lt fun q=>?_
  have q':(n:Int)<((ns.length:Nat):Int):=by lia
  first
   | (rw [decide_eq_true q'] at h5; exact absurd h5 (by decide))
   | (simp at h5; lia)
 cases hwl with
 | cons w1 w2 =>
  cases w2
  cases w1 with
  | list ho hall=>exact⟨_,_,ns,rfl,rfl,ho,ints_of_wellAll ns _ hall,hlen⟩
theorem post_true (l:OpenLaw) (args:List WData):l.row.toRowW.claim.post args (.bool true) args=true :=
 postW_of (r:=l.row.toRowW) (X:=(true == true))
  (show WShape.has [] (.bool true) .bool=true by first | rfl | decide | simp [WShape.has,WShape.arms,WShape.armsAll])
  (show (WTm.eq .res (.lit (.bool true))).value [] { args:=args,res:=some (.bool true),after:=args }=some (.bool (true == true)) from w_eq_bool (w_res rfl) w_lit) rfl
theorem attach_call {l:OpenLaw}{n:Nat}{q:Program}{loose:List Str}{XP:(Str→Option Value)→Heap→Prop}{YP:World→Heap→Prop}{d:DefRec}
  (hn:l.most=some n) (hdf:d.params.defaults=[])
  (call:∀ (w:World) (s₀ s₁:Shared) (mg mb:Str→Option Value) (fa:Addr) (o:Obj) (pm cd doc:Value) (a:Addr) (vs:List Value) (ns:List Int),
   Ground q loose [] XP w s₀ mg mb s₁.heap→YP w s₁.heap →
   s₁.heap.get? fa=some o→o.data=.func (docDef d.name d.params d.body d.scope pm cd doc)→s₁.heap.CodeRec cd d.name→mg d.name=some (.ref fa) →
   s₁.heap.get? a=some { cls:=.type "list",data:=.seq vs.toArray }→IntsAre vs ns→ns.length≤n→s₁.gens=#[] →
   codeAny (model l.prog w) callerA (.call (.ref fa) ⟨[.ref a],[]⟩) (fun r s'=>r=.ok (.ret (.bool true))∧OldK s₁.heap s'.heap∧s'.os=s₁.os∧AllBare s'.gens) s₁) :
  WalkO q loose XP YP l.row.toRowW d [] (fun f vs=>PySem.call f vs):=by
 intro w s₀ s₁ mg mb G Y fa o pm cd doc dV kV ho hd hcd hD hmg hg args vals as hpre hlay hrd hwl hlo
 obtain rfl:dV=.none:=Dflts.none hD hdf
 obtain rfl:kV=.none:=Dflts.noKw hD
 obtain⟨a,vs,ns,rfl,rfl,hobj,hints,hlen⟩:=script_of hn hpre hwl
 refine enter_call (codeAny_mono (call w s₀ s₁ mg mb fa o pm cd doc a vs ns G Y ho (fd_plain hd) hcd hmg hobj hints hlen hg) fun r s' hq=>?_)
 obtain⟨rfl,h2,h3,h4⟩:=hq
 exact⟨.inl ⟨.bool true,.bool true,[],rfl,fun _=>rfl,.bool true,post_true l _,fun _=>⟨List.Pairwise.nil,fun _ hm=>(nomatch hm)⟩⟩,h2,h3,h4⟩
section
variable {prog:Program}{w:World}{A:Around}{E:Value→Shared→Prop}{s:Shared}{K:Frag}
end
end Att
namespace L2
open PySem PySem.Spec PyProof.Rows
theorem vals_ints:∀ {vs:List Value}{ns:List Int},IntsAre vs ns→Vals (ns.map V.int) vs
 | _,_,.nil=>.nil
 | _,_,.cons n t h=>.cons ⟨t,rfl⟩ (vals_ints h)
def Only (H:Hp):Prop:=∀ b,H b=none∨∃ o xs,H b=some (.frz o (.lst xs))
theorem law_call {P:Program}{w:World}{K:PySem.W.Frag}{mg mb:Str→Option Value}{CX:CXT}{k:Nat}{fa a:Addr}{fd:FuncData}{x:Str}{sp:Sp}{s₁:Shared}{vs:List Value}{ns:List Int}
  (KX:K.In s₁.heap) (hns:s₁.heap.Ns mainGlobals mg) (hb:s₁.heap.Ns builtinsNs mb) (hbb:∀ x:Str,x≠"__name__"→mb x=bootBuiltins x) (hlim:s₁.heap.NoLimit) (hg:s₁.gens=#[])
  (ha:s₁.heap.get? a=some { cls:=.type "list",data:=.seq vs.toArray }) (hi:IntsAre vs ns) (hl:ns.length≤sizeLine) (hr:Room k callerA)
  (F:∀ base:Heap,K.In base→base.Ns mainGlobals mg→FnOk P w K mg base CX k fa fd [x] sp) (hbind:∀ (s:Shared) (u:Value),BindsTo s fd ⟨[u],[]⟩ [(x,u)])
  (hsp:∀ H:Hp,Only H→SqL K H a (ns.map V.int)→sp [.ref a] H (fun v _=>v=.bl true) fun _ _ _=>False)
  (hCX:∀ H e s',CX [] H s₁ (fun _ _ _=>False) e s'→False) :
  codeAny (model P w) callerA (.call (.ref fa) ⟨[.ref a],[]⟩) (fun r s'=>r=.ok (.ret (.bool true))∧OldK s₁.heap s'.heap∧s'.os=s₁.os∧AllBare s'.gens) s₁:=by
 have rv:=vals_ints hi
 have lenV:=hi.length
 have core:∀ H:Hp,Only H→SqL K H a (ns.map V.int)→HOk P w H s₁.heap→(∀ b,H b≠none→b=a)→(H a≠none→K.lookup a=none) →
   codeAny (model P w) callerA (.call (.ref fa) ⟨[.ref a],[]⟩) (fun r s'=>r=.ok (.ret (.bool true))∧OldK s₁.heap s'.heap∧s'.os=s₁.os∧AllBare s'.gens) s₁:=by
  intro H hO hS hok hA hK
  have base_of:∀ {b:Addr}{o:Obj},s₁.heap.get? b=some o→H b=none→(hidT s₁.heap H).get? b=some o:=fun e n=>hidT_get e n
  have noA:∀ {b:Addr}{o:Obj}{es:Array DictEntry}{ep:Nat},s₁.heap.get? b=some o→o.data=.dict es ep→H b=none:=fun {b o es ep} e d=>by
   cases q:H b with
   | none=>rfl
   | some u =>
    have e':b=a:=hA b (by rw [q]; simp)
    subst e'
    rw [ha] at e; cases e
    have d':Data.seq vs.toArray _=Data.dict es ep:=d
    cases d'
  have nsK:∀ {b:Addr}{m:Str→Option Value},s₁.heap.Ns b m→(hidT s₁.heap H).Ns b m:=fun {b m} ⟨o,es,ep,e,d,r⟩=>⟨o,es,ep,base_of e (noA e d),d,r⟩
  have hKb:K.In (hidT s₁.heap H):=fun b o e=>base_of (KX b o e) (by
   cases q:H b with
   | none=>rfl
   | some u =>
    have e':b=a:=hA b (by rw [q]; simp)
    subst e'
    rw [hK (by rw [q]; simp)] at e; cases e)
  have hM:Mod K mg (hidT s₁.heap H):=⟨hKb,nsK hns,⟨mb,nsK hb,hbb⟩,let ⟨mc,h1,h2⟩:=hlim; ⟨mc,nsK h1,h2⟩⟩
  have e0:Env0 P w K mg (hidT s₁.heap H) callerA [] s₁ H:=⟨rfl,hM,fun b o e=>of_hidT e,Nat.le_of_eq (hidT_size _ _),trivial,fun b hb=>absurd (show b∈([]:List Addr) from hb) (by simp),hok,.of_eq hg⟩
  refine codeAny_mono ((F _ hKb (nsK hns)).run callerA [] s₁ H ⟨[.ref a],[]⟩ [.ref a] [.ref a] _ _ hr e0 (hbind s₁ (.ref a)) (.cons rfl .nil) (hsp H hO hS)) fun r s' h=>?_
  cases r with
  | error e=>exact (hCX H e s' h).elim
  | ok fl =>
   cases fl with
   | next=>exact False.elim h
   | brk=>exact False.elim h
   | cont=>exact False.elim h
   | ret u =>
    obtain⟨v,H',os,bare,un,hok',r',q⟩:=h
    have q':v=.bl true:=q
    subst q'
    obtain rfl:u=Value.bool true:=r'
    refine⟨rfl,OldK.of_keep fun b o e=>?_,os,bare⟩
    cases q:H b with
    | none=>exact un.keep b o e q (by intro z; exact absurd (show b∈([]:List Addr) from z) (by simp)) (by simp)
    | some u =>
     rcases hO b with z | ⟨ob,xs,z⟩
     ·rw [q] at z; cases z
     ·have z2:=un.frzs b ob _ z
      obtain⟨e1,_⟩:=hok b _ z
      obtain⟨e2,_⟩:=hok' b _ z2
      rw [e] at e1; cases e1
      exact e2
 cases hk:K.lookup a with
 | some o =>
  have e:=KX a o hk
  rw [ha] at e
  cases e
  refine core (fun _=>none) (fun _=>.inl rfl) (.inr ⟨_,vs.toArray,_,hk,rfl,rfl,rfl,by rw [List.size_toArray,lenV]; exact hl,by simpa using rv⟩) (fun b u z=>by have z':(none:Option HO)=some u:=z; cases z') (fun b z=>absurd rfl z) fun z=>absurd rfl z
 | none =>
  refine core (fun b=>if b=a then some (.frz { cls:=.type "list",data:=.seq vs.toArray } (.lst (ns.map V.int))) else none) (fun b=>?_) (.inl (.inr ⟨{ cls:=.type "list",data:=.seq vs.toArray },if_pos rfl⟩)) (fun b u z=>?_) (fun b z=>?_) fun _=>hk
  ·by_cases hb:b=a
   ·exact .inr ⟨_,_,if_pos hb⟩
   ·exact .inl (if_neg hb)
  ·by_cases hb:b=a
   ·have z':=(if_pos hb).symm.trans z
    cases z'
    subst hb
    exact⟨ha,by rw [List.length_map]; exact hl,vs,_,rv,ha⟩
   ·have z':=(if_neg hb).symm.trans z
    cases z'
  ·by_cases hb:b=a
   ·exact hb
   ·exact absurd (if_neg hb) z
end L2
namespace L2
open PySem PySem.Spec PyProof.Rows
theorem walk_of {l:PySem.W.OpenLaw}{n k:Nat}{q:Program}{loose:List Str}{XP:(Str→Option Value)→Heap→Prop}{YP:World→Heap→Prop}{d:DefRec}{K:Params→PySem.W.Frag}{CX:World→CXT}{sp:World→Sp}{x:Str}
  (hn:l.most=some n) (hn2:n≤sizeLine) (hdf:d.params.defaults=[]) (hr:Room k callerA)
  (hY:∀ (w:World) (h:Heap),YP w h→(K w.params).In h)
  (F:∀ (w:World) (mg:Str→Option Value) (fa:Addr) (h:Heap),(K w.params).In h→h.Ns mainGlobals mg→mg d.name=some (.ref fa) →
   ∃ fd:FuncData,(∀ (s:Shared) (u:Value),BindsTo s fd ⟨[u],[]⟩ [(x,u)]) ∧
    ∀ base:Heap,(K w.params).In base→base.Ns mainGlobals mg→FnOk l.prog w (K w.params) mg base (CX w) k fa fd [x] (sp w))
  (hsp:∀ (w:World) (H:Hp) (a:Addr) (ns:List Int),ns.length≤n→Only H→SqL (K w.params) H a (ns.map V.int)→sp w [.ref a] H (fun v _=>v=.bl true) fun _ _ _=>False)
  (hCX:∀ (w:World) (H:Hp) (s:Shared) (e:Value) (s':Shared),CX w [] H s (fun _ _ _=>False) e s'→False) :
  PySem.W.WalkO q loose XP YP l.row.toRowW d [] (fun f vs=>PySem.call f vs):=by
 refine Att.attach_call hn hdf fun w s₀ s₁ mg mb fa o pm cd doc a vs ns G Y ho hd hcd hmg hobj hints hlen hg=>?_
 have KX:=hY w _ Y
 obtain⟨fd,hb,hF⟩:=F w mg fa _ KX G.T.g hmg
 exact law_call KX G.T.g G.T.b G.T.builtins G.T.nolimit hg hobj hints (Nat.le_trans hlen hn2) hr hF hb (fun H hO hS=>hsp w H a ns hlen hO hS) fun H e s'=>hCX w H s₁ e s'
end L2
namespace L2
open PySem PySem.Spec PyProof.Rows
def inClass (s:Stmt) (j:Nat):Stmt:=match s with
 | .ClassDef _ _ _ body _ _ _ _ _ _ _=>body.getD j (.Pass ⟨0,0,0,0⟩)
 | _=>.Pass ⟨0,0,0,0⟩
def defArgs (s:Stmt):Arguments:=match s with
 | .FunctionDef _ a _ _ _ _ _ _ _ _=>a
 | _=>{ posonlyargs:=[],args:=[],vararg:=none,kwonlyargs:=[],kw_defaults:=[],kwarg:=none,defaults:=[] }
def defBody (s:Stmt):List Stmt:=match s with
 | .FunctionDef _ _ b _ _ _ _ _ _ _=>b
 | _=>[]
def defScope (s:Stmt):Scope:=match s with
 | .FunctionDef _ _ _ _ _ _ sc _ _ _=>sc
 | _=>{ kind:=.function,names:=[],isGenerator:=false,isCoroutine:=false }
abbrev CX0:CXT:=fun _ _ _ _ _ _=>False
abbrev E0:XK:=fun _ _ _=>False
theorem pass0 {X:Cx}:Passes CX0 X E0:=fun _ _ _ _ _ _ _ h=>h.elim
structure Fun (K:PySem.W.Frag) (x qual:Str) (st:Stmt) (f:Addr) (fd:FuncData):Prop where
 ex:∃ (oc:Value) (od:Option Addr) (kV doc pm:Value) (an:Option Addr) (cdv ct:Value) (osl:Array (Option Value)),
  fd=PySem.W.fnOf x qual (defArgs st) (defBody st) (defScope st) .none kV doc pm an cdv ct∧K.lookup f=some ⟨oc,od,.func fd,osl⟩∧PySem.W.codeIn K cdv qual=true
 kp:PySem.W.keepIn K (.ref f)=true
section
variable {P:Program}{w:World}{K:PySem.W.Frag}{mg:Str→Option Value}{base:Heap}
theorem Fun.ok {x qual:Str}{st:Stmt}{f:Addr}{fd:FuncData}{N ps:List Str}{k:Nat}{sp:Sp} (F:Fun K x qual st f fd) (S:FnScope N ps (defScope st)) (len:∀ vs H Q E,sp vs H Q E→vs.length=ps.length)
  (hbody:∀ (cdv:Value) (A:Around) (outer:List Env) (s:Shared) (H:Hp) (vs:List V) (Q:VK) (E:XK),Room k (A.deeper (envOfC qual (defScope st) s.heap.objs.size f cdv))→sp vs H Q E →
   ∃ t,PSs (cxOf CX0 P w K mg base N qual (defScope st) f cdv A outer s H E).nox (defBody st) t∧t { nx:=fun _ H'=>Q .non H',rt:=Q } (start N vs) H):FnOk P w K mg base CX0 (k+1) f fd ps sp:=by
 obtain⟨oc,od,kV,doc,pm,an,cdv,ct,osl,rfl,lk,hcd⟩:=F.ex
 refine fn_of lk hcd S len fun A outer s H vs Q E hr hsp=>?_
 obtain⟨t,h,q⟩:=hbody cdv A outer s H vs Q E hr hsp
 exact⟨t,h.nox,q⟩
theorem Fun.binds {x qual:Str}{st:Stmt}{f:Addr}{fd:FuncData}{ps:List Str} (F:Fun K x qual st f fd)
  (h:∀ (kV doc pm:Value) (an:Option Addr) (cdv ct:Value) (us:List Value),us.length=ps.length→bindArgs (PySem.W.fnOf x qual (defArgs st) (defBody st) (defScope st) .none kV doc pm an cdv ct) ⟨us,[]⟩=pure (ps.zip us)):Binds K fd ps []:=by
 obtain⟨oc,od,kV,doc,pm,an,cdv,ct,osl,rfl,lk,hcd⟩:=F.ex
 exact .all (h kV doc pm an cdv ct)
theorem fun_mk {x qual:Str}{st:Stmt}{f:Addr}{oc:Value}{od an:Option Addr}{osl:Array (Option Value)}{kV doc pm cdv ct:Value} (l:K.lookup f=some ⟨oc,od,.func (PySem.W.fnOf x qual (defArgs st) (defBody st) (defScope st) .none kV doc pm an cdv ct),osl⟩)
  (c:PySem.W.codeIn K cdv qual=true) (k:PySem.W.keepIn K (.ref f)=true):Fun K x qual st f (PySem.W.fnOf x qual (defArgs st) (defBody st) (defScope st) .none kV doc pm an cdv ct):=⟨⟨oc,od,kV,doc,pm,an,cdv,ct,osl,rfl,l,c⟩,k⟩
end
section
variable {X:Cx}
theorem pv (i:Nat) {x:Str}{pos:Pos} (hN:X.N[i]?=some x:=by rfl) (hv:Vis X.env.scope x:=by first | exact Or.inl rfl | exact Or.inr (Or.inl rfl) | exact Or.inr (Or.inr rfl)) (hd:(x == ("__debug__":Str))=false:=by decide)
  (hcd:(x == ("__classdict__":Str))=false:=by decide):PE X (.Name x pos) (tVar i):=pe_var hN hv hd hcd
end
theorem iteF {A B:Prop} (h:B):if false=true then A else B:=by
 rw [if_neg Bool.false_ne_true]
 exact h
theorem iteT {A B:Prop} (h:A):if true=true then A else B:=by
 rw [if_pos rfl]
 exact h
theorem ite2 {c A B:Prop} [Decidable c] (h1:c→A) (h2:¬ c→B):if c then A else B:=by
 by_cases h:c
 ·rw [if_pos h]
  exact h1 h
 ·rw [if_neg h]
  exact h2 h
def Same (H H':Hp):Prop:=∀ b o,H b=some o→H' b=some o
theorem Same.refl (H:Hp):Same H H:=fun _ _ h=>h
theorem Same.trans {H H1 H2:Hp} (a:Same H H1) (b:Same H1 H2):Same H H2:=fun c o h=>b c o (a c o h)
theorem Same.free {H H':Hp} (e:Same H H') {l:Addr} (h:H' l=Option.none):H l=Option.none:=by
 cases q:H l with
 | none=>rfl
 | some o =>
  rw [e l o q] at h
  cases h
theorem Same.seq {K:PySem.W.Frag}{H H':Hp}{a:Addr}{xs:List V} (e:Same H H') (h:SqL K H a xs):SqL K H' a xs:=by
 rcases h with (h | ⟨o,h⟩) | h
 ·exact .inl (.inl (e _ _ h))
 ·exact .inl (.inr ⟨o,e _ _ h⟩)
 ·exact .inr h
end L2
set_option maxHeartbeats 4000000
namespace Sw
inductive All2 {α β:Type} (R:α→β→Prop):List α→List β→Prop where
 | nil:All2 R [] []
 | cons {a:α}{b:β}{as:List α}{bs:List β}:R a b→All2 R as bs→All2 R (a::as) (b::bs)
namespace All2
variable {α β:Type}{R S:α→β→Prop}
theorem length {as:List α}{bs:List β} (h:All2 R as bs):bs.length=as.length:=by
 induction h with
 | nil=>rfl
 | cons _ _ ih=>rw [List.length_cons,List.length_cons,ih]
theorem imp {as:List α}{bs:List β} (f:∀ a b,R a b→S a b) (h:All2 R as bs):All2 S as bs:=by
 induction h with
 | nil=>exact .nil
 | cons r _ ih=>exact .cons (f _ _ r) ih
theorem append {as as':List α}{bs bs':List β} (h:All2 R as bs) (g:All2 R as' bs'):All2 R (as++as') (bs++bs'):=by
 induction h with
 | nil=>exact g
 | cons r _ ih=>exact .cons r ih
theorem one {a:α}{b:β} (h:R a b):All2 R [a] [b]:=.cons h .nil
theorem get {as:List α}{bs:List β} (h:All2 R as bs):∀ {i:Nat}{b:β},bs[i]?=some b→∃ a,as[i]?=some a∧R a b:=by
 induction h with
 | nil=>intro i b e; simp at e
 | cons r _ ih =>
  intro i b e
  cases i with
  | zero=>exact⟨_,rfl,by have e':=Option.some.inj e; rw [← e']; exact r⟩
  | succ i=>exact ih (i:=i) (by simpa using e)
theorem of_get:∀ {bs:List β}{as:List α},bs.length=as.length→(∀ (i:Nat) b,bs[i]?=some b→∃ a,as[i]?=some a∧R a b)→All2 R as bs
 | [],[],_,_=>.nil
 | [],_::_,h,_=>by simp at h
 | _::_,[],h,_=>by simp at h
 | b::bs,a::as,h,g=>by
  obtain⟨a',e,r⟩:=g 0 b rfl
  have e':=Option.some.inj e
  refine .cons (by rw [e']; exact r) (of_get (by simpa using h) fun i b e=>?_)
  exact g (i+1) b (by simpa using e)
end All2
inductive T where
 | node (ts:List T)
namespace T
def kids:T→List T | .node ts=>ts
mutual
def parts:T→Nat | .node ts=>1+partsL ts
def partsL:List T→Nat
 | []=>0
 | t::ts=>parts t+partsL ts
end
mutual
def deep:T→Nat | .node ts=>deepL ts
def deepL:List T→Nat
 | []=>0
 | t::ts=>max (deep t+1) (deepL ts)
end
mutual
def beq:T→T→Bool | .node ts,.node us=>beqL ts us
def beqL:List T→List T→Bool
 | [],[]=>true
 | t::ts,u::us=>beq t u && beqL ts us
 | _,_=>false
end
mutual
theorem beq_iff:∀ t u:T,beq t u=true↔t=u
 | .node ts,.node us=>by
  unfold beq
  rw [beqL_iff ts us]
  exact⟨fun h=>by rw [h],fun h=>by injection h⟩
theorem beqL_iff:∀ ts us:List T,beqL ts us=true↔ts=us
 | [],[]=>by simp [beqL]
 | [],_::_=>by simp [beqL]
 | _::_,[]=>by simp [beqL]
 | t::ts,u::us=>by
  unfold beqL
  rw [Bool.and_eq_true,beq_iff t u,beqL_iff ts us]
  simp
end
theorem beq_self (t:T):beq t t=true:=(beq_iff t t).mpr rfl
instance:DecidableEq T:=fun t u=>if h:beq t u=true then isTrue ((beq_iff t u).mp h) else isFalse fun e=>h ((beq_iff t u).mpr e)
theorem parts_node (ts:List T):(T.node ts).parts=1+partsL ts:=by unfold parts; rfl
theorem deep_node (ts:List T):(T.node ts).deep=deepL ts:=by unfold deep; rfl
theorem partsL_nil:partsL []=0:=by unfold partsL; rfl
theorem partsL_cons (t:T) (ts:List T):partsL (t::ts)=t.parts+partsL ts:=by rw [partsL]
theorem deepL_nil:deepL []=0:=by unfold deepL; rfl
theorem deepL_cons (t:T) (ts:List T):deepL (t::ts)=max (t.deep+1) (deepL ts):=by rw [deepL]
theorem parts_pos (t:T):1≤t.parts:=by cases t; rw [parts_node]; lia
theorem parts_kids (t:T):t.parts=1+partsL t.kids:=by cases t; rw [parts_node]; rfl
theorem deep_kids (t:T):t.deep=deepL t.kids:=by cases t; rw [deep_node]; rfl
theorem partsL_append:∀ a b:List T,partsL (a++b)=partsL a+partsL b
 | [],b=>by rw [partsL_nil,List.nil_append]; lia
 | t::a,b=>by rw [List.cons_append,partsL_cons,partsL_cons,partsL_append a b]; lia
theorem deepL_append:∀ a b:List T,deepL (a++b)=max (deepL a) (deepL b)
 | [],b=>by rw [deepL_nil,List.nil_append]; lia
 | t::a,b=>by rw [List.cons_append,deepL_cons,deepL_cons,deepL_append a b]; lia
theorem len_le_parts:∀ ts:List T,ts.length≤partsL ts
 | []=>by simp
 | t::ts=>by
  have h1:=parts_pos t
  have h2:=len_le_parts ts
  rw [partsL_cons,List.length_cons]
  lia
theorem partsL_dropLast {ts:List T}{t:T} (h:ts[ts.length - 1]?=some t):partsL ts=partsL ts.dropLast+t.parts:=by
 have e:ts=ts.dropLast++[t]:=by
  have hne:ts≠[]:=by rintro rfl; simp at h
  have h2:=List.dropLast_concat_getLast hne
  have h3:ts.getLast hne=t:=by
   rw [← List.getLast?_eq_getElem?,List.getLast?_eq_some_getLast hne] at h
   exact Option.some.inj h
  rw [h3] at h2
  exact h2.symm
 have e2:partsL ts=partsL (ts.dropLast++[t]):=congrArg partsL e
 rw [e2,partsL_append,partsL_cons,partsL_nil]
 lia
theorem partsL_take_drop (n:Nat) (ts:List T):partsL ts=partsL (ts.take n)+partsL (ts.drop n):=by
 rw [← partsL_append,List.take_append_drop]
theorem partsL_le_of {B:Nat}:∀ {ts:List T},(∀ t∈ts,t.parts≤B)→partsL ts≤ts.length * B
 | [],_=>by rw [partsL_nil]; lia
 | t::ts,h=>by
  have h1:=h t List.mem_cons_self
  have h2:=partsL_le_of fun u hu=>h u (List.mem_cons_of_mem _ hu)
  rw [partsL_cons,List.length_cons,Nat.succ_mul]
  lia
theorem deepL_le_of {B:Nat}:∀ {ts:List T},(∀ t∈ts,t.deep+1≤B)→deepL ts≤B
 | [],_=>by rw [deepL_nil]; lia
 | t::ts,h=>by
  have h1:=h t List.mem_cons_self
  have h2:=deepL_le_of fun u hu=>h u (List.mem_cons_of_mem _ hu)
  rw [deepL_cons]
  lia
theorem mem_parts:∀ {ts:List T}{t:T},t∈ts→t.parts≤partsL ts
 | _::ts,t,h=>by
  rw [partsL_cons]
  rcases List.mem_cons.mp h with rfl | h
  ·lia
  ·have:=mem_parts h
   lia
theorem mem_deep:∀ {ts:List T}{t:T},t∈ts→t.deep+1≤deepL ts
 | _::ts,t,h=>by
  rw [deepL_cons]
  rcases List.mem_cons.mp h with rfl | h
  ·lia
  ·have:=mem_deep h
   lia
end T
end Sw
namespace Sw
open PySem PySem.Spec PyProof.Rows L2
abbrev Sg:=List (Option V)
def blk (X:Cx) (scope:Scope) (cl:List (Str×Addr)) (C:Addr) (N:List Str) (s:Shared) (H:Hp) (fp:List Addr) (pins:List (Addr×Obj)):Cx :=
 { X with N:=N,s₀:=s,H₀:=H,env:=compEnvC scope cl C X.env,outer:=X.stack,ex:=fp,fn:=fun _=>false,calm:=true,pn:=X.pn++pins,xe:=fun _ _=>False }
def FrOk (X:Cx) (scope:Scope):List Str→List Nat→Prop
 | [],[]=>True
 | y::fr,j::js=>(X.N[j]?=some y∧X.env.scope.names.lookup y=some .cell∧(relabel scope X.env).names.lookup y=some .cell)∧FrOk X scope fr js
 | _,_=>False
theorem FrOk.len {X:Cx}{scope:Scope}:∀ {fr:List Str}{js:List Nat},FrOk X scope fr js→fr.length=js.length
 | [],[],_=>rfl
 | _::_,_::_,h=>congrArg (· + 1) (FrOk.len h.2)
theorem FrOk.get {X:Cx}{scope:Scope}:∀ {fr:List Str}{js:List Nat},FrOk X scope fr js→∀ {i:Nat}{y:Str},fr[i]?=some y →
  ∃ j:Nat,js[i]?=some j∧X.N[j]?=some y∧X.env.scope.names.lookup y=some .cell∧(relabel scope X.env).names.lookup y=some .cell
 | [],[],_,i,y,e=>by simp at e
 | z::fr,j::js,h,0,y,e=>by
  have e':z=y:=by simpa using e
  subst e'
  exact⟨j,rfl,h.1⟩
 | z::fr,j::js,h,i+1,y,e=>by
  obtain⟨k,h1,h2⟩:=FrOk.get h.2 (i:=i) (y:=y) (by simpa using e)
  exact⟨k,by simpa using h1,h2⟩
structure LcOk (X:Cx) (scope:Scope) (x:Str) (fr:List Str) (js:List Nat) (cl:List (Str×Addr)):Prop where
 kind:scope.kind=.function
 clos:closureFor scope X.env=pure cl
 cell:∀ y∈scope.names,y.2≠.cell
 loc:∀ y∈scope.names,y.2=.local→scope.names.lookup y.1=some .local
 var:scope.names.lookup x=some .local
 sub:∀ y c,cl.lookup y=some c→X.env.cells.lookup y=some c
 has:∀ y,((relabel scope X.env).names.lookup y=some .cell∨(relabel scope X.env).names.lookup y=some .free)→∃ c,cl.lookup y=some c
 frk:FrOk X scope fr js
 nd:(x::fr).Nodup
section
variable {X:Cx}{pins:List (Addr×Obj)}{σ:Sg}{H:Hp}{s:Shared}{scope:Scope}{cl:List (Str×Addr)}{x:Str}{fr:List Str}{js:List Nat}{fp:List Addr}
theorem blk_ok {N:List Str} (I:Inv X pins σ H s) (L:LcOk X scope x fr js cl) (hc:X.calm=true) (hfp:∀ b∈fp,FpOk X pins H b) (hsz:∀ b∈fp,b<s.heap.objs.size) :
  (blk X scope cl s.heap.objs.size N s H fp pins).Ok where
 mod:=I.ok.mod
 kind:=L.kind
 glob:=I.ok.glob
 blt:=I.ok.blt
 above:=Nat.le_refl _
 inj:=fun y z c h1 h2=>I.ok.inj y z c (L.sub y c h1) (L.sub z c h2)
 has:=fun y hy=>L.has y hy
 cab:=fun y c h _=>absurd (show false=true from h) Bool.false_ne_true
 hd:=fun _=>I.ok.hd hc
 frames:=I.ok.frames
 stk:=.inl rfl
 exf:=fun b hb=>⟨Nat.ne_of_lt (hsz b hb),fun y c h=>(hfp b hb).2.2.2.2.1 y c (L.sub y c h)⟩
 bs:=I.bs
 bsz:=Nat.le_trans I.ok.bsz I.sz
 noex:=fun b o e hb=>by
  rcases (hfp b hb).2.2.2.1 with z | z
  ·exact I.ok.noex b o e z
  ·exact absurd (Nat.lt_of_lt_of_le (Nat.lt_of_lt_of_le (Heap.lt_size e) I.ok.bsz) z) (Nat.lt_irrefl _)
 exfs:=fun b hb z=>by
  rcases List.mem_cons.mp (I.stkSub b z) with e | e
  ·exact (hfp b hb).2.1 e
  ·exact (hfp b hb).2.2.1 e
 funs:=I.stack
 frf:=I.stkFree
def frv (σ:Sg) (js:List Nat):Sg:=js.map fun j=>(σ[j]?).getD none
theorem blk_inv {h1:Heap}{m1:Str→Option Value}{tk:Nat} (I:Inv X pins σ H s) (L:LcOk X scope x fr js cl) (hc:X.calm=true) (hfp:∀ b∈fp,FpOk X pins H b) (hsz:∀ b∈fp,b<s.heap.objs.size)
  (hn:h1.Ns s.heap.objs.size m1) (hk:∀ b o,s.heap.get? b=some o→h1.get? b=some o) :
  Inv (blk X scope cl s.heap.objs.size (x::fr) s H fp pins) [] (none::frv σ js) H { s with heap:=h1,toks:=tk }:=by
 refine⟨blk_ok I L hc hfp hsz,rfl,I.bare,Un.kept hk,⟨m1,hn,fun i y v e1 e2 _=>?_⟩,fun y c e=>?_,I.hok.fresh (Nat.le_refl _),fun y c e=>I.freeC y c (L.sub y c e),fun p hp=>?_,I.hok.kept hk,?_⟩
 ·cases i with
  | zero=>exact absurd e2 (by simp)
  | succ i =>
   have e1':fr[i]?=some y:=by simpa [blk] using e1
   obtain⟨j,hj,hN,hcell,hrel⟩:=L.frk.get e1'
   have e2':σ[j]?=some (some v):=by
    have q:(frv σ js)[i]?=some (some v):=by simpa using e2
    unfold frv at q
    rw [List.getElem?_map,hj] at q
    have q':(σ[j]?).getD none=some v:=by simpa using q
    cases hs:σ[j]? with
    | none=>rw [hs] at q'; cases q'
    | some o=>rw [hs] at q'; exact congrArg some q'
   obtain⟨m,_,hl⟩:=I.loc
   obtain⟨u,r,lk⟩:=hl j y v hN e2' (.inr (.inl hcell))
   refine⟨u,r,.inr ⟨.inl hrel,?_⟩⟩
   rcases lk with⟨hloc,_⟩ | ⟨_,c,hc1,hc2⟩
   ·have:X.env.scope.names.lookup y=some .local:=hloc
    rw [hcell] at this; cases this
   ·obtain⟨c',hc'⟩:=L.has y (.inl hrel)
    have e3:=L.sub y c' hc'
    rw [hc1] at e3; cases e3
    exact⟨c,hc',hc2.keeps hk⟩
 ·obtain⟨v,hv⟩:=I.cell y c (L.sub y c e)
  exact⟨v,hv.keeps hk⟩
 ·have hp':p∈X.pn++pins:=by simpa [blk] using hp
  obtain⟨a1,a2,a3,a4,a5⟩:=I.pin p hp'
  refine⟨hk _ _ a1,a2,Nat.ne_of_lt (Heap.lt_size a1),fun z=>?_,a5⟩
  rcases List.mem_cons.mp (I.stkSub _ z) with e | e
  ·exact a3 e
  ·exact a4 e
 ·show (none::frv σ js).length=(x::fr).length
  simp [frv,L.frk.len]
theorem blk_back {H':Hp}{s':Shared}{h':Heap}{σ':Sg}{N:List Str}{pins':List (Addr×Obj)} (I:Inv X pins σ H s) (J:Inv (blk X scope cl s.heap.objs.size N s H fp pins) pins' σ' H' s') (hfp:∀ b∈fp,FpOk X pins H b)
  (hsb:Heap.SameBut s.heap.objs.size s'.heap h'):Inv X pins σ H' { s' with heap:=h' }:=by
 have hos:s'.os=s.os:=J.os
 have nC:H' s.heap.objs.size=none:=J.free
 have kp:∀ b,b≠s.heap.objs.size→h'.get? b=s'.heap.get? b:=hsb.2
 have low:∀ b o,s.heap.get? b=some o→b≠s.heap.objs.size:=fun b o e=>Nat.ne_of_lt (Heap.lt_size e)
 have u:Un (frs X.stack) fp H H' s.heap h':=by
  have u0:Un (frs X.stack) fp H H' s.heap s'.heap:=J.base
  exact⟨fun b o e n h1 h2=>(kp b (low b o e)).trans (u0.keep b o e n h1 h2),fun b o e n h1 h2=>by
    obtain⟨sl,q⟩:=u0.slot b o e n h1 h2
    exact⟨sl,(kp b (low b o e)).trans q⟩,u0.free,fun b o e h1=>by
    obtain⟨o',q⟩:=u0.there b o e h1
    exact⟨o',(kp b (low b o e)).trans q⟩,u0.tups,u0.frzs,u0.tbls⟩
 have hok:HOk X.prog X.w H' h':=fun b o e=>by
  refine (J.hok b o e).stay (fun c v hc q=>(kp c ?_).trans q) (fun _ q=>q) fun _ _ q=>q
  rcases hc with z | z
  ·rw [z]; intro z'; rw [z',nC] at e; cases e
  ·intro z'; rw [z',nC] at z; cases z
 have q:=I.call (g':=s'.gens) (t':=s'.toks) (d':=s'.drawn) u hok J.bare fun b hb=>⟨(hfp b hb).2.2.2.1,(hfp b hb).2.1,(hfp b hb).2.2.2.2.1,(hfp b hb).2.2.2.2.2⟩
 obtain⟨hp,g,d,tk,os⟩:=s'
 have:os=s.os:=hos
 subst this
 exact q
end
def LcRun (J:It) (js:List Nat) (te:TE) (σ:Sg) (Q:VK) (H1:Hp):Prop:=∀ D,H1 D=none →
 ∃ W:Nat→Nat→List V→Hp→Prop,(∃ m,W 0 m [] (upd H1 D (.lst [])))∧∀ i m ys H',W i m ys H'→H' D=some (.lst ys) ∧
  ((J.stop i H'∧Q (.ref D) H')∨(J.go i H'∧∀ x H2,J.yld i H' x H2→te (some x::frv σ js) H2 fun y H3=>H3 D=some (.lst ys)∧ys.length<sizeLine ∧
   ∃ m',m'<m∧W (i+1) m' (ys++[y]) (upd H3 D (.lst (ys++[y])))))
def tLC (wi:TI) (js:List Nat) (te:TE):TE:=fun σ H Q=>wi σ H fun J H1=>LcRun J js te σ Q H1
section
variable {X:Cx}{scope:Scope}{cl:List (Str×Addr)}{x:Str}{fr:List Str}{js:List Nat}{elt iter:Expr}{px pos:Pos}{wi:TI}{te:TE}
theorem lc_loop {prog:Program}{w:World}{A:Around}{R:Result→Shared→Prop}{s:Shared}{tg:Expr}{it acc:Value}{env:Env} (Iv:Nat→Shared→Prop)
  (turn:∀ n s,Iv n s→wpAny (model prog w) A (pyNext it) (fun r s1=>match r with
   | none=>R (.ok .next) s1
   | some v=>wpAny (model prog w) A (letOwnedTupleGo tg it v) (fun _ s2=>wpAny (model prog w) A (assign tg env v) (fun _ s3=>wpAny (model prog w) A (eval elt env) (fun y s4 =>
     wpAny (model prog w) A (call (.builtin "list.append") [acc,y]) (fun _ s5=>∃ m,m<n∧Iv m s5) (fun _ _=>False) s4) (fun _ _=>False) s3) (fun _ _=>False) s2) (fun _ _=>False) s1) (fun _ _=>False) s)
  (n:Nat) (h:Iv n s):codeAny (model prog w) A (.compLoop (.ListComp elt [⟨tg,iter,[],0⟩] scope pos) 0 it acc env) R s:=by
 refine codeAny_loop rfl Iv (fun n s hI=>?_) n h
 refine wpAny_noted ?_
 rw [compTurn_list1]
 refine wpAny_bind (wpAny_standAt (wpAny_bind (wpAny_mono (turn n s hI) (fun r s1 h1=>?_) fun _ _ z=>z.elim)))
 cases r with
 | none=>exact wpAny_pure h1
 | some v =>
  refine wpAny_bind (wpAny_mono h1 (fun _ s2 h2=>?_) fun _ _ z=>z.elim)
  refine wpAny_bind (wpAny_mono h2 (fun _ s3 h3=>?_) fun _ _ z=>z.elim)
  refine wpAny_bind (wpAny_bind (wpAny_mono h3 (fun y s4 h4=>?_) fun _ _ z=>z.elim))
  refine wpAny_bind (wpAny_mono h4 (fun _ s5 h5=>?_) fun _ _ z=>z.elim)
  exact wpAny_pure (wpAny_pure ⟨rfl,h5⟩)
theorem pe_lc (hc:X.calm=true) (L:LcOk X scope x fr js cl) (hi:PI X (.Name x px) iter wi)
  (he:∀ C s H fp pins,PE (blk X scope cl C (x::fr) s H fp pins) elt te)
  (hs:∀ v,foldedSetIterable iter X.env v=pure v:=by intro _; rfl) :
  PE X (.ListComp elt [⟨.Name x px,iter,[],0⟩] scope pos) (tLC wi js te):=by
 intro pins s σ H Q I h
 rw [eval_ListComp]
 refine wpAny_comprehension_free (use:=none) rfl hs L.clos L.kind L.loc (thn (hi pins s σ H _ I h) fun v s1 h1=>thn h1 fun itv s2 h2=>?_)
 obtain⟨it,fp,tn,J,H2,e,I2,T,st2,f2,rd⟩:=h2
 subst e
 obtain⟨W,⟨m0,w0⟩,turn⟩:=rd _ I2.fresh
 have I3:=I2.lnew (ys:=[]) (its:=[]) (t':=s2.toks) .nil (Nat.zero_le _)
 refine wpAny_newObj_type ?_
 have fsz2:∀ b∈fp,b<s2.heap.objs.size:=fun b hb=>by
  obtain⟨o,ho,_⟩:=T.obj 0 _ st2 b hb
  exact Heap.lt_size ho
 generalize hs3:({ s2 with heap:=s2.heap.push { cls:=.type "list",dict:=none,data:=.seq ([]:List Value).toArray } }:Shared)=s3
 have I3':Inv X pins σ (upd H2 s2.heap.objs.size (.lst [])) s3:=by rw [← hs3]; exact I3
 have sz3:s3.heap.objs.size=s2.heap.objs.size+1:=by rw [← hs3]; exact Heap.size_push ..
 have k23:∀ b o,s2.heap.get? b=some o→s3.heap.get? b=some o:=fun b o e=>by rw [← hs3]; exact Heap.get?_push_of_some _ e
 have fsz:∀ b∈fp,b<s3.heap.objs.size:=fun b hb=>by rw [sz3]; exact Nat.lt_succ_of_lt (fsz2 b hb)
 have f3:∀ b∈fp,FpOk X pins (upd H2 s2.heap.objs.size (.lst [])) b:=fun b hb=>⟨by rw [upd_ne (Nat.ne_of_lt (fsz2 b hb))]; exact (f2 b hb).1,(f2 b hb).2⟩
 refine wpAny_newFunctionEnv L.cell (by intro y hy; simp at hy) (fun h4 hn4 hsb4=>?_) L.kind
 have k34:∀ b o,s3.heap.get? b=some o→h4.get? b=some o:=fun b o e=>(hsb4.2 b (Nat.ne_of_lt (Heap.lt_size e))).trans (Heap.get?_push_of_some _ e)
 generalize hX':blk X scope cl s3.heap.objs.size (x::fr) s3 (upd H2 s2.heap.objs.size (.lst [])) fp pins=X'
 have I4:Inv X' [] (none::frv σ js) (upd H2 s2.heap.objs.size (.lst [])) { s3 with heap:=h4,toks:=s3.toks+([]:List (Str×Value)).length }:=by
  rw [← hX']; exact blk_inv I3' L hc f3 fsz hn4 k34
 have st4:tn 0 h4:=T.keep _ _ _ st2 fun b _ o e=>k34 b o (k23 b o e)
 have he':PE X' elt te:=by rw [← hX']; exact he _ _ _ _ _
 have xp:X'.prog=X.prog:=by rw [← hX']; rfl
 have xw:X'.w=X.w:=by rw [← hX']; rfl
 have xK:X'.K=X.K:=by rw [← hX']; rfl
 have xA:X'.A=X.A:=by rw [← hX']; rfl
 have xc:X'.calm=true:=by rw [← hX']; rfl
 have xe:X'.xe=fun _ _=>False:=by rw [← hX']; rfl
 have xn:X'.N=x::fr:=by rw [← hX']; rfl
 have xv:X'.env=compEnvC scope cl s3.heap.objs.size X.env:=by rw [← hX']; rfl
 have xpn:X'.pn=X.pn++pins:=by rw [← hX']; rfl
 have xex:X'.ex=fp:=by rw [← hX']; rfl
 have xfs:X'.fs=frs X.stack:=by rw [← hX']; rfl
 have back:∀ {H':Hp}{s':Shared}{h':Heap}{σ':Sg},Inv X' [] σ' H' s'→Heap.SameBut s3.heap.objs.size s'.heap h'→Inv X pins σ H' { s' with heap:=h' }:=fun {H' s' h' σ'} J' hsb=>by
  rw [← hX'] at J'; exact blk_back I3' J' f3 hsb
 have frame:∀ b∈fp,b ∉ frs X.stack:=fun b hb z=>by
  rcases List.mem_cons.mp (I3'.stkSub b z) with e | e
  ·exact (f3 b hb).2.1 e
  ·exact (f3 b hb).2.2.1 e
 have stat:∀ {H':Hp},(∀ b∈fp,H' b=none)→∀ b∈fp,FpOk X' [] H' b:=fun {H'} hn b hb=>by
  refine⟨hn b hb,?_,?_,.inl (by rw [xex]; exact hb),?_,?_⟩
  ·rw [xv]; exact Nat.ne_of_lt (fsz b hb)
  ·rw [xfs]; exact frame b hb
  ·rw [xv]; exact fun y c e=>(f3 b hb).2.2.2.2.1 y c (L.sub y c e)
  ·rw [xpn,List.append_nil]; exact (f3 b hb).2.2.2.2.2
 have loop:codeAny (model X.prog X.w) X.A (.compLoop (.ListComp elt [⟨.Name x px,iter,[],0⟩] scope pos) 0 (.ref it) (.ref s2.heap.objs.size) (compEnvC scope cl s3.heap.objs.size X.env))
   (compPost (model X.prog X.w) X.A X.xe none (EP X pins σ Q) (.ref s2.heap.objs.size) s3.heap.objs.size) { s3 with heap:=h4,toks:=s3.toks+([]:List (Str×Value)).length }:=by
  refine lc_loop (fun n s'=>∃ i ys o H',Inv X' [] (o::frv σ js) H' s'∧tn i s'.heap∧(∀ b∈fp,H' b=none)∧W i n ys H') ?_ m0 ⟨0,[],none,_,I4,st4,fun b hb=>(f3 b hb).1,w0⟩
  rintro n s5 ⟨i,ys,o,H5,I5,st5,fr5,w5⟩
  obtain⟨hD,hstep⟩:=turn i n ys H5 w5
  rcases hstep with⟨stop,qn⟩ | ⟨go,step⟩
  ·have q:=T.done X' xp xw xK xc i [] s5 _ H5 (fun _ _=>False) I5 (stat fr5) st5 stop
   rw [xA] at q
   refine thn q fun r s6 ⟨hr,I6⟩=>?_
   subst hr
   obtain⟨m6,hn6,_⟩:=I6.loc
   rw [xv] at hn6
   exact⟨m6,hn6,fun h' hsb=>⟨.ref s2.heap.objs.size,H5,back I6 hsb,rfl,qn⟩⟩
  ·have q:=T.item X' xp xw xK xc i [] s5 _ H5 (fun _ _=>False) I5 (stat fr5) st5 go
   rw [xA] at q
   refine thn q fun r s6 ⟨u,hr,h6⟩=>?_
   subst hr
   refine thn h6 fun _ s7 ⟨xx,H7,I7,r7,y7,st7,fr7⟩=>?_
   have I7':=I7.pinned (stat fr7) (T.obj _ _ st7)
   have hg:PG X' (.Name x px) (gName 0):=by
    refine pg_name (i:=0) (x:=x) (by rw [xn]; exact L.nd) (by rw [xn]; rfl) ?_ ?_
    ·rw [xv]; exact .inl (lookup_relabel_local L.var)
    ·rw [xv]; exact .inr (lookup_relabel_local L.var)
   have q7:=hg _ s7 _ H7 xx u (fun σ8 H8=>σ8=some xx::frv σ js∧H8=H7) I7' r7 ⟨rfl,rfl⟩
   rw [xp,xw,xA,xe,xv] at q7
   refine thn q7 fun _ s8 ⟨σ8,H8,I8,e8,e8'⟩=>?_
   subst e8 e8'
   have q8:=he' _ s8 _ _ _ I8 (step xx _ y7)
   rw [xp,xw,xA,xe,xv] at q8
   refine thn q8 fun yv s9 ⟨y,H9,I9,r9,d9,z9,m9,hm9,w9⟩=>?_
   have q9:=mt_append (X:=X') _ s9 _ H9 (.ref s2.heap.objs.size) [y] (.ref s2.heap.objs.size) [yv] (fun z H'=>H'=upd H9 s2.heap.objs.size (.lst (ys++[y]))) I9 rfl (.cons r9 .nil) ⟨_,ys,y,rfl,rfl,d9,z9,rfl⟩
   rw [xp,xw,xA,xe] at q9
   refine thn q9 fun _ s10 ⟨_,H10,I10,_,e10⟩=>?_
   subst e10
   refine⟨m9,hm9,i+1,ys++[y],some xx,_,I10.unpinned,T.keep _ _ _ st7 fun b hb ob e=>(I10.pin (b,ob) (List.mem_append_right _ (List.mem_append_right _ (mem_pinsAt hb e)))).1,fun b hb=>?_,w9⟩
   obtain⟨ob,e,_⟩:=T.obj _ _ st7 b hb
   exact (I10.pin (b,ob) (List.mem_append_right _ (List.mem_append_right _ (mem_pinsAt hb e)))).2.1
 exact codeAny_compStart_list loop (T.self _ 0 _ _ _ st4 loop)
end
end Sw
namespace Sw
open PySem PySem.Spec PyProof.Rows L2
def clOf (cells:List (Str×Addr)):List (Str×NameKind)→List (Str×Addr)→List (Str×Addr)
 | [],acc=>acc
 | (n,.free)::r,acc=>match cells.lookup n with
  | some c=>clOf cells r ((n,c)::acc)
  | none=>clOf cells r acc
 | (_,_)::r,acc=>clOf cells r acc
theorem clOf_skip {cells:List (Str×Addr)}{n:Str}{k:NameKind}{r:List (Str×NameKind)}{acc:List (Str×Addr)} (h:k≠.free):clOf cells ((n,k)::r) acc=clOf cells r acc:=by
 cases k <;> first | rfl | exact absurd rfl h
theorem clOf_free {cells:List (Str×Addr)}{n:Str}{c:Addr}{r:List (Str×NameKind)}{acc:List (Str×Addr)} (h:cells.lookup n=some c):clOf cells ((n,.free)::r) acc=clOf cells r ((n,c)::acc):=by
 rw [clOf,h]
theorem clOf_sub {cells:List (Str×Addr)}:∀ {names:List (Str×NameKind)}{acc:List (Str×Addr)},(∀ y∈names,y.2=.free→∃ c,cells.lookup y.1=some c)→(∀ y c,acc.lookup y=some c→cells.lookup y=some c) →
  ∀ y c,(clOf cells names acc).lookup y=some c→cells.lookup y=some c
 | [],_,_,h,y,c,e=>h y c e
 | (n,k)::r,acc,hf,h,y,c,e=>by
  have hr:∀ y∈r,y.2=.free→∃ c,cells.lookup y.1=some c:=fun y hy=>hf y (List.mem_cons_of_mem _ hy)
  by_cases hk:k=.free
  ·subst hk
   obtain⟨d,hd⟩:=hf (n,.free) List.mem_cons_self rfl
   rw [clOf_free hd] at e
   refine clOf_sub hr (fun z b hz=>?_) y c e
   rw [List.lookup_cons] at hz
   cases hzn:z == n with
   | true =>
    rw [hzn] at hz
    have:z=n:=eq_of_beq hzn
    rw [this,hd]
    exact hz
   | false =>
    rw [hzn] at hz
    exact h z b hz
  ·rw [clOf_skip hk] at e
   exact clOf_sub hr h y c e
theorem clOf_has {cells:List (Str×Addr)}:∀ {names:List (Str×NameKind)}{acc:List (Str×Addr)},(∀ y∈names,y.2=.free→∃ c,cells.lookup y.1=some c) →
  ∀ y:Str,((y,NameKind.free)∈names∨∃ c,acc.lookup y=some c)→∃ c,(clOf cells names acc).lookup y=some c
 | [],_,_,y,h=>by
  rcases h with h | h
  ·simp at h
  ·exact h
 | (n,k)::r,acc,hf,y,h=>by
  have hr:∀ y∈r,y.2=.free→∃ c,cells.lookup y.1=some c:=fun y hy=>hf y (List.mem_cons_of_mem _ hy)
  by_cases hk:k=.free
  ·subst hk
   obtain⟨d,hd⟩:=hf (n,.free) List.mem_cons_self rfl
   rw [clOf_free hd]
   refine clOf_has hr y ?_
   by_cases hyn:y=n
   ·subst hyn
    exact .inr ⟨d,by simp [List.lookup_cons]⟩
   ·rcases h with h | ⟨c,h⟩
    ·rcases List.mem_cons.mp h with e | e
     ·exact absurd (congrArg Prod.fst e) hyn
     ·exact .inl e
    ·refine .inr ⟨c,?_⟩
     rw [List.lookup_cons]
     have:(y == n)=false:=by simpa using hyn
     rw [this]
     exact h
  ·rw [clOf_skip hk]
   refine clOf_has hr y ?_
   rcases h with h | h
   ·rcases List.mem_cons.mp h with e | e
    ·exact absurd (congrArg Prod.snd e).symm hk
    ·exact .inl e
   ·exact .inr h
theorem closure_eq {scope:Scope}{env:Env} (hf:∀ y∈scope.names,y.2=.free→∃ c,env.cells.lookup y.1=some c):closureFor scope env=pure (clOf env.cells scope.names []):=by
 have key:∀ (names:List (Str×NameKind)) (acc:List (Str×Addr)),(∀ y∈names,y.2=.free→∃ c,env.cells.lookup y.1=some c) →
   (forIn names acc fun (x:Str×NameKind) (cs:List (Str×Addr))=>(match x with | (name,kind)=>if (kind == NameKind.free)=true then (cellOf env name >>= fun a=>pure (ForInStep.yield ((name,a)::cs))) else pure (ForInStep.yield cs):Sem (ForInStep (List (Str×Addr)))))=pure (clOf env.cells names acc):=by
  intro names
  induction names with
  | nil=>intro acc _; rfl
  | cons x r ih =>
   intro acc h
   obtain⟨n,k⟩:=x
   have hr:∀ y∈r,y.2=.free→∃ c,env.cells.lookup y.1=some c:=fun y hy=>h y (List.mem_cons_of_mem _ hy)
   rw [List.forIn_cons]
   by_cases hk:k=.free
   ·subst hk
    obtain⟨d,hd⟩:=h (n,.free) List.mem_cons_self rfl
    have hc:cellOf env n=pure d:=by unfold cellOf; rw [hd]
    rw [clOf_free hd,← ih _ hr]
    simp only [beq_self_eq_true,if_true,hc,pure_bind]
   ·have hb:(k == NameKind.free)=false:=by simpa using hk
    rw [clOf_skip hk,← ih _ hr]
    simp only [hb,Bool.false_eq_true,if_false,pure_bind]
 have:=key scope.names [] hf
 unfold closureFor
 simp only [bind_pure_comp,map_pure] at this ⊢
 first
  | exact this
  | (rw [this]; rfl)
  | (simp only [this]; rfl)
theorem lc_free {X:Cx}{scope sc:Scope}{x:Str}{fr:List Str}{js:List Nat} (hk:scope.kind=.function) (hsc:X.env.scope=sc) (hkf:sc.kind=.function)
  (hcell:∀ y∈scope.names,y.2≠.cell) (hloc:∀ y∈scope.names,y.2=.local→scope.names.lookup y.1=some .local) (hvar:scope.names.lookup x=some .local)
  (hfree:∀ y∈scope.names,y.2=.free→sc.names.lookup y.1=some .cell) (hfr:FrOk X scope fr js) (hnd:(x::fr).Nodup)
  (hcs:∀ y,X.env.scope.names.lookup y=some .cell→∃ c,X.env.cells.lookup y=some c):LcOk X scope x fr js (clOf X.env.cells scope.names []):=by
 have hall:∀ y∈scope.names,y.2=.free→∃ c,X.env.cells.lookup y.1=some c:=fun y hy e=>hcs _ (by rw [hsc]; exact hfree y hy e)
 refine⟨hk,closure_eq hall,hcell,hloc,hvar,clOf_sub hall fun y c e=>by simp at e,fun y hy=>clOf_has hall y (.inl ?_),hfr,hnd⟩
 have get:∀ k,(k=NameKind.cell∨k=NameKind.free)→(relabel scope X.env).names.lookup y=some k→(y,NameKind.free)∈scope.names:=fun k hkk e=>by
  have hm:=PySem.mem_of_lookup e
  unfold relabel at hm
  obtain⟨⟨n,k0⟩,hin,heq⟩:=List.mem_map.mp hm
  dsimp only at heq
  split at heq
  ·rename_i hc
   have e1:n=y:=congrArg Prod.fst heq
   have e2:k0=.free:=by
    rw [Bool.and_eq_true,Bool.and_eq_true] at hc
    exact eq_of_beq hc.1.1
   rw [← e1,← e2]
   exact hin
  ·have e1:n=y:=congrArg Prod.fst heq
   have e2:k0=k:=congrArg Prod.snd heq
   rcases hkk with z | z
   ·exact absurd (by rw [e2,z]) (hcell _ hin)
   ·rw [← e1,← z,← e2]
    exact hin
 rcases hy with h | h
 ·exact get _ (.inl rfl) h
 ·exact get _ (.inr rfl) h
end Sw
namespace Sw
open PySem PySem.Spec PyProof.Rows L2
theorem same_new {H:Hp}{p:Addr} (h:H p=none) (o:HO):Same H (upd H p o):=fun b u q=>by rw [upd_ne (ne_of_none q h)]; exact q
structure Kt (H H':Hp):Prop where
 t:∀ b xs,H b=some (.tup xs)→H' b=some (.tup xs)
 f:∀ b o u,H b=some (.frz o u)→H' b=some (.frz o u)
theorem Kt.of {H H':Hp} (S:Same H H'):Kt H H':=⟨fun b _ e=>S b _ e,fun b _ _ e=>S b _ e⟩
theorem Kt.refl (H:Hp):Kt H H:=⟨fun _ _ e=>e,fun _ _ _ e=>e⟩
theorem Kt.trans {H H1 H2:Hp} (a:Kt H H1) (b:Kt H1 H2):Kt H H2:=⟨fun _ _ e=>b.t _ _ (a.t _ _ e),fun _ _ _ e=>b.f _ _ _ (a.f _ _ _ e)⟩
theorem Kt.new {H:Hp}{p:Addr}{o:HO} (h:H p=none):Kt H (upd H p o):=.of (same_new h o)
theorem Kt.lst {H:Hp}{p:Addr}{ys:List V}{o:HO} (h:H p=some (.lst ys)):Kt H (upd H p o) :=
 ⟨fun b xs e=>by rw [upd_ne (ne_of e h (fun z=>by cases z))]; exact e,fun b o' u e=>by rw [upd_ne (ne_of e h (fun z=>by cases z))]; exact e⟩
theorem sqT_mono {K:PySem.W.Frag}{H H':Hp}{a:Addr}{xs:List V} (S:Kt H H') (h:SqT K H a xs):SqT K H' a xs:=by
 rcases h with (h | ⟨o,h⟩) | h
 ·exact .inl (.inl (S.t _ _ h))
 ·exact .inl (.inr ⟨o,S.f _ _ _ h⟩)
 ·exact .inr h
theorem same_upd {H H':Hp}{p:Addr}{o:HO} (S:Same H H') (h:H p=none):Same H (upd H' p o):=fun b u q=>by rw [upd_ne (ne_of_none q h)]; exact S b u q
section
variable {X:Cx}
theorem extend_tuple_meets (l:Addr) (items:Array Value) (n:Nat) (b:Addr) (items2:Array Value) (n2:Nat) (dd:Option Addr) (sl:Array (Option Value))
  (h0:¬ (!items.isEmpty && Builtin.List.listTooLong (items.size+items2.size))=true) (h1:items.size≤sizeLine) (h2:items.size+items2.size≤sizeLine+1) :
  Meets (Builtin.«list.extend» ⟨[.ref l,.ref b],[]⟩) (fun _ R s=>s.heap.get? l=some { cls:=.type "list",dict:=none,data:=.seq items n,slots:=#[] } ∧
   s.heap.get? b=some { cls:=.type "tuple",dict:=dd,data:=.seq items2 n2,slots:=sl }∧R (.ok (.ret Value.none)) { s with heap:=s.heap.update l (Obj.mapSeq fun x=>x++items2),toks:=s.toks }) :=
 .of_wp fun prog w A R s h=>by
  obtain⟨hp,g,d,tk,os⟩:=s
  obtain⟨hl,hb,h⟩:=h
  have f1:=AutoSeq1.idx_int
  have f2:=AutoSeq1.sub_tuple_tuple
  have f3:=AutoSeq1.sub_list_list
  have f4:=AutoSeq1.sub_tuple_list
  have f5:=AutoSeq1.sub_list_tuple
  have hz':(items++items2).size≤sizeLine+1:=by
   rw [Array.size_append]
   exact h2
  wp_walk using (wpAny_updateSeq hl rfl (hz:=h1) (_hz':=hz')),AutoSeq1.wpAny_loadPart' hl,AutoSeq1.wpAny_loadPart' hb
  exact⟨_,rfl,h⟩
def rExtT (K:PySem.W.Frag):V→List V→Hp→VK→Prop:=fun x vs H Q=>∃ l b xs zs,x=.ref l∧vs=[.ref b]∧H l=some (.lst xs)∧SqT K H b zs∧xs.length+zs.length≤sizeLine∧Q .non (upd H l (.lst (xs++zs)))
theorem mt_extT:MtM X "list.extend" (rExtT X.K):=by
 intro pins s σ H x vs v us Q I rx rv h
 obtain⟨l,b,xs,zs,rfl,rfl,hH,hB,hz,q⟩:=h
 cases rx
 obtain⟨u,rfl,ru⟩:=rv.one
 cases ru
 obtain⟨z,its,n,r,hl,e⟩:=I.lstM hH
 obtain⟨its2,r2,⟨⟨c2,d2,dt2,sl2⟩,e2,hc2,n2,hd2⟩,z2⟩:=I.tuple hB
 have hl2:=r2.length
 simp only at hc2 hd2
 subst hc2 hd2
 have hsz:its.toArray.size+its2.toArray.size≤sizeLine:=by rw [List.size_toArray,List.size_toArray]; lia
 have hlong:¬ (!its.toArray.isEmpty && Builtin.List.listTooLong (its.toArray.size+its2.toArray.size))=true:=by
  rw [notLongL hsz,Bool.and_false]
  exact Bool.false_ne_true
 refine call_meets F.slot_list_extend ⟨_,e,rfl⟩ F.entry_list_extend (F.args_list_extend_2 _ _)
  (extend_tuple_meets l its.toArray n b its2.toArray n2 d2 sl2 hlong (by rw [List.size_toArray]; lia) (by lia)) ⟨e,e2,?_⟩
 refine⟨.non,_,I.lset (its':=its++its2) hH e (by simp) (r.append r2) ?_,rfl,q⟩
 rw [List.length_append]
 lia
theorem getItem_tuple_whole {prog:Program}{w:World}{A:Around}{E:Value→Shared→Prop}{s:Shared}{t sl:Addr}{items:Array Value}{vl vu:Value}{lo hi:Option Int}{Q:Value→Shared→Prop}
  (ht:IsTup s.heap t items) (hs:s.heap.IsSliceOf sl vl vu .none) (pl:IsPart vl lo) (pu:IsPart vu hi)
  (h1:HT.sIx items.size 0 lo=0) (h2:HT.sIx items.size items.size hi=items.size) (h:Q (.ref t) s):wpAny (model prog w) A (getItem (.ref t) (.ref sl)) Q E s:=by
 obtain⟨os,hos,hcs,hds⟩:=id hs
 have hTs:s.TypeIs (.ref sl) "slice":=⟨os,hos,hcs⟩
 unfold getItem
 try with_reducible refine wpAny_holding ?_
 first | refine wpAny_bind (wpAny_pure ?_) | skip
 refine wpAny_bind (wpAny_sequenceKey ht.typeIs (by decide) ?_)
 refine wpAny_bind (wpAny_callSpecial?_slot (name:=Str.ofString "__getitem__") ht.typeIs PyProof.Rows.slot_tuple_getitem
  (wpAny_call_entry PyProof.Rows.slot_tuple_getitem ht.typeIs entry_tuple_getitem ?_ (args_tuple_getitem _ _)))
 show wpAny _ _ (Builtin.Tuple.tupleItemsOf (.ref t) >>= _) _ _ s
 refine wpAny_bind (tupleItemsOf_ ht ?_)
 refine wpAny_bind (wpAny_typeOf hTs ?_)
 rw [if_pos (by decide)]
 refine wpAny_bind (HT.sliceApplied_gen hs pl pu ?_)
 have hyes:(((HT.sIx items.size 0 lo:Nat):Int) == 0 && (1:Int) == 1 && (HT.sIx items.size items.size hi - HT.sIx items.size 0 lo) == items.size)=true:=by
  rw [h1,h2]
  simp
 show wpAny _ _ (if (((HT.sIx items.size 0 lo:Nat):Int) == 0 && (1:Int) == 1 && (HT.sIx items.size items.size hi - HT.sIx items.size 0 lo) == items.size)=true then _ else _) _ _ s
 rw [if_pos hyes]
 unfold Builtin.Tuple.tupleIsExact
 refine wpAny_bind (wpAny_bind (wpAny_typeOf ht.typeIs (wpAny_pure ?_)))
 rw [if_pos (by decide)]
 refine wpAny_bind (wpAny_rule ?_)
 exact wpAny_pure ⟨_,rfl,wpAny_pure h⟩
def rSlTW (K:PySem.W.Frag):V→Option Int→Option Int→Hp→VK→Prop:=fun x lo hi H Q=>∃ a xs,x=.ref a∧SqT K H a xs ∧
 HT.sIx xs.length 0 lo=0∧HT.sIx xs.length xs.length hi=xs.length∧Q (.ref a) H
theorem sl_tupW:SlR X (rSlTW X.K):=by
 intro pins s σ H x v vl vu lo hi sl Q I rx hs pl pu h
 obtain⟨a,xs,rfl,hx,w1,w2,q⟩:=h
 cases rx
 obtain⟨its,r,ht,hz⟩:=I.tuple hx
 have hlen:its.toArray.size=xs.length:=by rw [List.size_toArray]; exact r.length.symm
 refine⟨"tuple",_,PyProof.Rows.slot_tuple_getitem.lookup,ht.typeIs,?_⟩
 exact getItem_tuple_whole ht hs pl pu (by rw [hlen]; exact w1) (by rw [hlen]; exact w2) ⟨.ref a,H,I,rfl,q⟩
def rSlTA (K:PySem.W.Frag):V→Option Int→Option Int→Hp→VK→Prop:=fun x lo hi H Q=>∃ a xs,x=.ref a∧SqT K H a xs∧∀ p H',Same H H'→SqT K H' p (cutV xs lo hi)→Q (.ref p) H'
theorem cutV_whole {xs:List V}{lo hi:Option Int} (h1:HT.sIx xs.length 0 lo=0) (h2:HT.sIx xs.length xs.length hi=xs.length):cutV xs lo hi=xs:=by
 unfold cutV
 rw [h1,h2]
 simp
theorem sl_tupA:SlR X (rSlTA X.K):=by
 intro pins s σ H x v vl vu lo hi sl Q I rx hs pl pu h
 obtain⟨a,xs,rfl,hx,q⟩:=h
 by_cases hw:HT.sIx xs.length 0 lo=0∧HT.sIx xs.length xs.length hi=xs.length
 ·exact sl_tupW pins s σ H _ v vl vu lo hi sl Q I rx hs pl pu ⟨a,xs,rfl,hx,hw.1,hw.2,q a H (Same.refl H) (by rw [cutV_whole hw.1 hw.2]; exact hx)⟩
 ·exact sl_tup pins s σ H _ v vl vu lo hi sl Q I rx hs pl pu ⟨a,xs,rfl,hx,hw,fun p hp=>q p _ (same_new hp _) (SqT.of upd_same)⟩
theorem call_isinstT:CallR X (.builtin "isinstance") (fun xs H Q=>∃ a ys T b,xs=[.ref a,.ty T]∧SqT X.K H a ys∧PySem.W.kitOne X.K (.type "tuple") (.type T)=some b∧Q (.bl b) H):=by
 intro pins s σ H xs us Q I r h
 obtain⟨a,ys,T,b,rfl,hq,e,q⟩:=h
 obtain⟨u,w',rfl,r1,r2⟩:=vals2 r
 cases r1
 cases r2
 obtain⟨its,_,⟨o,h1,h2,_⟩,_⟩:=I.tuple hq
 exact PySem.W.kia_one PySem.W.kitx_tuple I.kIn ⟨o,h1,h2⟩ e (fun z=>nomatch z) fun tk=>⟨.bl b,H,I.tok tk,rfl,q⟩
end
mutual
def TR (K:PySem.W.Frag) (H:Hp):T→V→Prop
 | .node ts,x=>∃ a xs,x=.ref a∧SqT K H a xs∧TRs K H ts xs
def TRs (K:PySem.W.Frag) (H:Hp):List T→List V→Prop
 | [],xs=>xs=[]
 | t::ts,xs=>∃ x r,xs=x::r∧TR K H t x∧TRs K H ts r
end
section
variable {K:PySem.W.Frag}{H H':Hp}
theorem TR_node {ts:List T}{x:V}:TR K H (.node ts) x↔∃ a xs,x=.ref a∧SqT K H a xs∧TRs K H ts xs:=by rw [TR]
theorem TRs_nil {xs:List V}:TRs K H [] xs↔xs=[]:=by rw [TRs]
theorem TRs_cons {t:T}{ts:List T}{xs:List V}:TRs K H (t::ts) xs↔∃ x r,xs=x::r∧TR K H t x∧TRs K H ts r:=by rw [TRs]
theorem TR_of {t:T}{x:V} (h:TR K H t x):∃ a xs,x=.ref a∧SqT K H a xs∧TRs K H t.kids xs:=by
 cases t with
 | node ts=>exact TR_node.mp h
theorem TR_mk {ts:List T}{a:Addr}{xs:List V} (h:SqT K H a xs) (q:TRs K H ts xs):TR K H (.node ts) (.ref a):=TR_node.mpr ⟨a,xs,rfl,h,q⟩
mutual
theorem TR.mono (S:Kt H H'):∀ {t:T}{x:V},TR K H t x→TR K H' t x
 | .node ts,x,h=>by
  obtain⟨a,xs,e,h1,h2⟩:=TR_node.mp h
  exact TR_node.mpr ⟨a,xs,e,sqT_mono S h1,TRs.mono S h2⟩
theorem TRs.mono (S:Kt H H'):∀ {ts:List T}{xs:List V},TRs K H ts xs→TRs K H' ts xs
 | [],xs,h=>by rw [TRs_nil] at h ⊢; exact h
 | t::ts,xs,h=>by
  obtain⟨x,r,e,h1,h2⟩:=TRs_cons.mp h
  exact TRs_cons.mpr ⟨x,r,e,TR.mono S h1,TRs.mono S h2⟩
end
theorem TRs.length:∀ {ts:List T}{xs:List V},TRs K H ts xs→xs.length=ts.length
 | [],xs,h=>by rw [TRs_nil] at h; rw [h]; rfl
 | t::ts,xs,h=>by
  obtain⟨x,r,e,h1,h2⟩:=TRs_cons.mp h
  rw [e,List.length_cons,List.length_cons,TRs.length h2]
theorem TRs.append:∀ {ts us:List T}{xs ys:List V},TRs K H ts xs→TRs K H us ys→TRs K H (ts++us) (xs++ys)
 | [],us,xs,ys,h,g=>by rw [TRs_nil] at h; rw [h]; exact g
 | t::ts,us,xs,ys,h,g=>by
  obtain⟨x,r,e,h1,h2⟩:=TRs_cons.mp h
  rw [e]
  exact TRs_cons.mpr ⟨x,r++ys,rfl,h1,TRs.append h2 g⟩
theorem TRs.get:∀ {ts:List T}{xs:List V},TRs K H ts xs→∀ {i:Nat}{x:V},xs[i]?=some x→∃ t,ts[i]?=some t∧TR K H t x
 | [],xs,h,i,x,e=>by rw [TRs_nil] at h; rw [h] at e; simp at e
 | t::ts,xs,h,i,x,e=>by
  obtain⟨y,r,rfl,h1,h2⟩:=TRs_cons.mp h
  cases i with
  | zero=>exact⟨t,rfl,by have e':y=x:=(by simpa using e);rw [← e']; exact h1⟩
  | succ i=>exact TRs.get h2 (i:=i) (by simpa using e)
theorem TRs.take:∀ (n:Nat) {ts:List T}{xs:List V},TRs K H ts xs→TRs K H (ts.take n) (xs.take n)
 | 0,ts,xs,h=>by rw [List.take_zero,List.take_zero,TRs_nil]
 | n+1,[],xs,h=>by rw [TRs_nil] at h; rw [h]; exact TRs_nil.mpr rfl
 | n+1,t::ts,xs,h=>by
  obtain⟨x,r,rfl,h1,h2⟩:=TRs_cons.mp h
  exact TRs_cons.mpr ⟨x,r.take n,rfl,h1,TRs.take n h2⟩
theorem TRs.drop:∀ (n:Nat) {ts:List T}{xs:List V},TRs K H ts xs→TRs K H (ts.drop n) (xs.drop n)
 | 0,ts,xs,h=>h
 | n+1,[],xs,h=>by rw [TRs_nil] at h; rw [h]; exact TRs_nil.mpr rfl
 | n+1,t::ts,xs,h=>by
  obtain⟨x,r,rfl,h1,h2⟩:=TRs_cons.mp h
  exact TRs.drop n h2
theorem TRs.dropLast {ts:List T}{xs:List V} (h:TRs K H ts xs):TRs K H ts.dropLast xs.dropLast:=by
 rw [List.dropLast_eq_take,List.dropLast_eq_take,h.length]
 exact h.take _
end
section
variable {X:Cx}{pins:List (Addr×Obj)}{σ:Sg}{H:Hp}{s:Shared}
theorem tr_inj (I:Inv X pins σ H s):∀ (n:Nat),(∀ (t u:T) (x:V),t.parts≤n→TR X.K H t x→TR X.K H u x→t=u)∧(∀ (ts us:List T) (xs:List V),T.partsL ts≤n→TRs X.K H ts xs→TRs X.K H us xs→ts=us)
 | 0=>⟨fun t u x h _ _=>absurd (T.parts_pos t) (by lia),fun ts us xs h q r=>by
   have h1:=T.len_le_parts ts
   have h2:=q.length
   have h3:=r.length
   have e1:ts=[]:=List.length_eq_zero_iff.mp (by lia)
   have e2:us=[]:=List.length_eq_zero_iff.mp (by lia)
   rw [e1,e2]⟩
 | n+1=>by
  have ih:=tr_inj I n
  have A:∀ (t u:T) (x:V),t.parts≤n+1→TR X.K H t x→TR X.K H u x→t=u:=fun t u x h q r=>by
   cases t with
   | node ts =>
    cases u with
    | node us =>
     obtain⟨a,xs,e1,q1,q2⟩:=TR_node.mp q
     obtain⟨b,ys,e2,r1,r2⟩:=TR_node.mp r
     rw [e1] at e2
     cases e2
     have:=I.tuple_inj q1 r1
     subst this
     rw [T.parts_node] at h
     rw [ih.2 ts us xs (by lia) q2 r2]
  refine⟨A,fun ts us xs h q r=>?_⟩
  cases ts with
  | nil =>
   rw [TRs_nil] at q
   subst q
   have:=r.length
   exact (List.length_eq_zero_iff.mp (by simpa using this.symm)).symm
  | cons t ts =>
   obtain⟨x,r',rfl,q1,q2⟩:=TRs_cons.mp q
   cases us with
   | nil=>rw [TRs_nil] at r; cases r
   | cons u us =>
    obtain⟨x2,r2',e,r1,r2⟩:=TRs_cons.mp r
    cases e
    rw [T.partsL_cons] at h
    have h1:=T.parts_pos t
    rw [A t u x (by lia) q1 r1,ih.2 ts us r' (by lia) q2 r2]
def eqsAt (ts us:List T) (j:Nat):Bool:=match ts[j]?,us[j]? with
 | some t,some u=>T.beq t u
 | _,_=>false
theorem beqL_range:∀ ts us:List T,((List.range (min ts.length us.length)).all (eqsAt ts us) && ts.length == us.length)=T.beqL ts us
 | [],[]=>by simp [T.beqL]
 | [],u::us=>by simp [T.beqL]
 | t::ts,[]=>by simp [T.beqL]
 | t::ts,u::us=>by
  have ih:=beqL_range ts us
  have e:min (t::ts).length (u::us).length=min ts.length us.length+1:=by simp only [List.length_cons]; lia
  rw [e,List.range_succ_eq_map,List.all_cons,List.all_map]
  have e2:(eqsAt (t::ts) (u::us)∘Nat.succ)=eqsAt ts us:=by
   funext j
   simp [eqsAt]
  have e3:eqsAt (t::ts) (u::us) 0=T.beq t u:=rfl
  have e4:((t::ts).length == (u::us).length)=(ts.length == us.length):=by simp
  rw [e2,e3,e4,Bool.and_assoc,ih]
  rw [T.beqL]
theorem rc_tree (I:Inv X pins σ H s):∀ (n:Nat) (t u:T) (A:Around) (a b:Addr),t.deep≤n→TR X.K H t (.ref a)→TR X.K H u (.ref b)→A.units+n<cLine→SeqAt.RcAt A s (.ref a) (.ref b) (T.beq t u):=by
 intro n
 induction n with
 | zero =>
  intro t u A a b hd q r hu
  cases t with
  | node ts =>
   cases u with
   | node us =>
    obtain⟨a',xs,e1,q1,q2⟩:=TR_node.mp q
    cases e1
    obtain⟨b',ys,e2,r1,r2⟩:=TR_node.mp r
    cases e2
    rw [T.deep_node] at hd
    have hts:ts=[]:=by
     cases ts with
     | nil=>rfl
     | cons t ts=>rw [T.deepL_cons] at hd; lia
    subst hts
    rw [TRs_nil] at q2
    subst q2
    obtain⟨its,rv,ht,_⟩:=I.tuple q1
    obtain⟨its2,rv2,ht2,_⟩:=I.tuple r1
    have h0:=rv.length
    have h2:=rv2.length
    have h3:=r2.length
    have key:=SeqAt.RcAt.tuples (A:=A) (e:=fun _=>true) ht ht2 (by lia) (fun j j1 _=>absurd j1 (by rw [List.size_toArray,← h0]; simp))
    have ev:((List.range (min its.toArray.size its2.toArray.size)).all (fun _=>true) && its.toArray.size == its2.toArray.size)=T.beq (.node []) (.node us):=by
     rw [List.size_toArray,List.size_toArray,← h0,← h2,h3,T.beq,← beqL_range]
     simp
    rw [ev] at key
    exact key
 | succ n ih =>
  intro t u A a b hd q r hu
  cases t with
  | node ts =>
   cases u with
   | node us =>
    obtain⟨a',xs,e1,q1,q2⟩:=TR_node.mp q
    cases e1
    obtain⟨b',ys,e2,r1,r2⟩:=TR_node.mp r
    cases e2
    rw [T.deep_node] at hd
    obtain⟨its,rv,ht,_⟩:=I.tuple q1
    obtain⟨its2,rv2,ht2,_⟩:=I.tuple r1
    have l1:=rv.length
    have l2:=rv2.length
    have l3:=q2.length
    have l4:=r2.length
    have key:=SeqAt.RcAt.tuples (A:=A) (e:=eqsAt ts us) ht ht2 (by lia) (fun j j1 j2=>?_)
    ·have ev:((List.range (min its.toArray.size its2.toArray.size)).all (eqsAt ts us) && its.toArray.size == its2.toArray.size)=T.beq (.node ts) (.node us):=by
      rw [List.size_toArray,List.size_toArray,← l1,← l2,l3,l4,T.beq,← beqL_range]
     rw [ev] at key
     exact key
    ·have j1':j<xs.length:=by rw [l1]; simpa using j1
     have j2':j<ys.length:=by rw [l2]; simpa using j2
     obtain⟨u1,hu1,ru1⟩:=rv.get (List.getElem?_eq_getElem j1')
     obtain⟨u2,hu2,ru2⟩:=rv2.get (List.getElem?_eq_getElem j2')
     obtain⟨t1,ht1,tr1⟩:=q2.get (List.getElem?_eq_getElem j1')
     obtain⟨t2,ht2',tr2⟩:=r2.get (List.getElem?_eq_getElem j2')
     have ee:eqsAt ts us j=T.beq t1 t2:=by unfold eqsAt; rw [ht1,ht2']
     have g1:its.toArray[j]=u1:=by
      have:its[j]?=some u1:=hu1
      rw [List.getElem?_eq_some_iff] at this
      obtain⟨_,e⟩:=this
      simpa using e
     have g2:its2.toArray[j]=u2:=by
      have:its2[j]?=some u2:=hu2
      rw [List.getElem?_eq_some_iff] at this
      obtain⟨_,e⟩:=this
      simpa using e
     rw [ee,g1,g2]
     obtain⟨a1,zs1,e1,_⟩:=TR_of tr1
     obtain⟨a2,zs2,e2,_⟩:=TR_of tr2
     rw [e1] at ru1 tr1
     rw [e2] at ru2 tr2
     obtain rfl:u1=Value.ref a1:=ru1
     obtain rfl:u2=Value.ref a2:=ru2
     by_cases hne:a1=a2
     ·subst hne
      have et:t1=t2:=(tr_inj I t1.parts).1 t1 t2 _ (Nat.le_refl _) tr1 tr2
      rw [et,T.beq_self]
      exact SeqAt.EqAt.same _
     ·have hd1:t1.deep≤n:=by
       have:=T.mem_deep (List.mem_of_getElem? ht1)
       lia
      exact SeqAt.EqAt.of_refs hne (ih t1 t2 A.in1 a1 a2 hd1 tr1 tr2 (by rw [Around.in1_units]; lia))
end
section
variable {X:Cx}
def rEqTr (K:PySem.W.Frag) (n:Nat):R2:=fun x y H Q=>∃ t u,TR K H t x∧TR K H u y∧t.deep≤n∧Q (.bl (T.beq t u)) H
theorem op_eqTr {n:Nat} (hu:X.A.units+n<cLine):OpR X (compareOp .Eq) (rEqTr X.K n):=by
 intro pins s σ H x y v u Q I rx ry h
 obtain⟨t,t',h1,h2,hd,q⟩:=h
 obtain⟨a,xs,e1,_⟩:=TR_of h1
 obtain⟨b,ys,e2,_⟩:=TR_of h2
 subst e1 e2
 cases rx
 cases ry
 exact rc_tree I n t t' X.A a b hd h1 h2 hu _ _ _ _ ⟨.bl _,H,I,rfl,q⟩
end
section
variable {X:Cx}{K:PySem.W.Frag}
end
end Sw
namespace SwR
open PySem PySem.Spec PyProof.Rows L2 Sw
theorem sl_next:Slot "reversed" "__next__" "reversed.__next__":=.of (owner:="reversed") (n:="__next__") (by rw [typeLookup_type,builtinLookup_eq_fast]; kernel_rfl) (by decide +kernel) (by decide +kernel) (by decide +kernel) (by first | exact .inl (by decide +kernel) | exact .inr (by decide +kernel)) (by rw [isSubtype_type]; kernel_rfl)
theorem en_next:entryFor table "reversed.__next__"=some Builtin.«reversed.__next__»:=entryFor_of_tree (by kernel_rfl)
theorem ar_next (a:Value):argsOk "reversed.__next__" ⟨[a],[]⟩:=by unfold argsOk; kernel_rfl
theorem sl_iter:Slot "reversed" "__iter__" "reversed.__iter__":=.of (owner:="reversed") (n:="__iter__") (by rw [typeLookup_type,builtinLookup_eq_fast]; kernel_rfl) (by decide +kernel) (by decide +kernel) (by decide +kernel) (by first | exact .inl (by decide +kernel) | exact .inr (by decide +kernel)) (by rw [isSubtype_type]; kernel_rfl)
theorem ar_iter (a:Value):argsOk "reversed.__iter__" ⟨[a],[]⟩:=by unfold argsOk; kernel_rfl
theorem en_iter:entryFor table "reversed.__iter__"=some Builtin.«dict_keyiterator.__iter__»:=entryFor_alias (id':="dict_keyiterator.__iter__") (by kernel_rfl) (by first | rfl | decide +kernel) (by decide +kernel) (by kernel_rfl)
theorem sl_hint:Slot "reversed" "__length_hint__" "reversed.__length_hint__":=.of (owner:="reversed") (n:="__length_hint__") (by rw [typeLookup_type,builtinLookup_eq_fast]; kernel_rfl) (by decide +kernel) (by decide +kernel) (by decide +kernel) (by first | exact .inl (by decide +kernel) | exact .inr (by decide +kernel)) (by rw [isSubtype_type]; kernel_rfl)
theorem en_hint:entryFor table "reversed.__length_hint__"=some Builtin.«reversed.__length_hint__»:=entryFor_of_tree (by kernel_rfl)
theorem ar_hint (a:Value):argsOk "reversed.__length_hint__" ⟨[a],[]⟩:=by unfold argsOk; kernel_rfl
theorem no_len:typeLookup (.type "reversed") "__len__"=pure none:=by rw [typeLookup_type,builtinLookup_eq_fast]; kernel_rfl
theorem sl_init:Slot "reversed" "__init__" "object.__init__":=.of (owner:="object") (n:="__init__") (by rw [typeLookup_type,builtinLookup_eq_fast]; kernel_rfl) (by decide +kernel) (by decide +kernel) (by decide +kernel) (by first | exact .inl (by decide +kernel) | exact .inr (by decide +kernel)) (by rw [isSubtype_type]; kernel_rfl)
theorem tup_norev:typeLookup (.type "tuple") "__reversed__"=pure none:=by rw [typeLookup_type,builtinLookup_eq_fast]; kernel_rfl
theorem called_rev:TypeCalled "reversed" "reversed.__new__" "object.__init__" :=
 ⟨by decide +kernel,by decide +kernel,⟨_,_,F.mro_reversed⟩,F.made_reversed,by decide +kernel,by rw [isSubtype_type]; kernel_rfl,sl_init⟩
def RvO (h:Heap) (p a:Addr) (i:Int):Prop:=∃ o,h.get? p=some o∧o.cls=.type "reversed"∧o.data=.fields #[.ref a,rawInt i]
theorem RvO.typeIs {s:Shared}{p a:Addr}{i:Int} (x:RvO s.heap p a i):s.TypeIs (.ref p) "reversed":=let ⟨o,ho,hc,_⟩:=x; ⟨o,ho,hc⟩
section
variable {prog:Program}{w:World}{A:Around}{E:Value→Shared→Prop}{s:Shared}
theorem next_item {it a:Addr}{i:Nat}{items:Array Value}{x:Value}{Q:Option Value→Shared→Prop} (hit:RvO s.heap it a (i:Int)) (ht:IsTup s.heap a items) (hx:items[i]?=some x) (hz:items.size≤sizeLine) (hne:a≠it)
  (hQ:∀ h' tk,RvO h' it a ((i:Int) - 1)→Heap.SameBut it s.heap h'→Q (some x) { s with heap:=h',toks:=tk }):wpAny (model prog w) A (pyNext (.ref it)) Q E s:=by
 obtain⟨o,ho,hc,hd⟩:=id hit
 unfold pyNext
 refine wpAny_bind (wpAny_attempt (wpAny_callSpecial?_slot (name:=Str.ofString "__next__") hit.typeIs sl_next (wpAny_call_entry sl_next hit.typeIs en_next ?_ (ar_next _))))
 unfold Builtin.«reversed.__next__»
 refine wpAny_bind (wpAny_of_eq (a:=(Value.ref it,[])) rfl ?_)
 dsimp only
 refine wpAny_bind (wpAny_field ho hd (x:=.ref a) rfl ?_)
 refine wpAny_bind (wpAny_field ho hd (x:=rawInt (i:Int)) rfl ?_)
 show wpAny _ _ (if (i:Int)<0 then _ else _) _ _ s
 rw [if_neg (by lia)]
 refine wpAny_bind (wpAny_specialOf ht.typeIs PyProof.Rows.slot_tuple_getitem.lookup ?_)
 rw [if_neg (by decide)]
 have hi:i<items.size:=(Array.getElem?_eq_some_iff.mp hx).1
 have hl:sizeLine=16777216:=sizeLine_eq
 refine wpAny_bind (wpAny_mkInt ?_)
 refine wpAny_bind (wpAny_attempt (getItem_tuple (j:=i) ht (by lia) (by lia) (by rw [seqIndex_of (by lia) (by lia)]; rfl) hx ?_))
 dsimp only
 refine wpAny_bind (wpAny_field ho hd (x:=rawInt (i:Int)) rfl ?_)
 refine wpAny_bind (wpAny_setField ho hd (by simp) ?_)
 refine wpAny_pure ⟨x,rfl,wpAny_pure (hQ _ _ ?_ (Heap.SameBut.update ..))⟩
 exact⟨_,Heap.get?_update_self _ ho (Obj.isFreed_of_fields (Obj.data_mapFields hd _)),(Obj.cls_mapFields ..).trans hc,by rw [Obj.data_mapFields hd]; simp⟩
theorem next_end {it a:Addr}{Q:Option Value→Shared→Prop} (hh:A.handled=none) (hit:RvO s.heap it a (-1))
  (hQ:∀ h',Heap.ExtBut it s.heap h'→Q none { s with heap:=h' }):wpAny (model prog w) A (pyNext (.ref it)) Q E s:=by
 obtain⟨o,ho,hc,hd⟩:=id hit
 unfold pyNext
 refine wpAny_bind (wpAny_attempt (wpAny_callSpecial?_slot (name:=Str.ofString "__next__") hit.typeIs sl_next (wpAny_call_entry sl_next hit.typeIs en_next ?_ (ar_next _))))
 unfold Builtin.«reversed.__next__»
 refine wpAny_bind (wpAny_of_eq (a:=(Value.ref it,[])) rfl ?_)
 dsimp only
 refine wpAny_bind (wpAny_field ho hd (x:=.ref a) rfl ?_)
 refine wpAny_bind (wpAny_field ho hd (x:=rawInt (-1)) rfl ?_)
 show wpAny _ _ (if (-1:Int)<0 then _ else _) _ _ s
 rw [if_pos (by decide)]
 refine wpAny_bind (wpAny_rule ?_)
 have e1:=Heap.get?_update_self (Obj.mapFields fun vs=>vs.setIfInBounds 1 (rawInt (-1))) ho (Obj.isFreed_of_fields (Obj.data_mapFields hd _))
 refine wpAny_bind (wpAny_bind (wpAny_setField ho hd (by simp) ?_))
 refine wpAny_setField e1 (Obj.data_mapFields hd _) (by simp) ?_
 refine wpAny_bind ?_
 unfold Builtin.SmallTypes.stopIteration
 refine wpAny_bind ?_
 simp only [newExc,newTuple]
 refine wpAny_bind (wpAny_newObj_type ?_ (by size_fits)); refine wpAny_bind (m:=firstArgMember _ _) (wpAny_of_eq (a:=Value.none) (by first | rfl | (simp only [firstArgMember]; rfl)) ?_); refine wpAny_newObj_type ?_ (by size_fits)
 simp only [raiseNew]; refine wpAny_bind (wpAny_handled ?_)
 first | rw [show A.in1.handled=none from hh] | rw [hh]
 refine wpAny_bind (wpAny_pure (wpAny_throw ?_)); refine wpAny_bind (wpAny_isInstance (T:="StopIteration") (b:=true) ⟨_,Heap.get?_push_size _ rfl,rfl⟩ isSubtype_stop (wpAny_pure (hQ _ ?_)))
 intro b ob hb e
 refine Heap.get?_push_of_some _ (Heap.get?_push_of_some _ ?_)
 exact (Heap.get?_update_other _ _ (Ne.symm hb)).trans ((Heap.get?_update_other _ _ (Ne.symm hb)).trans e)
theorem iter_self {it a:Addr}{i:Int}{Q:Value→Shared→Prop} (hit:RvO s.heap it a i) (h:Q (.ref it) s):wpAny (model prog w) A (pyIter (.ref it)) Q E s:=by
 refine wpAny_pyIter_slot hit.typeIs sl_iter (wpAny_call_entry sl_iter hit.typeIs en_iter ?_ (ar_iter _))
 show wpAny _ _ (ret (.ref it)) _ _ s
 exact wpAny_pure ⟨_,rfl,"reversed",_,hit.typeIs,sl_next.lookup,h⟩
theorem RvO.keep {h h':Heap}{p a:Addr}{i:Int} (x:RvO h p a i) (e:∀ o,h.get? p=some o→h'.get? p=some o):RvO h' p a i:=let ⟨o,ho,r⟩:=x; ⟨o,e _ ho,r⟩
theorem tup_keep {h h':Heap}{a:Addr}{items:Array Value} (x:IsTup h a items) (e:∀ o,h.get? a=some o→h'.get? a=some o):IsTup h' a items:=let ⟨o,ho,r⟩:=x; ⟨o,e _ ho,r⟩
end
theorem walks_rev {prog:Program}{w:World}{A:Around} (hh:A.handled=none) (I a:Addr) (hne:a≠I) (items:Array Value) (hz:items.size≤sizeLine) :
  Walks prog w A I [I,a] [I] items.size (fun i v=>items[items.size - 1 - i]?=some v) (fun i h=>i≤items.size∧RvO h I a ((items.size:Int) - 1 - (i:Int))∧IsTup h a items) where
 sub:=fun b hb=>by simp at hb; simp [hb]
 frame:=fun _ _ _ x hk=>⟨x.1,x.2.1.keep fun o e=>hk I (by simp) o e,tup_keep x.2.2 fun o e=>hk a (by simp) o e⟩
 item:=fun i s Q E hi x hQ=>by
  obtain⟨_,hit,ht⟩:=x
  have e:(items.size:Int) - 1 - (i:Int)=((items.size - 1 - i:Nat):Int):=by lia
  rw [e] at hit
  have hx:items[items.size - 1 - i]?=some (items[items.size - 1 - i]'(by lia)):=Array.getElem?_eq_getElem (by lia)
  refine next_item hit ht hx hz hne fun h' tk hit' hs'=>hQ _ h' tk hx ⟨by lia,?_,tup_keep ht fun o eo=>(hs'.2 a hne).trans eo⟩ fun b o hb eo=>hs'.extBut b o (fun z=>hb (by simp [z])) eo
  have e2:((items.size - 1 - i:Nat):Int) - 1=(items.size:Int) - 1 - ((i+1:Nat):Int):=by lia
  rw [← e2]
  exact hit'
 done:=fun s Q E x hQ=>by
  obtain⟨_,hit,ht⟩:=x
  have e:(items.size:Int) - 1 - (items.size:Int)=-1:=by lia
  rw [e] at hit
  exact next_end hh hit fun h' he'=>hQ h' s.toks fun b o hb eo=>he' b o (fun z=>hb (by simp [z])) eo
 self:=fun _ _ _ _ x hQ=>iter_self x.2.1 hQ
section
variable {prog:Program}{w:World}{A:Around}{E:Value→Shared→Prop}{s:Shared}
theorem asInt_int (k:Int) (u:Tok):asInt? (.int k u)=pure (some k):=rfl
theorem call_hint {it a:Addr}{items:Array Value}{Q:Value→Shared→Prop} (hit:RvO s.heap it a ((items.size:Int) - 1)) (ht:IsTup s.heap a items) (hz:items.size≤sizeLine)
  (hQ:∀ t tk,s.toks≤tk→Q (.int (items.size:Int) t) { s with toks:=tk }):wpAny (model prog w) A (call (.builtin "reversed.__length_hint__") [.ref it]) Q E s:=by
 obtain⟨o,ho,hc,hd⟩:=id hit
 have hl:sizeLine=16777216:=sizeLine_eq
 refine wpAny_call_entry sl_hint hit.typeIs en_hint ?_ (ar_hint _)
 unfold Builtin.«reversed.__length_hint__»
 refine wpAny_bind (wpAny_of_eq (a:=Value.ref it) rfl ?_)
 refine wpAny_bind (wpAny_field ho hd (x:=.ref a) rfl ?_)
 rw [if_neg (show ¬ ((Value.ref a == Value.none)=true) from Bool.false_ne_true)]
 refine wpAny_bind (len_tuple ht (by lia) ?_)
 refine wpAny_bind (m:=asInt? (.int (items.size:Int) (s.toks+1))) (wpAny_pure ?_)
 dsimp only
 refine wpAny_bind (wpAny_field ho hd (x:=rawInt ((items.size:Int) - 1)) rfl ?_)
 show wpAny _ _ (if (items.size:Int)<((items.size:Int) - 1)+1 then _ else retInt (((items.size:Int) - 1)+1)) _ _ _
 rw [if_neg (by lia),show ((items.size:Int) - 1)+1=(items.size:Int) by lia]
 unfold retInt
 refine wpAny_bind (wpAny_mkInt (wpAny_pure ⟨_,rfl,hQ _ _ ?_⟩))
 show s.toks≤s.toks+1+1+1
 lia
theorem rev_extend {it a S:Addr}{items:Array Value}{c₀:Nat}{R:Result→Shared→Prop} (hh:A.handled=none) (hit:RvO s.heap it a ((items.size:Int) - 1)) (ht:IsTup s.heap a items) (hz:items.size≤sizeLine)
  (hai:a≠it) (hSi:S≠it) (hSa:S≠a) (hS:s.heap.get? S=some { cls:=.type "list",data:=.seq #[] c₀ })
  (hR:∀ h' tk acc' c',(∀ b o,b≠S→b≠it→s.heap.get? b=some o→h'.get? b=some o)→h'.get? S=some { cls:=.type "list",dict:=none,data:=.seq acc' c',slots:=#[] } →
   ItemsOf (fun i v=>items[items.size - 1 - i]?=some v) acc' items.size→R (.ok (.ret .none)) { s with heap:=h',toks:=tk }) :
  wpAny (model prog w) A.in1 (Builtin.List.listExtendWith (.ref S) (.ref it) .none)
   (fun fin s'=>match fin with | .done f=>R (.ok f) s' | .again c'=>c'.quiet=true∧codeAny (model prog w) A c' R s') (fun e s'=>R (.error e) s') s:=by
 have hl:sizeLine=16777216:=sizeLine_eq
 have h1:Builtin.List.listSameRef (.ref S) (.ref it)=false:=by simp [Builtin.List.listSameRef,hSi]
 unfold Builtin.List.listExtendWith
 refine wpAny_bind (wpAny_typeOf hit.typeIs ?_)
 rw [if_neg (by rw [h1]; decide)]
 refine wpAny_bind (iter_self hit ?_)
 refine wpAny_bind (wpAny_holding ?_)
 unfold Builtin.List.listLengthHint
 refine wpAny_bind (wpAny_specialOf hit.typeIs no_len ?_)
 show wpAny _ A.in1 (specialOf (Value.ref it) (Str.ofString "__length_hint__") >>= _) _ _ _
 refine wpAny_bind (wpAny_specialOf hit.typeIs sl_hint.lookup ?_)
 (generalize hid:("reversed.__length_hint__":String)=id0; (fail_if_success (clear hid id0)); wp_delta; rw [show splitId id0=some ("reversed","__length_hint__") from by subst hid; decide +kernel]; subst hid)
 refine wpAny_bind (wpAny_isInstance (b:=true) hit.typeIs (by rw [isSubtype_type]; kernel_rfl) ?_)
 rw [if_neg (by decide)]
 dsimp only
 rw [if_neg (by decide)]
 refine wpAny_bind (wpAny_rule ?_)
 refine wpAny_bind (wpAny_of_eq (sl_hint.bind _) ?_)
 dsimp only
 refine wpAny_bind (wpAny_attempt (call_hint hit ht hz fun t tk htk=>?_))
 dsimp only
 rw [asInt_int,pure_bind]
 dsimp only
 have hf:Builtin.List.listFitsIndex (items.size:Int)=true:=by
  unfold Builtin.List.listFitsIndex
  simp only [Bool.and_eq_true,decide_eq_true_eq]
  lia
 have htl:Builtin.List.listTooLong (Int.toNat (items.size:Int))=false:=by
  rw [Int.toNat_natCast]
  exact notLongL hz
 rw [if_neg (by rw [hf]; decide),if_neg (by lia),if_neg (by rw [htl]; decide)]
 refine wpAny_pure ?_
 have hSf:S ∉ [it,a]:=by simp [hSi,hSa]
 have W:=walks_rev (prog:=prog) (w:=w) (A:=A.in1) hh it a hai items hz
 have loop:∀ (s2:Shared) (c₂:Nat),(∀ b o,b≠S→s.heap.get? b=some o→s2.heap.get? b=some o)→s2.heap.get? S=some { cls:=.type "list",data:=.seq #[] c₂ }→s2.gens=s.gens→s2.drawn=s.drawn→s2.os=s.os →
   codeAny (model prog w) A (.builtin "list.extend.loop" ⟨[.ref S,.ref it,.none],[]⟩) R s2:=fun s2 c₂ hk hS2 g1 g2 g3=>by
  have st:0≤items.size∧RvO s2.heap it a ((items.size:Int) - 1 - ((0:Nat):Int))∧IsTup s2.heap a items:=by
   refine⟨Nat.zero_le _,?_,tup_keep ht fun o e=>hk a o (Ne.symm hSa) e⟩
   have:(items.size:Int) - 1 - ((0:Nat):Int)=(items.size:Int) - 1:=by lia
   rw [this]
   exact hit.keep fun o e=>hk it o (Ne.symm hSi) e
  refine codeAny_extend_loopS W.toS hz S hSf .none items.size 0 s2 #[] c₂ rfl (Nat.zero_le _) st hS2 (ItemsOf.nil _) fun s' acc' c' hm hS' hacc=>?_
  have hs':=Moved.eq_with hm
  rw [g1,g2,g3] at hs'
  rw [hs']
  exact hR s'.heap s'.toks acc' c' (fun b o hbS hbi e=>hm.heap b o (by simp [hbS,hbi]) (hk b o hbS e)) hS' hacc
 split
 ·refine wpAny_bind (wpAny_rule ?_)
  unfold Builtin.List.listTouch
  have e1:=Heap.get?_update_self (Obj.mapSeq (·.push Value.none)) hS rfl
  have e2:=Heap.get?_update_self (Obj.mapSeq (·.pop)) e1 rfl
  refine wpAny_bind (wpAny_bind (m:=Builtin.List.listUpdate (.ref S) (·.push Value.none)) (wpAny_updateSeq hS rfl ?_ (hz:=Nat.zero_le _) (_hz':=Nat.succ_le_succ (Nat.zero_le _))))
  refine wpAny_updateSeq e1 rfl ?_ (hz:=(by show 1≤sizeLine; decide)) (_hz':=Nat.zero_le _)
  refine wpAny_pure ⟨plainId_quiet F.plain_extend_loop _,loop _ _ (fun b o hb e=>?_) (by simpa [Obj.mapSeq] using e2) rfl rfl rfl⟩
  exact (Heap.get?_update_other _ _ (Ne.symm hb)).trans ((Heap.get?_update_other _ _ (Ne.symm hb)).trans e)
 ·exact wpAny_pure ⟨plainId_quiet F.plain_extend_loop _,loop _ c₀ (fun b o _ e=>e) hS rfl rfl rfl⟩
theorem call_list_rev {it a:Addr}{items:Array Value}{Q:Value→Shared→Prop} (hh:A.handled=none) (hit:RvO s.heap it a ((items.size:Int) - 1)) (ht:IsTup s.heap a items) (hz:items.size≤sizeLine) (hai:a≠it)
  (hQ:∀ h' tk acc' c',(∀ b o,b≠it→s.heap.get? b=some o→h'.get? b=some o)→h'.get? s.heap.objs.size=some { cls:=.type "list",dict:=none,data:=.seq acc' c',slots:=#[] } →
   acc'.toList=items.toList.reverse→Q (.ref s.heap.objs.size) { s with heap:=h',toks:=tk }):wpAny (model prog w) A (call (.type "list") [.ref it]) Q E s:=by
 have lit:it<s.heap.objs.size:=let ⟨_,ho,_⟩:=hit; Heap.lt_size ho
 have la:a<s.heap.objs.size:=let ⟨_,ho,_⟩:=ht; Heap.lt_size ho
 refine callType_codes (Q₁:=fun obj s₁=>obj=.ref s.heap.objs.size∧s₁={ s with heap:=s.heap.push { cls:=.type "list",data:=.seq #[] } }) F.called_list (F.typeCall_list_1 _) F.entry_list_init (code_list_new _ ⟨rfl,rfl⟩) fun obj s1 h1=>?_
 obtain⟨e1,e2⟩:=h1
 subst e1 e2
 have hS:(s.heap.push { cls:=.type "list",data:=.seq #[] }).get? s.heap.objs.size=some { cls:=.type "list",data:=.seq #[] }:=Heap.get?_push_size _ rfl
 refine⟨⟨_,hS,rfl⟩,F.args_list_init_2 _ _,?_⟩
 show wpAny _ _ (Builtin.List.listItems (.ref s.heap.objs.size) >>= fun old=>Builtin.List.listUpdate (.ref s.heap.objs.size) (fun _=>#[]) >>= fun _=>letGo old.toList.reverse >>= fun _=>Builtin.List.listExtendWith (.ref s.heap.objs.size) (.ref it) .none) _ _ _
 refine wpAny_bind ?_
 unfold Builtin.List.listItems
 refine wpAny_bind (wpAny_seqItems hS rfl (wpAny_pure ?_))
 refine wpAny_bind (m:=Builtin.List.listUpdate (.ref s.heap.objs.size) (fun _=>#[])) (wpAny_updateSeq hS rfl ?_)
 have hS2:=Heap.get?_update_self (Obj.mapSeq (fun _=>(#[]:Array Value))) hS rfl
 have oth:∀ b o,b≠s.heap.objs.size→s.heap.get? b=some o→((s.heap.push { cls:=.type "list",data:=.seq #[] }).update s.heap.objs.size (Obj.mapSeq (fun _=>(#[]:Array Value)))).get? b=some o :=
  fun b o hb e=>(Heap.get?_update_other _ _ (Ne.symm hb)).trans (Heap.get?_push_of_some _ e)
 refine wpAny_bind (wpAny_letGo ?_)
 refine rev_extend (A:=A.in1) hh (hit.keep fun o e=>oth it o (Nat.ne_of_lt lit) e) (tup_keep ht fun o e=>oth a o (Nat.ne_of_lt la) e) hz hai (Nat.ne_of_gt lit) (Nat.ne_of_gt la) hS2 fun h' tk acc' c' hk hS' hacc=>?_
 refine⟨rfl,hQ h' tk acc' c' (fun b o hb e=>hk b o (Nat.ne_of_lt (Heap.lt_size e)) hb (oth b o (Nat.ne_of_lt (Heap.lt_size e)) e)) hS' ?_⟩
 obtain⟨hsz,hat⟩:=hacc
 refine List.ext_getElem? fun i=>?_
 by_cases hi:i<items.size
 ·have h1:=hat i (acc'[i]'(by lia)) (Array.getElem?_eq_getElem (by lia))
  rw [List.getElem?_reverse (by rw [Array.length_toList]; exact hi),Array.length_toList,Array.getElem?_toList,Array.getElem?_toList,h1,Array.getElem?_eq_getElem (by lia)]
 ·rw [List.getElem?_eq_none (by rw [Array.length_toList]; lia),List.getElem?_eq_none (by rw [List.length_reverse,Array.length_toList]; lia)]
end
section
variable {prog:Program}{w:World}{A:Around}{E:Value→Shared→Prop}{s:Shared}
theorem rev_new_meets (a:Addr) (items:Array Value) (n:Nat) (dd:Option Addr) (sl:Array (Option Value)) (hz:items.size≤sizeLine) :
  Meets (Builtin.«reversed.__new__» ⟨[.type "reversed",.ref a],[]⟩) (fun _ R s=>s.heap.get? a=some { cls:=.type "tuple",dict:=dd,data:=.seq items n,slots:=sl } ∧
   ∀ tk,R (.ok (.ret (.ref s.heap.objs.size))) { s with heap:=s.heap.push { cls:=.type "reversed",data:=.fields #[.ref a,rawInt ((items.size:Int) - 1)] },toks:=tk }) :=
 .of_wp fun prog w A R s h=>by
  obtain⟨ht,h⟩:=h
  have hl:sizeLine=16777216:=sizeLine_eq
  have hT:s.TypeIs (.ref a) "tuple":=⟨_,ht,rfl⟩
  have hI:IsTup s.heap a items:=⟨_,ht,rfl,n,rfl⟩
  unfold Builtin.«reversed.__new__»
  refine wpAny_bind (wpAny_of_eq (newClass_reversed _) ?_)
  dsimp only
  refine wpAny_bind (wpAny_of_eq (a:=()) (by first | rfl | kernel_rfl) ?_); refine wpAny_bind (wpAny_of_eq (a:=()) (by first | rfl | kernel_rfl) ?_)
  refine wpAny_bind (wpAny_specialOf hT tup_norev ?_)
  dsimp only
  refine wpAny_bind ?_
  refine wpAny_bind (wpAny_isInstance (b:=false) hT (by rw [isSubtype_type]; kernel_rfl) ?_)
  rw [if_neg (by decide)]
  refine wpAny_bind (wpAny_specialOf hT PyProof.Rows.slot_tuple_getitem.lookup ?_)
  dsimp only
  rw [if_pos (by decide)]
  refine wpAny_pure ?_
  rw [if_neg (by decide)]
  refine wpAny_bind (len_tuple hI (by lia) ?_)
  rw [asInt_int,pure_bind]
  dsimp only
  show wpAny _ _ (newObj (.type "reversed") (.fields #[.ref a,rawInt ((items.size:Int) - 1)]) >>= _) _ _ _
  refine wpAny_bind (wpAny_newObj_type ?_)
  exact wpAny_pure ⟨_,rfl,h _⟩
theorem call_rev {a:Addr}{items:Array Value}{Q:Value→Shared→Prop} (ht:IsTup s.heap a items) (hz:items.size≤sizeLine)
  (h:∀ tk,Q (.ref s.heap.objs.size) { s with heap:=s.heap.push { cls:=.type "reversed",data:=.fields #[.ref a,rawInt ((items.size:Int) - 1)] },toks:=tk }):wpAny (model prog w) A (call (.type "reversed") [.ref a]) Q E s:=by
 obtain⟨⟨c,d,dt,sl⟩,ho,hc,n,hd⟩:=id ht
 simp only at hc hd
 subst hc hd
 refine callType_new called_rev (by decide) (F.typeCall_reversed_1 _) (F.newCall_reversed_1 _) (fun obj=>F.args_object_init_2 obj _) F.entry_reversed_new (rev_new_meets a items n d sl hz) ⟨ho,fun tk=>?_⟩
 exact⟨⟨_,Heap.get?_push_size _ rfl,rfl⟩,h tk⟩
end
theorem bt_reversed:bootBuiltins "reversed"=some (.type "reversed"):=by decide +kernel
theorem bt_list':bootBuiltins "list"=some (.type "list"):=by decide +kernel
def tLR (K:PySem.W.Frag) (te:TE):TE:=fun σ H Q=>te σ H fun x H1=>∃ a ys,x=.ref a∧SqT K H1 a ys∧∀ l,H1 l=none→Q (.ref l) (upd H1 l (.lst ys.reverse))
theorem pe_listRev {X:Cx}{e:Expr}{te:TE}{p1 p2 pos pos2:Pos} (hgl:Gl X "list") (hgr:Gl X "reversed") (ml:X.mg "list"=none) (mr:X.mg "reversed"=none) (hc:X.calm=true) (he:PE X e te)
  (hs1:starEach [.Call (.Name "reversed" p2) [e] [] pos2] X.env=[(false,eval (.Call (.Name "reversed" p2) [e] [] pos2) X.env)]:=by rfl) (hs2:starEach [e] X.env=[(false,eval e X.env)]:=by rfl) :
  PE X (.Call (.Name "list" p1) [.Call (.Name "reversed" p2) [e] [] pos2] [] pos) (tLR X.K te):=by
 intro pins s σ H Q I h
 refine wpAny_Call_Name_kw (ld_blt I hgl ml bt_list' ?_)
 refine PyProof.Rows.callWith_type1 ?_ (by rw [hs1]; rfl) (by rfl)
 rw [hs1]
 refine Calls.spliced_cons ?_
 refine wpAny_Call_Name_kw (ld_blt I hgr mr bt_reversed ?_)
 refine PyProof.Rows.callWith_type1 ?_ (by rw [hs2]; rfl) (by rfl)
 rw [hs2]
 refine Calls.spliced_cons (thn (he pins s σ H _ I h) fun v s1 ⟨x,H1,I1,r1,q1⟩=>Calls.spliced_nil ?_)
 obtain⟨a,ys,e1,hq,q⟩:=q1
 subst e1
 cases r1
 obtain⟨its,rv,ht,hz⟩:=I1.tuple hq
 have hlen:=rv.length
 have hz':its.toArray.size≤sizeLine:=by rw [List.size_toArray]; lia
 refine call_rev ht hz' fun tk=>Calls.spliced_nil ?_
 generalize hs2':({ s1 with heap:=s1.heap.push { cls:=.type "reversed",data:=.fields #[.ref a,rawInt ((its.toArray.size:Int) - 1)] },toks:=tk }:Shared)=s2
 have I2:Inv X pins σ H1 s2:=by rw [← hs2']; exact I1.kept fun b o e=>Heap.get?_push_of_some _ e
 have la:a<s1.heap.objs.size:=let ⟨_,ho,_⟩:=ht; Heap.lt_size ho
 have sz2:s2.heap.objs.size=s1.heap.objs.size+1:=by rw [← hs2']; exact Heap.size_push ..
 have hit:RvO s2.heap s1.heap.objs.size a ((its.toArray.size:Int) - 1):=by rw [← hs2']; exact⟨_,Heap.get?_push_size _ rfl,rfl,rfl⟩
 have ht2:IsTup s2.heap a its.toArray:=by rw [← hs2']; exact ht.push _
 have fp:FpOk X pins H1 s1.heap.objs.size:=I1.fpOk (Nat.le_refl _) (I1.hok.fresh (Nat.le_refl _))
 refine call_list_rev (I2.ok.hd hc) hit ht2 hz' (Nat.ne_of_lt la) fun h' tk' acc' c' hk hS' hacc=>?_
 have hfree:H1 s2.heap.objs.size=none:=I2.hok.fresh (Nat.le_refl _)
 have hp0:H1 s1.heap.objs.size=none:=fp.1
 have oks:ObjOk X.prog X.w (upd H1 s2.heap.objs.size (.lst ys.reverse)) h' s2.heap.objs.size (.lst ys.reverse):=by
  refine⟨by rw [List.length_reverse]; exact hz,its.reverse,c',rv.reverse,?_⟩
  rw [hS',show acc'=its.reverse.toArray from Array.toList_inj.mp (by simpa using hacc)]
 have nS:∀ b o,s2.heap.get? b=some o→b≠s2.heap.objs.size:=fun b o e=>Nat.ne_of_lt (Heap.lt_size e)
 have np:∀ b u,H1 b=some u→b≠s1.heap.objs.size:=fun b u e=>ne_of_none e hp0
 have nh:∀ b u,H1 b=some u→upd H1 s2.heap.objs.size (.lst ys.reverse) b=some u:=fun b u e=>by rw [upd_ne (ne_of_none e hfree)]; exact e
 have hok:HOk X.prog X.w (upd H1 s2.heap.objs.size (.lst ys.reverse)) h':=fun b u e=>by
  by_cases hb:b=s2.heap.objs.size
  ·subst hb
   rw [upd_same] at e
   cases e
   exact oks
  ·rw [upd_ne hb] at e
   refine (I2.hok b u e).stay (fun c v hc' q'=>hk c v ?_ q') (fun x q'=>nh _ _ q') fun c v q'=>nh _ _ q'
   rcases hc' with z | z
   ·rw [z]; exact np b u e
   ·exact np c _ z
 have I3:Inv X pins σ (upd H1 s2.heap.objs.size (.lst ys.reverse)) { s2 with heap:=h',toks:=tk' }:=by
  refine I2.step (g':=s2.gens) (d':=s2.drawn) (t':=tk') (ch:=[s1.heap.objs.size]) (fun b hb=>?_) (fun b o _ _ hb e _=>hk b o (fun z=>hb (by simp [z])) e) (fun b o _ _ hb e _=>⟨o.slots,hk b o (fun z=>hb (by simp [z])) e⟩)
   (fun b o _ e n=>by rw [upd_ne (nS b o e)]; exact n) (fun b o hb e=>⟨o,hk b o (fun z=>hb (by simp [z])) e⟩) (fun b xs e=>nh _ _ e) (fun b o u e=>nh _ _ e) (fun b ps e=>⟨#[],by rw [nh _ _ e]; simp⟩) (fun m hm=>?_) hok I2.bare
  ·have e:b=s1.heap.objs.size:=by simpa using hb
   subst e
   exact⟨fp.2.2.2.1,fp.2.1,fp.2.2.2.2.1,fp.2.2.2.2.2⟩
  ·obtain⟨o,es,ep,ho,r⟩:=hm
   exact⟨o,es,ep,hk _ o (Ne.symm fp.2.1) ho,r⟩
 exact⟨.ref s2.heap.objs.size,_,I3,rfl,q _ hfree⟩
end SwR
namespace Sw
open PySem PySem.Spec PyProof.Rows L2
section
variable {X:Cx}
end
end Sw
namespace Sw
namespace T
end T
end Sw
namespace Sw
namespace T
end T
end Sw
namespace Sw
open PySem PySem.Spec PyProof.Rows L2
end Sw
namespace Sw
open PySem PySem.Spec PyProof.Rows L2
section
variable {P:Program}{w:World}{K:PySem.W.Frag}{mg:Str→Option Value}{base:Heap}{N:List Str}{qual:Str}{scope:Scope}{f:Addr}{cd:Value}{A:Around}{outer:List Env}{s₀:Shared}{H₀:Hp}{E:XK}
end
section
variable {X:Cx}{pins:List (Addr×Obj)}{σ:Sg}{H:Hp}{s:Shared}
end
end Sw
namespace Sw
open PySem PySem.Spec PyProof.Rows L2
end Sw
namespace Sw
open PySem PySem.Spec PyProof.Rows L2
section
variable {K:PySem.W.Frag}{C a:Addr}{prog:Program}{w:World}{A:Around}
end
end Sw
namespace Sw
open PySem PySem.Spec PyProof.Rows L2
structure QE (X:Cx) (e:Expr) (t:TE):Prop where
 run:PE X e t
structure QT (X:Cx) (e:Expr) (t:TT):Prop where
 run:PT X e t
structure QW (X:Cx) (e:Expr) (t:TT):Prop where
 run:PW X e t
structure QA (X:Cx) (es:List Expr) (t:TA):Prop where
 run:PA X es t
structure QS (X:Cx) (st:Stmt) (t:TS):Prop where
 run:PS X st t
structure QSs (X:Cx) (st:List Stmt) (t:TS):Prop where
 run:PSs X st t
structure QI (X:Cx) (tg iter:Expr) (wi:TI):Prop where
 run:PI X tg iter wi
structure QG (X:Cx) (tg:Expr) (t:TG):Prop where
 run:PG X tg t
structure QO (X:Cx) (o:Option Expr) (t:TO):Prop where
 run:PO X o t
theorem QW.pt {X:Cx}{e:Expr}{t:TT} (h:QW X e t):QT X e t:=⟨h.run.pt⟩
theorem qv {X:Cx} (i:Nat) {x:Str}{pos:Pos} (hN:X.N[i]?=some x:=by rfl) (hv:Vis X.env.scope x:=by first | exact Or.inl rfl | exact Or.inr (Or.inl rfl) | exact Or.inr (Or.inr rfl)) (hd:(x == ("__debug__":Str))=false:=by decide) (hcd:(x == ("__classdict__":Str))=false:=by decide):QE X (.Name x pos) (tVar i):=⟨L2.pv (i:=i) (hN:=hN) (hv:=hv) (hd:=hd) (hcd:=hcd)⟩
theorem qe_int {X:Cx}{i j pos}:QE X (.Constant (.int i) j pos) (tC (.int i)):=⟨L2.pe_int⟩
theorem qe_bl {X:Cx}{b j pos}:QE X (.Constant (.bool b) j pos) (tC (.bl b)):=⟨L2.pe_bl⟩
theorem qe_non {X:Cx}{j pos}:QE X (.Constant .none j pos) (tC .non):=⟨L2.pe_non⟩
theorem qe_str {X:Cx}{x j pos}:QE X (.Constant (.str x) j pos) (tC (.str x)):=⟨L2.pe_str⟩
theorem qe_bltn {X:Cx}{x:Str}{v:V}{u:Value}{pos:Pos} (hg:Gl X x) (hm:X.mg x=none) (hv:bootBuiltins x=some u) (r:RelV v u) (hn:x≠"__name__":=by decide) (hd:(x == ("__debug__":Str))=false:=by decide):QE X (.Name x pos) (tC v):=⟨L2.pe_bltn (hg:=hg) (hm:=hm) (hv:=hv) (r:=r) (hn:=hn) (hd:=hd)⟩
theorem qe_glob {X:Cx}{x:Str}{v:V}{u:Value}{pos:Pos} (hg:Gl X x) (hm:X.mg x=some u) (r:RelV v u) (hd:(x == ("__debug__":Str))=false:=by decide):QE X (.Name x pos) (tC v):=⟨L2.pe_glob (hg:=hg) (hm:=hm) (r:=r) (hd:=hd)⟩
theorem qe_op {X:Cx}{a b:Expr}{ta tb:TE}{pos:Pos}{op:Operator}{r:R2} (ho:OpR X (binaryOp op) r) (ha:QE X a ta) (hb:QE X b tb):QE X (.BinOp a op b pos) (tOp r ta tb):=⟨L2.pe_op (ho:=ho) (ha:=ha.run) (hb:=hb.run)⟩
theorem qe_un {X:Cx}{a:Expr}{ta:TE}{pos:Pos}{op:UnaryOp}{r:V→Hp→VK→Prop} (ho:UnR X (unaryOp op) r) (ha:QE X a ta):QE X (.UnaryOp op a pos) (tUn r ta):=⟨L2.pe_un (ho:=ho) (ha:=ha.run)⟩
theorem qe_cmpR {X:Cx}{a b:Expr}{ta tb:TE}{pos:Pos}{op:CmpOp}{r:R2} (ho:OpR X (compareOp op) r) (ha:QE X a ta) (hb:QE X b tb) (hm:behindInMarks op b=false):QE X (.Compare a [op] [b] pos) (tOp r ta tb):=⟨L2.pe_cmpR (ho:=ho) (ha:=ha.run) (hb:=hb.run) (hm:=hm)⟩
theorem qe_and {X:Cx}{a b:Expr}{ta tb:TE}{pos:Pos}{rest:List Expr} (ha:QE X a ta) (hb:QE X (.BoolOp .And (b::rest) pos) tb):QE X (.BoolOp .And (a::b::rest) pos) (tAndV ta tb):=⟨L2.pe_and (ha:=ha.run) (hb:=hb.run)⟩
theorem qe_one {X:Cx}{a:Expr}{pos:Pos}{op}{t:TE} (h:QE X a t):QE X (.BoolOp op [a] pos) t:=⟨L2.pe_one (h:=h.run)⟩
theorem qe_lst {X:Cx}{es:List Expr}{t:TA}{pos:Pos} (h:QA X es t):QE X (.List es pos) (tLst t):=⟨L2.pe_lst (h:=h.run)⟩
theorem qe_tup {X:Cx}{es:List Expr}{t:TA}{pos:Pos}{x1} (h:QA X es t):QE X (.Tuple es x1 pos) (tTup t):=⟨L2.pe_tup (h:=h.run)⟩
theorem qe_ifExp {X:Cx}{a b:Expr}{ta tb:TE}{pos:Pos}{tA:TT}{c:Expr} (hc:QT X c tA) (ha:QE X a ta) (hb:QE X b tb):QE X (.IfExp c a b pos) (tIf tA ta tb):=⟨L2.pe_ifExp (hc:=hc.run) (ha:=ha.run) (hb:=hb.run)⟩
theorem qe_slice {X:Cx}{e:Expr}{te:TE}{lo hi:Option Expr}{tl th:TO}{pos p2:Pos}{r:V→Option Int→Option Int→Hp→VK→Prop} (hr:SlR X r) (he:QE X e te) (hl:QO X lo tl) (hu:QO X hi th):QE X (.Subscript e (.Slice lo hi none p2) pos) (tSl r te tl th):=⟨L2.pe_slice (hr:=hr) (he:=he.run) (hl:=hl.run) (hu:=hu.run)⟩
theorem qe_ix {X:Cx}{a b:Expr}{ta tb:TE}{pos:Pos}{r:R2} (hr:IxR X r) (ha:QE X a ta) (hb:QE X b tb) (hs:PlainIx b):QE X (.Subscript a b pos) (tOp r ta tb):=⟨L2.pe_ix (hr:=hr) (ha:=ha.run) (hb:=hb.run) (hs:=hs)⟩
theorem qe_lc {X:Cx}{scope:Scope}{cl:List (Str×Addr)}{x:Str}{fr:List Str}{js:List Nat}{elt iter:Expr}{px pos:Pos}{wi:TI}{te:TE} (hc:X.calm=true) (L:LcOk X scope x fr js cl) (hi:QI X (.Name x px) iter wi) (he:∀ C s H fp pins,QE (blk X scope cl C (x::fr) s H fp pins) elt te) (hs:∀ v,foldedSetIterable iter X.env v=pure v:=by intro _; rfl):QE X (.ListComp elt [⟨.Name x px,iter,[],0⟩] scope pos) (tLC wi js te):=⟨Sw.pe_lc (hc:=hc) (L:=L) (hi:=hi.run) (he:=fun C s H fp pins=>(he C s H fp pins).run) (hs:=hs)⟩
theorem qe_call {X:Cx}{CX:CXT}{k:Nat}{f:Addr}{fd:FuncData}{ps:List Str}{sp:Sp}{dvs:List V}{ds:List Value}{E:XK}{x:Str}{p pos:Pos}{e:Expr}{es:List Expr}{t:TA} (F:FnOk X.prog X.w X.K X.mg X.base CX k f fd ps sp) (hr:Room k X.A) (hg:Gl X x) (hm:X.mg x=some (.ref f)) (hk:PySem.W.keepIn X.K (.ref f)=true) (hb:Binds X.K fd ps ds) (hd:Vals dvs ds) (hx:Passes CX X E) (ha:QA X (e::es) t) (hdb:(x == ("__debug__":Str))=false:=by decide) (he:starEach (e::es) X.env=(false,eval e X.env)::starEach es X.env:=by rfl) (hpl:(backTo pos (starEach es X.env)).any (·.1)=false:=by rfl):QE X (.Call (.Name x p) (e::es) [] pos) (tCall sp dvs E t):=⟨L2.pe_call (F:=F) (hr:=hr) (hg:=hg) (hm:=hm) (hk:=hk) (hb:=hb) (hd:=hd) (hx:=hx) (ha:=ha.run) (hdb:=hdb) (he:=he) (hpl:=hpl)⟩
theorem qe_call0 {X:Cx}{CX:CXT}{k:Nat}{f:Addr}{fd:FuncData}{ps:List Str}{sp:Sp}{dvs:List V}{ds:List Value}{E:XK}{x:Str}{p pos:Pos} (F:FnOk X.prog X.w X.K X.mg X.base CX k f fd ps sp) (hr:Room k X.A) (hg:Gl X x) (hm:X.mg x=some (.ref f)) (hk:PySem.W.keepIn X.K (.ref f)=true) (hb:Binds X.K fd ps ds) (hd:Vals dvs ds) (hx:Passes CX X E) (hdb:(x == ("__debug__":Str))=false:=by decide):QE X (.Call (.Name x p) [] [] pos) (tCall sp dvs E tNil):=⟨L2.pe_call0 (F:=F) (hr:=hr) (hg:=hg) (hm:=hm) (hk:=hk) (hb:=hb) (hd:=hd) (hx:=hx) (hdb:=hdb)⟩
theorem qe_callTy {X:Cx}{x:Str}{p pos:Pos}{e:Expr}{es:List Expr}{t:TA}{T:String}{r:List V→Hp→VK→Prop} (hc:CallR X (.type T) r) (hg:Gl X x) (hm:X.mg x=none) (hv:bootBuiltins x=some (.type T)) (ha:QA X (e::es) t) (hn:x≠"__name__":=by decide) (hdb:(x == ("__debug__":Str))=false:=by decide) (he:starEach (e::es) X.env=(false,eval e X.env)::starEach es X.env:=by rfl) (hpl:(backTo pos (starEach es X.env)).any (·.1)=false:=by rfl):QE X (.Call (.Name x p) (e::es) [] pos) (tCB r t):=⟨L2.pe_callTy (hc:=hc) (hg:=hg) (hm:=hm) (hv:=hv) (ha:=ha.run) (hn:=hn) (hdb:=hdb) (he:=he) (hpl:=hpl)⟩
theorem qe_callB {X:Cx}{x:Str}{p pos:Pos}{e:Expr}{es:List Expr}{t:TA}{id:String}{r:List V→Hp→VK→Prop} (hc:CallR X (.builtin id) r) (hg:Gl X x) (hm:X.mg x=none) (hv:bootBuiltins x=some (.builtin id)) (ha:QA X (e::es) t) (hn:x≠"__name__":=by decide) (hdb:(x == ("__debug__":Str))=false:=by decide) (he:starEach (e::es) X.env=(false,eval e X.env)::starEach es X.env:=by rfl) (hpl:(backTo pos (starEach es X.env)).any (·.1)=false:=by rfl):QE X (.Call (.Name x p) (e::es) [] pos) (tCB r t):=⟨L2.pe_callB (hc:=hc) (hg:=hg) (hm:=hm) (hv:=hv) (ha:=ha.run) (hn:=hn) (hdb:=hdb) (he:=he) (hpl:=hpl)⟩
theorem qe_bm {X:Cx}{o e:Expr}{es:List Expr}{to:TE}{t:TA}{name:Str}{apos cpos:Pos}{T id:String}{r:V→List V→Hp→VK→Prop} (pa:PlainAttrs T) (slot:Slot T name id) (hty:typeOf (.builtin id)=pure (.type "method_descriptor")) (hm:MtR X id r) (ho:QE X o to) (ha:QA X (e::es) t) (hbase:attributeBase o name X.env (eval o X.env)=eval o X.env:=by rfl) (hfew:((backTo cpos (starEach (e::es) X.env)).all (fun x=>!x.1) && (backToKw cpos (keywordEach [] X.env)).all (fun x=>x.1.isSome)
   && decide ((e::es).length+([]:List Keyword).length+(if ([]:List Keyword).isEmpty then 0 else 1)<30))=true:=by rfl) (hline:(apos.endLine == cpos.line)=true:=by rfl) (hs:starEach (e::es) X.env=(false,eval e X.env)::starEach es X.env:=by rfl) (hplain:(backTo cpos (starEach es X.env)).any (·.1)=false:=by rfl):QE X (.Call (.Attribute o name apos) (e::es) [] cpos) (tBM X.K T r to t):=⟨L2.pe_bm (pa:=pa) (slot:=slot) (hty:=hty) (hm:=hm) (ho:=ho.run) (ha:=ha.run) (hbase:=hbase) (hfew:=hfew) (hline:=hline) (hs:=hs) (hplain:=hplain)⟩
theorem qe_bm0 {X:Cx}{o:Expr}{to:TE}{name:Str}{apos cpos:Pos}{T id:String}{r:V→List V→Hp→VK→Prop} (pa:PlainAttrs T) (slot:Slot T name id) (hty:typeOf (.builtin id)=pure (.type "method_descriptor")) (hm:MtR X id r) (ho:QE X o to) (hbase:attributeBase o name X.env (eval o X.env)=eval o X.env:=by rfl) (hline:(apos.endLine == cpos.line)=true:=by rfl):QE X (.Call (.Attribute o name apos) [] [] cpos) (tBM0 X.K T r to):=⟨L2.pe_bm0 (pa:=pa) (slot:=slot) (hty:=hty) (hm:=hm) (ho:=ho.run) (hbase:=hbase) (hline:=hline)⟩
theorem qe_listRev {X:Cx}{e:Expr}{te:TE}{p1 p2 pos pos2:Pos} (hgl:Gl X "list") (hgr:Gl X "reversed") (ml:X.mg "list"=none) (mr:X.mg "reversed"=none) (hc:X.calm=true) (he:QE X e te) (hs1:starEach [.Call (.Name "reversed" p2) [e] [] pos2] X.env=[(false,eval (.Call (.Name "reversed" p2) [e] [] pos2) X.env)]:=by rfl) (hs2:starEach [e] X.env=[(false,eval e X.env)]:=by rfl):QE X (.Call (.Name "list" p1) [.Call (.Name "reversed" p2) [e] [] pos2] [] pos) (SwR.tLR X.K te):=⟨SwR.pe_listRev (hgl:=hgl) (hgr:=hgr) (ml:=ml) (mr:=mr) (hc:=hc) (he:=he.run) (hs1:=hs1) (hs2:=hs2)⟩
theorem qt_val {X:Cx}{e:Expr}{t:TE} (h:QE X e t) (he:∀ whole,isTrue e X.env whole=(do let v ← whole; standAt e.pos; holding [v] (truthy v)):=by intro _; rfl):QT X e (tB t):=⟨L2.pt_val (h:=h.run) (he:=he)⟩
theorem qt_truth {X:Cx}{a:Expr}{ta:TE} (ha:QE X a ta) (he:∀ whole,isTrue a X.env whole=(do let v ← whole; standAt a.pos; holding [v] (truthy v))):QT X a (fun σ H Q=>ta σ H fun x H'=>∃ k,TruV X.K x H' k∧Q k H'):=⟨L2.pt_truth (ha:=ha.run) (he:=he)⟩
theorem qt_cmpR {X:Cx}{a b:Expr}{ta tb:TE}{pos:Pos}{op:CmpOp}{r:R2} (ho:OpR X (compareOp op) r) (ha:QE X a ta) (hb:QE X b tb) (hm:behindInMarks op b=false):QT X (.Compare a [op] [b] pos) (tTest (tOp r ta tb)):=⟨L2.pt_cmpR (ho:=ho) (ha:=ha.run) (hb:=hb.run) (hm:=hm)⟩
theorem qt_not {X:Cx}{a:Expr}{pos:Pos}{tA:TT} (ha:QT X a tA):QT X (.UnaryOp .Not a pos) (tNot tA):=⟨L2.pt_not (ha:=ha.run)⟩
theorem qw_and {X:Cx}{a b:Expr}{pos:Pos}{tA tB':TT}{rest:List Expr} (ha:QT X a tA) (hb:QW X (.BoolOp .And (b::rest) pos) tB'):QW X (.BoolOp .And (a::b::rest) pos) (tAnd tA tB'):=⟨L2.pw_and (ha:=ha.run) (hb:=hb.run)⟩
theorem qw_and1 {X:Cx}{a:Expr}{pos:Pos}{tA:TT} (ha:QT X a tA):QW X (.BoolOp .And [a] pos) tA:=⟨L2.pw_and1 (ha:=ha.run)⟩
theorem qw_or {X:Cx}{a b:Expr}{pos:Pos}{tA tB':TT}{rest:List Expr} (ha:QT X a tA) (hb:QW X (.BoolOp .Or (b::rest) pos) tB'):QW X (.BoolOp .Or (a::b::rest) pos) (tOr tA tB'):=⟨L2.pw_or (ha:=ha.run) (hb:=hb.run)⟩
theorem qw_or1 {X:Cx}{a:Expr}{pos:Pos}{tA:TT} (ha:QT X a tA):QW X (.BoolOp .Or [a] pos) tA:=⟨L2.pw_or1 (ha:=ha.run)⟩
theorem qa_nil {X:Cx}:QA X [] tNil:=⟨L2.pa_nil⟩
theorem qa_cons {X:Cx}{e:Expr}{es:List Expr}{te:TE}{t:TA} (ha:QE X e te) (hr:QA X es t) (hs:starEach (e::es) X.env=(false,eval e X.env)::starEach es X.env:=by rfl):QA X (e::es) (tCons te t):=⟨L2.pa_cons (ha:=ha.run) (hr:=hr.run) (hs:=hs)⟩
theorem qs_ret {X:Cx}{e:Expr}{te:TE}{pos:Pos} (he:QE X e te):QS X (.Return (some e) pos) (tRet te):=⟨L2.ps_ret (he:=he.run)⟩
theorem qs_retN {X:Cx}{pos:Pos}:QS X (.Return none pos) tRetN:=⟨L2.ps_retN⟩
theorem qs_set {X:Cx}{pos:Pos}{i:Nat}{x:Str}{e:Expr}{te:TE}{pos':Pos} (hN:X.N.Nodup) (hi:X.N[i]?=some x) (hx:Loc X.env.scope x) (he:QE X e te) (hs:swapsWith e (some (.Name x pos')) pos.line X.env=pure false:=by rfl) (hf:X.fn x=true∨X.env.scope.names.lookup x=some .local:=by first | exact .inl rfl | exact .inr rfl | assumption):QS X (.Assign [.Name x pos'] e pos) (tAsg te (gName i)):=⟨L2.ps_set (hN:=hN) (hi:=hi) (hx:=hx) (he:=he.run) (hs:=hs) (hf:=hf)⟩
theorem qs_aug {X:Cx}{pos:Pos}{i:Nat}{x:Str}{e:Expr}{te:TE}{op:Operator}{ti:TIp}{pos':Pos} (hN:X.N.Nodup) (hi:X.N[i]?=some x) (hx:Loc X.env.scope x) (he:QE X e te) (ho:PIp X op ti) (hf:X.fn x=true∨X.env.scope.names.lookup x=some .local:=by first | exact .inl rfl | exact .inr rfl | assumption):QS X (.AugAssign (.Name x pos') op e pos) (tAug i te ti):=⟨L2.ps_aug (hN:=hN) (hi:=hi) (hx:=hx) (he:=he.run) (ho:=ho) (hf:=hf)⟩
theorem qs_if {X:Cx}{t u:TS}{pos:Pos}{c:Expr}{a b:List Stmt}{tc:TT} (hc:QT X c tc) (ha:QSs X a t) (hb:QSs X b u):QS X (.If c a b pos) (tIfS tc t u):=⟨L2.ps_if (hc:=hc.run) (ha:=ha.run) (hb:=hb.run)⟩
theorem qs_while {X:Cx}{pos:Pos}{c:Expr}{body:List Stmt}{tc:TT}{tb:TS} (hp:PassesOwn (model X.prog X.w) X.A X.env X.xe) (hc:QT X c tc) (hb:QSs X body tb):QS X (.While c body [] pos) (tWhile tc tb):=⟨L2.ps_while (hp:=hp) (hc:=hc.run) (hb:=hb.run)⟩
theorem qs_for {X:Cx}{tg:Expr}{iter:Expr}{body:List Stmt}{wi:TI}{g:TG}{tb:TS}{pos:Pos} (hp:PassesOwn (model X.prog X.w) X.A X.env X.xe) (hc:X.calm=true) (hi:QI X tg iter wi) (hg:QG X tg g) (hb:QSs X body tb) (hs:∀ x,foldedSetIterable iter X.env x=pure x:=by intro _; rfl):QS X (.For tg iter body [] pos) (tFor wi g tb):=⟨L2.ps_for (hp:=hp) (hc:=hc) (hi:=hi.run) (hg:=hg.run) (hb:=hb.run) (hs:=hs)⟩
theorem qs_expr {X:Cx}{e:Expr}{te:TE}{pos:Pos} (he:QE X e te) (hs:swapsWith e none pos.line X.env=pure false:=by rfl):QS X (.Expr e pos) (tDrop te):=⟨L2.ps_expr (he:=he.run) (hs:=hs)⟩
theorem qs_continue {X:Cx}{pos:Pos}:QS X (.Continue pos) tCont:=⟨L2.ps_continue⟩
theorem qs_pass {X:Cx}{pos:Pos}:QS X (.Pass pos) tNext:=⟨L2.ps_pass⟩
theorem qs_never {X:Cx}{st:Stmt}:QS X st tNever:=⟨L2.ps_never⟩
theorem qs_asg {X:Cx}{pos:Pos}{tg e:Expr}{te:TE}{g:TG} (he:QE X e te) (hg:QG X tg g) (hs:swapsWithSole [tg] e pos.line X.env=pure false:=by rfl) (hw:swappedStores [tg] e X.env=pure none:=by rfl) (h1:(assignEach [tg] X.env).map (·.2)=[assign tg X.env]:=by rfl):QS X (.Assign [tg] e pos) (tAsg te g):=⟨L2.ps_asg (he:=he.run) (hg:=hg.run) (hs:=hs) (hw:=hw) (h1:=h1)⟩
theorem qss_nil {X:Cx}:QSs X [] tNext:=⟨L2.pss_nil⟩
theorem qss_cons {X:Cx}{st:Stmt}{rest:List Stmt}{t u:TS} (h1:QS X st t) (h2:QSs X rest u):QSs X (st::rest) (tSeq t u):=⟨L2.pss_cons (h1:=h1.run) (h2:=h2.run)⟩
theorem qss_one {X:Cx}{st:Stmt}{t:TS} (h1:QS X st t):QSs X [st] t:=⟨L2.pss_one (h1:=h1.run)⟩
theorem qi_range1 {X:Cx}{tg:Expr}{a:Expr}{ta:TA}{p pos:Pos} (hg:Gl X "range") (hm:X.mg "range"=none) (ha:QA X [a] ta) (hs:starEach [a] X.env=[(false,eval a X.env)]:=by rfl):QI X tg (.Call (.Name "range" p) [a] [] pos) (iRng1 ta):=⟨L2.pi_range1 (hg:=hg) (hm:=hm) (ha:=ha.run) (hs:=hs)⟩
theorem qi_list {X:Cx}{tg:Expr}{l:Expr}{tl:TE} (hl:QE X l tl):QI X tg l (iList X.K tl):=⟨L2.pi_list (hl:=hl.run)⟩
theorem qi_tup {X:Cx}{tg:Expr}{l:Expr}{tl:TE} (hl:QE X l tl):QI X tg l (iTup X.K tl):=⟨L2.pi_tup (hl:=hl.run)⟩
theorem qg_name {X:Cx}{pos:Pos}{i:Nat}{x:Str} (hN:X.N.Nodup) (hi:X.N[i]?=some x) (hx:Loc X.env.scope x) (hf:X.fn x=true∨X.env.scope.names.lookup x=some .local:=by first | exact .inl rfl | exact .inr rfl | assumption):QG X (.Name x pos) (gName i):=⟨L2.pg_name (hN:=hN) (hi:=hi) (hx:=hx) (hf:=hf)⟩
theorem qo_none {X:Cx}:QO X none tNoPart:=⟨L2.po_none⟩
theorem qo_some {X:Cx}{e:Expr}{te:TE} (h:QE X e te):QO X (some e) (tPart te):=⟨L2.po_some (h:=h.run)⟩
theorem okQ {P:Program}{w:World}{K:PySem.W.Frag}{mg:Str→Option Value}{base:Heap}{x qual:Str}{st:Stmt}{f:Addr}{fd:FuncData}{N ps:List Str}{k:Nat}{sp:Sp} (F:Fun K x qual st f fd) (S:FnScope N ps (defScope st)) (len:∀ vs H Q E,sp vs H Q E→vs.length=ps.length)
  (hb:∀ (cdv:Value) (A:Around) (outer:List Env) (s:Shared) (H:Hp) (vs:List V) (Q:VK) (E:XK),Room k (A.deeper (envOfC qual (defScope st) s.heap.objs.size f cdv))→sp vs H Q E →
   ∃ t,QSs (cxOf CX0 P w K mg base N qual (defScope st) f cdv A outer s H E).nox (defBody st) t∧t { nx:=fun _ H'=>Q .non H',rt:=Q } (start N vs) H):FnOk P w K mg base CX0 (k+1) f fd ps sp :=
 F.ok S len fun cdv A outer s H vs Q E hr h=>let ⟨t,q,r⟩:=hb cdv A outer s H vs Q E hr h; ⟨t,q.run,r⟩
end Sw
namespace Sw
open PySem PySem.Spec PyProof.Rows L2
theorem bt_len:bootBuiltins "len"=some (.builtin "len"):=by decide +kernel
theorem bt_sum:bootBuiltins "sum"=some (.builtin "sum"):=by decide +kernel
theorem bt_min:bootBuiltins "min"=some (.builtin "min"):=by decide +kernel
theorem bt_isinstance:bootBuiltins "isinstance"=some (.builtin "isinstance"):=by decide +kernel
theorem bt_tuple:bootBuiltins "tuple"=some (.type "tuple"):=by decide +kernel
theorem small {n:Nat} (h:n≤1000000):n≤sizeLine:=Nat.le_trans h (by decide)
theorem smallL {n:Nat} (h:n≤1000000):n<sizeLine:=Nat.lt_of_le_of_lt h (by decide)
theorem last_of {α:Type}{ys:List α} (h:ys≠[]):∃ y,ys[ys.length - 1]?=some y:=by
 have:ys.length - 1<ys.length:=by
  have:=List.length_pos_iff.mpr h
  lia
 exact⟨ys[ys.length - 1],List.getElem?_eq_getElem this⟩
theorem cut_from (xs:List V) (k:Nat):cutV xs (some (k:Int)) none=xs.drop k:=by
 unfold cutV
 rw [HT.sIx_nat,HT.sIx_none]
 by_cases h:k≤xs.length
 ·rw [Nat.min_eq_left h,List.take_of_length_le (by rw [List.length_drop]; lia)]
 ·rw [Nat.min_eq_right (by lia),List.drop_eq_nil_of_le (by lia),List.drop_eq_nil_of_le (by lia),List.take_nil]
theorem cut_to (xs:List V) (k:Nat):cutV xs none (some (k:Int))=xs.take k:=by
 unfold cutV
 rw [HT.sIx_nat,HT.sIx_none,List.drop_zero,Nat.sub_zero]
 by_cases h:k≤xs.length
 ·rw [Nat.min_eq_left h]
 ·rw [Nat.min_eq_right (by lia),List.take_of_length_le (Nat.le_refl _),List.take_of_length_le (by lia)]
section
variable {K:PySem.W.Frag}
theorem All2.rev {α β:Type}{R:α→β→Prop}{as:List α}{bs:List β} (h:All2 R as bs):All2 R as.reverse bs.reverse:=by
 induction h with
 | nil=>exact .nil
 | cons r _ ih=>rw [List.reverse_cons,List.reverse_cons]; exact ih.append (All2.one r)
def RowAt (K:PySem.W.Frag) (H₀ H:Hp) (ts:List T) (x:V):Prop:=∃ a xs,x=.ref a∧H₀ a=none∧H a=some (.lst xs)∧TRs K H ts xs
structure RowsR (K:PySem.W.Frag) (H₀ H:Hp) (p:Addr) (st:List (List T)) (ys:List V):Prop where
 new:H₀ p=none
 same:Same H₀ H
 at_:H p=some (.lst ys)
 rows:All2 (RowAt K H₀ H) st.reverse ys
 nd:((.ref p:V)::ys).Nodup
theorem RowAt.upd {H₀ H:Hp}{p:Addr}{o:HO}{ts:List T}{x:V} (h:RowAt K H₀ H ts x) (hne:x≠.ref p) (k:Kt H (upd H p o)):RowAt K H₀ (upd H p o) ts x:=by
 obtain⟨a,xs,rfl,h1,h2,h3⟩:=h
 exact⟨a,xs,rfl,h1,by rw [upd_ne (fun z=>hne (by rw [z]))]; exact h2,h3.mono k⟩
theorem rows_upd {H₀ H:Hp}{p:Addr}{o:HO} (k:Kt H (upd H p o)):∀ {ss:List (List T)}{ys:List V},All2 (RowAt K H₀ H) ss ys→(.ref p:V) ∉ ys→All2 (RowAt K H₀ (upd H p o)) ss ys:=by
 intro ss ys h
 induction h with
 | nil=>intro _; exact .nil
 | cons r _ ih=>intro hn; exact .cons (r.upd (fun z=>hn (by rw [z]; exact List.mem_cons_self)) k) (ih fun z=>hn (List.mem_cons_of_mem _ z))
theorem rows_open {H₀ H:Hp}{p q:Addr}{st:List (List T)}{ys:List V} (R:RowsR K H₀ H p st ys) (hq:H q=none):RowsR K H₀ (upd (upd H q (.lst [])) p (.lst (ys++[.ref q]))) p ([]::st) (ys++[.ref q]):=by
 have npq:p≠q:=ne_of_none R.at_ hq
 have hq0:H₀ q=none:=R.same.free hq
 have nin:(.ref q:V) ∉ ys:=fun hm=>by
  obtain⟨i,hi⟩:=List.mem_iff_getElem?.mp hm
  obtain⟨ts,_,a,xs,e,_,h2,_⟩:=R.rows.get hi
  cases e
  rw [hq] at h2
  cases h2
 have nd:=List.nodup_cons.mp R.nd
 have k1:Kt H (upd H q (.lst [])):=Kt.new hq
 have h1:upd H q (.lst []) p=some (.lst ys):=by rw [upd_ne npq]; exact R.at_
 have k2:Kt (upd H q (.lst [])) (upd (upd H q (.lst [])) p (.lst (ys++[.ref q]))):=Kt.lst h1
 refine⟨R.new,same_upd (same_upd R.same hq0) R.new,upd_same,?_,?_⟩
 ·rw [List.reverse_cons]
  refine All2.append (rows_upd k2 (rows_upd k1 R.rows nin) nd.1) (All2.one ⟨q,[],rfl,hq0,?_,TRs_nil.mpr rfl⟩)
  rw [upd_ne (Ne.symm npq)]
  exact upd_same
 ·rw [← List.cons_append]
  refine List.nodup_append.mpr ⟨R.nd,by simp,fun x hx y hy e=>?_⟩
  have ey:y=.ref q:=by simpa using hy
  rw [ey] at e
  subst e
  rcases List.mem_cons.mp hx with z | z
  ·exact npq (V.ref.inj z).symm
  ·exact nin z
theorem All2.snoc {α β:Type}{R:α→β→Prop}{as:List α}{a:α}{bs:List β} (h:All2 R (as++[a]) bs):∃ bs' b,bs=bs'++[b]∧All2 R as bs'∧R a b:=by
 induction as generalizing bs with
 | nil =>
  cases h with
  | cons r h=>cases h; exact⟨[],_,rfl,.nil,r⟩
 | cons c as ih =>
  cases h with
  | cons r h =>
   obtain⟨bs',b,rfl,h1,h2⟩:=ih h
   exact⟨_::bs',b,rfl,.cons r h1,h2⟩
theorem at_last {ys:List V}{v:V}:atI (ys++[v]) (-1)=some v:=by
 unfold atI ixN
 have hl:(ys++[v]).length=ys.length+1:=by simp
 rw [if_neg (by decide),if_pos (by rw [hl]; lia),hl,show ((-1:Int)+((ys.length+1:Nat):Int)).toNat=ys.length by lia,Option.bind_some]
 simp
end
end Sw
namespace Sw
open PySem PySem.Spec PyProof.Rows L2
section
variable {X:Cx}
def rCatTA (K:PySem.W.Frag):R2:=fun x y H Q=>∃ a b xs ys,x=.ref a∧y=.ref b∧SqT K H a xs∧SqT K H b ys∧xs.length+ys.length≤sizeLine∧∀ p H',Same H H'→SqT K H' p (xs++ys)→Q (.ref p) H'
theorem op_catTA:OpR X (binaryOp .Add) (rCatTA X.K):=by
 intro pins s σ H x y v u Q I rx ry h
 obtain⟨a,b,xs,ys,rfl,rfl,ha,hb,hz,q⟩:=h
 by_cases hx:xs=[]
 ·subst hx
  cases rx
  cases ry
  obtain⟨its,r1,p1,_⟩:=I.tuple ha
  obtain⟨its2,r2,p2,_⟩:=I.tuple hb
  have e1:its=[]:=r1.nil_iff.mpr rfl
  subst e1
  obtain⟨⟨cls,dd,data,sl⟩,ho,hc,n,hd⟩:=id p1
  obtain⟨⟨cls2,dd2,data2,sl2⟩,ho2,hc2,n2,hd2⟩:=id p2
  simp only at hc hd hc2 hd2
  subst hc hd hc2 hd2
  exact concat_meets ⟨_,ho,rfl⟩ ⟨_,ho2,rfl⟩ noFill_tuple_add seq_tuple_add PySem.F.slot_tuple_add PySem.F.entry_tuple_add (PySem.F.args_tuple_add_2 _ _)
   (tuple_addW0 a b ([]:List Value).toArray its2.toArray n n2 dd dd2 sl sl2 rfl) ⟨ho,ho2,⟨.ref b,H,I,rfl,q b H (Same.refl H) hb⟩⟩
 ·refine op_catT pins s σ H _ _ v u Q I rx ry ⟨a,b,xs,ys,rfl,rfl,ha,hb,hx,hz,fun e=>?_,fun _ p hp=>q p _ (same_new hp _) (SqT.of upd_same)⟩
  subst e
  exact q a H (Same.refl H) (by rw [List.append_nil]; exact ha)
theorem noFill_tuple_mul:fillsNumberSlot (.type "tuple") "mul"=pure false:=by
 first | kernel_rfl | (unfold fillsNumberSlot; kernel_rfl)
theorem repeat_tuple:seqRepeat? (.type "tuple")=pure (some (.builtin "tuple.__mul__")):=by
 unfold seqRepeat?
 first | kernel_rfl | (simp only [typeLookup_type,builtinLookup_eq_fast]; kernel_rfl) | rfl
theorem rmul_tuple (a:Int) (t:Tok) (l:Addr) (items:Array Value) (n:Nat) (dd:Option Addr) (sl:Array (Option Value)) :
  Meets (Builtin.«int.__rmul__» ⟨[.int a t,.ref l],[]⟩) (fun _ R s=>s.heap.get? l=some { cls:=.type "tuple",dict:=dd,data:=.seq items n,slots:=sl }∧R (.ok (.ret Value.notImplemented)) s) :=
 .of_wp fun prog w A R s h=>by
  obtain⟨hp,g,d,tk,os⟩:=s
  obtain⟨hl,h⟩:=h
  wp_walk
  exact⟨_,rfl,h⟩
theorem tmul_same (l:Addr) (items:Array Value) (n:Nat) (dd:Option Addr) (sl:Array (Option Value)) (k:Int) (t:Tok) (h0:(items.isEmpty || k == 1)=true) (h1:¬ (decide (k < -(2 ^ 63)) || decide (k ≥ 2 ^ 63))=true) :
  Meets (Builtin.«tuple.__mul__» ⟨[.ref l,.int k t],[]⟩) (fun _ R s=>s.heap.get? l=some { cls:=.type "tuple",dict:=dd,data:=.seq items n,slots:=sl }∧R (.ok (.ret (.ref l))) s) :=
 .of_wp fun prog w A R s h=>by
  obtain⟨hp,g,d,tk,os⟩:=s
  obtain⟨hl,h⟩:=h
  have f1:=AutoSeq1.idx_int
  have f2:=AutoSeq1.sub_tuple_tuple
  wp_walk using AutoSeq1.wpAny_loadPart' hl
  rw [if_neg h1]
  wp_walk using AutoSeq1.wpAny_loadPart' hl
  exact⟨_,rfl,h⟩
theorem tmul_zero (l:Addr) (items:Array Value) (n:Nat) (dd:Option Addr) (sl:Array (Option Value)) (k:Int) (t:Tok) (h0:¬ (items.isEmpty || k == 1)=true) (h1:¬ (decide (k < -(2 ^ 63)) || decide (k ≥ 2 ^ 63))=true) (h2:(decide (k≤0) || items.isEmpty)=true) :
  Meets (Builtin.«tuple.__mul__» ⟨[.ref l,.int k t],[]⟩) (fun _ R s=>s.heap.get? l=some { cls:=.type "tuple",dict:=dd,data:=.seq items n,slots:=sl }∧R (.ok (.ret (.ref s.heap.objs.size))) { s with heap:=s.heap.push { cls:=.type "tuple",data:=.seq #[] } }) :=
 .of_wp fun prog w A R s h=>by
  obtain⟨hp,g,d,tk,os⟩:=s
  obtain⟨hl,h⟩:=h
  have f1:=AutoSeq1.idx_int
  have f2:=AutoSeq1.sub_tuple_tuple
  wp_walk using AutoSeq1.wpAny_loadPart' hl
  rw [if_neg h1]
  wp_walk using AutoSeq1.wpAny_loadPart' hl
  exact⟨_,rfl,h⟩
theorem tmul_more (l:Addr) (items:Array Value) (n:Nat) (dd:Option Addr) (sl:Array (Option Value)) (k:Int) (t:Tok) (h0:¬ (items.isEmpty || k == 1)=true) (h1:¬ (decide (k < -(2 ^ 63)) || decide (k ≥ 2 ^ 63))=true) (h2:¬ (decide (k≤0) || items.isEmpty)=true)
  (h3:¬ (items.size:Int) * k > (2 ^ 63 - 1) / 8) (h4:¬ Builtin.Tuple.tupleTooMany ((items.size:Int) * k)=true) (h5:((List.replicate k.toNat items).foldl (·++·) #[]).size≤sizeLine) :
  Meets (Builtin.«tuple.__mul__» ⟨[.ref l,.int k t],[]⟩) (fun _ R s=>s.heap.get? l=some { cls:=.type "tuple",dict:=dd,data:=.seq items n,slots:=sl }∧R (.ok (.ret (.ref s.heap.objs.size))) { s with heap:=s.heap.push { cls:=.type "tuple",data:=.seq ((List.replicate k.toNat items).foldl (·++·) #[]) } }) :=
 .of_wp fun prog w A R s h=>by
  obtain⟨hp,g,d,tk,os⟩:=s
  obtain⟨hl,h⟩:=h
  have f1:=AutoSeq1.idx_int
  have f2:=AutoSeq1.sub_tuple_tuple
  wp_walk using AutoSeq1.wpAny_loadPart' hl
  rw [if_neg h1]
  wp_walk using AutoSeq1.wpAny_loadPart' hl
  rw [if_neg h3]
  wp_walk using AutoSeq1.wpAny_loadPart' hl
  exact⟨_,rfl,h⟩
def repV (xs:List V) (k:Int):List V:=(List.replicate k.toNat xs).flatten
def rRepTA (K:PySem.W.Frag):R2:=fun x y H Q=>∃ a k xs,x=.ref a∧y=.int k∧SqT K H a xs∧-(2 ^ 62)≤k∧k<2 ^ 62∧xs.length * k.toNat≤sizeLine∧∀ p H',Same H H'→SqT K H' p (repV xs k)→Q (.ref p) H'
theorem op_repTA:OpR X (binaryOp .Mult) (rRepTA X.K):=by
 intro pins s σ H x y v u Q I rx ry h
 obtain⟨a,k,xs,rfl,rfl,ha,h1,h2,hz,q⟩:=h
 cases rx
 obtain⟨t,rfl⟩:=ry
 obtain⟨its,r,p1,hzx⟩:=I.tuple ha
 have hlen:=r.length
 obtain⟨⟨cls,dd,data,sl⟩,ho,hc,n,hd⟩:=id p1
 simp only at hc hd
 subst hc hd
 have b1:¬ (decide (k < -(2 ^ 63)) || decide (k ≥ 2 ^ 63))=true:=by
  rw [decide_eq_false (by lia),decide_eq_false (by lia)]
  decide
 refine wpAny_binaryOp_repeat_ref (T:="tuple") (U:="int") (by decide) ⟨_,ho,rfl⟩ (fun s'=>typeIs_int s' k t) noFill_tuple_mul F.fills_int_mul F.slot_int_rmul repeat_tuple F.slot_int_index.lookup
  (call_meets F.slot_int_rmul (typeIs_int s k t) F.entry_int_rmul (F.args_int_rmul_2 _ _) (rmul_tuple k t a its.toArray n dd sl) ⟨ho,rfl,⟨_,ho,rfl⟩,?_⟩)
 by_cases c0:(its.toArray.isEmpty || k == 1)=true
 ·refine call_meets F.slot_tuple_mul ⟨_,ho,rfl⟩ F.entry_tuple_mul (F.args_tuple_mul_2 _ _) (tmul_same a its.toArray n dd sl k t c0 b1) ⟨ho,⟨.ref a,H,I,rfl,q a H (Same.refl H) ?_⟩⟩
  rcases Bool.or_eq_true_iff.mp c0 with z | z
  ·have:its=[]:=by simpa using z
   have hx:xs=[]:=r.nil_iff.mp this
   subst hx
   have:repV ([]:List V) k=[]:=by unfold repV; simp
   rw [this]
   exact ha
  ·have:k=1:=by simpa using z
   subst this
   have:repV xs 1=xs:=by unfold repV; simp
   rw [this]
   exact ha
 ·by_cases c2:(decide (k≤0) || its.toArray.isEmpty)=true
  ·refine call_meets F.slot_tuple_mul ⟨_,ho,rfl⟩ F.entry_tuple_mul (F.args_tuple_mul_2 _ _) (tmul_zero a its.toArray n dd sl k t c0 b1 c2) ⟨ho,?_⟩
   have hk:k≤0:=by
    rcases Bool.or_eq_true_iff.mp c2 with z | z
    ·exact of_decide_eq_true z
    ·rw [z] at c0
     exact absurd rfl c0
   have e0:repV xs k=[]:=by
    unfold repV
    rw [show k.toNat=0 by lia]
    rfl
   refine⟨.ref s.heap.objs.size,_,I.laid (t':=s.toks) (o:=.tup []) (fun b ob z=>Heap.get?_push_of_some _ z) (Nat.le_refl _) ?_,rfl,q _ _ (same_new (I.hok.fresh (Nat.le_refl _)) _) (by rw [e0]; exact SqT.of upd_same)⟩
   exact⟨Nat.zero_le _,[],.nil,IsTup.new _ _⟩
  ·have hk:0<k:=by
    by_cases hk:k≤0
    ·rw [decide_eq_true hk] at c2
     exact absurd rfl c2
    ·lia
   have hsz:its.toArray.size * k.toNat≤sizeLine:=by rw [List.size_toArray,← hlen]; exact hz
   have hsl:(sizeLine:Nat)=16777216:=sizeLine_eq
   have hpr:(its.toArray.size:Int) * k=((its.toArray.size * k.toNat:Nat):Int):=by
    rw [Int.natCast_mul,show ((k.toNat:Nat):Int)=k by lia]
   have hnew:(List.replicate k.toNat its.toArray).foldl (·++·) #[]=(List.replicate k.toNat its).flatten.toArray:=by
    have:=foldl_rep its k.toNat []
    rw [List.nil_append] at this
    exact this
   have hrl:(List.replicate k.toNat its).flatten.length≤sizeLine:=by
    rw [len_rep,Nat.mul_comm]
    simpa using hsz
   refine call_meets F.slot_tuple_mul ⟨_,ho,rfl⟩ F.entry_tuple_mul (F.args_tuple_mul_2 _ _) (tmul_more a its.toArray n dd sl k t c0 b1 c2 ?_ ?_ ?_) ⟨ho,?_⟩
   ·rw [hpr]
    have:((2:Int) ^ 63 - 1) / 8=1152921504606846975:=by decide
    rw [this]
    lia
   ·unfold Builtin.Tuple.tupleTooMany
    rw [hpr,decide_eq_false (by lia)]
    decide
   ·rw [hnew,List.size_toArray]
    exact hrl
   ·rw [hnew]
    have rr:=r.rep k.toNat
    refine⟨.ref s.heap.objs.size,_,I.laid (t':=s.toks) (o:=.tup (repV xs k)) (fun b ob z=>Heap.get?_push_of_some _ z) (Nat.le_refl _) ?_,rfl,q _ _ (same_new (I.hok.fresh (Nat.le_refl _)) _) (SqT.of upd_same)⟩
    exact⟨by unfold repV; rw [rr.length]; exact hrl,_,rr,IsTup.new _ _⟩
end
theorem lc_rangeI {H:Hp}{lo:Int}{n:Nat}{σ:Sg}{js:List Nat}{te:TE}{Q:VK} (J:Addr→Nat→List V→Hp→Prop) (hz:n≤sizeLine) (h0:∀ D,H D=none→J D 0 [] (upd H D (.lst [])))
  (hD:∀ D i ys H',J D i ys H'→H' D=some (.lst ys)∧ys.length=i)
  (hte:∀ D i ys H' (R:VK),i<n→J D i ys H'→(∀ y H3,H3 D=some (.lst ys)→J D (i+1) (ys++[y]) (upd H3 D (.lst (ys++[y])))→R y H3)→te (some (.int (lo+i))::frv σ js) H' R)
  (q:∀ D ys H',J D n ys H'→Q (.ref D) H'):LcRun (Itr lo n) js te σ Q H:=by
 intro D hDn
 refine⟨fun i m ys H'=>m=n - i∧i≤n∧J D i ys H',⟨n,by lia,Nat.zero_le _,h0 D hDn⟩,?_⟩
 rintro i m ys H' ⟨rfl,hi,hj⟩
 obtain⟨h1,h2⟩:=hD D i ys H' hj
 refine⟨h1,?_⟩
 by_cases hlt:i<n
 ·refine .inr ⟨hlt,fun x H2 y=>?_⟩
  obtain⟨e,y⟩:=y
  subst e
  subst y
  exact hte D i ys _ _ hlt hj fun y H3 g1 g2=>⟨g1,by lia,n - (i+1),by lia,rfl,hlt,g2⟩
 ·have e:i=n:=by lia
  subst e
  exact .inl ⟨Nat.le_refl _,q D ys H' hj⟩
theorem lc_tupI {K:PySem.W.Frag}{H:Hp}{a:Addr}{xs:List V}{σ:Sg}{js:List Nat}{te:TE}{Q:VK} (J:Addr→Nat→List V→Hp→Prop) (hz:xs.length≤sizeLine) (h0:∀ D,H D=none→J D 0 [] (upd H D (.lst [])))
  (hD:∀ D i ys H',J D i ys H'→H' D=some (.lst ys)∧ys.length=i∧SqT K H' a xs)
  (hte:∀ D i x ys H' (R:VK),xs[i]?=some x→J D i ys H'→(∀ y H3,H3 D=some (.lst ys)→J D (i+1) (ys++[y]) (upd H3 D (.lst (ys++[y])))→R y H3)→te (some x::frv σ js) H' R)
  (q:∀ D ys H',J D xs.length ys H'→Q (.ref D) H'):LcRun (Itt K a) js te σ Q H:=by
 intro D hDn
 refine⟨fun i m ys H'=>m=xs.length - i∧i≤xs.length∧J D i ys H',⟨xs.length,by lia,Nat.zero_le _,h0 D hDn⟩,?_⟩
 rintro i m ys H' ⟨rfl,hi,hj⟩
 obtain⟨h1,h2,h3⟩:=hD D i ys H' hj
 refine⟨h1,?_⟩
 by_cases hlt:i<xs.length
 ·refine .inr ⟨⟨xs,xs[i],h3,List.getElem?_eq_getElem hlt⟩,fun x H2 y=>?_⟩
  obtain⟨e,y⟩:=y
  subst e
  exact hte D i x ys _ _ (y xs h3) hj fun y H3 g1 g2=>⟨g1,by lia,xs.length - (i+1),by lia,rfl,hlt,g2⟩
 ·have e:i=xs.length:=by lia
  subst e
  exact .inl ⟨⟨xs,h3,Nat.le_refl _⟩,q D ys H' hj⟩
theorem lc_listI {K:PySem.W.Frag}{H:Hp}{a:Addr}{xs:List V}{σ:Sg}{js:List Nat}{te:TE}{Q:VK} (J:Addr→Nat→List V→Hp→Prop) (hz:xs.length≤sizeLine) (h0:∀ D,H D=none→J D 0 [] (upd H D (.lst [])))
  (hD:∀ D i ys H',J D i ys H'→H' D=some (.lst ys)∧ys.length=i∧SqL K H' a xs)
  (hte:∀ D i x ys H' (R:VK),xs[i]?=some x→J D i ys H'→(∀ y H3,H3 D=some (.lst ys)→J D (i+1) (ys++[y]) (upd H3 D (.lst (ys++[y])))→R y H3)→te (some x::frv σ js) H' R)
  (q:∀ D ys H',J D xs.length ys H'→Q (.ref D) H'):LcRun (Itl K a) js te σ Q H:=by
 intro D hDn
 refine⟨fun i m ys H'=>m=xs.length - i∧i≤xs.length∧J D i ys H',⟨xs.length,by lia,Nat.zero_le _,h0 D hDn⟩,?_⟩
 rintro i m ys H' ⟨rfl,hi,hj⟩
 obtain⟨h1,h2,h3⟩:=hD D i ys H' hj
 refine⟨h1,?_⟩
 by_cases hlt:i<xs.length
 ·refine .inr ⟨⟨xs,xs[i],h3,List.getElem?_eq_getElem hlt⟩,fun x H2 y=>?_⟩
  obtain⟨e,y⟩:=y
  subst e
  exact hte D i x ys _ _ (y xs h3) hj fun y H3 g1 g2=>⟨g1,by lia,xs.length - (i+1),by lia,rfl,hlt,g2⟩
 ·have e:i=xs.length:=by lia
  subst e
  exact .inl ⟨⟨xs,h3,Nat.le_refl _⟩,q D ys H' hj⟩
def DkAt (H:Hp) (p:Addr):Prop:=∃ ns:List Int,H p=some (.lst (ns.map V.int))
structure Dr (p:Addr) (H H':Hp):Prop where
 keep:∀ b o,b≠p→H b=some o→H' b=some o
 deck:DkAt H' p
theorem Dr.refl {p:Addr}{H:Hp} (d:DkAt H p):Dr p H H:=⟨fun _ _ _ e=>e,d⟩
theorem Dr.trans {p:Addr}{H H1 H2:Hp} (a:Dr p H H1) (b:Dr p H1 H2):Dr p H H2:=⟨fun c o n e=>b.keep c o n (a.keep c o n e),b.deck⟩
theorem Dr.same {p:Addr}{H H1 H2:Hp} (a:Dr p H H1) (S:Same H1 H2):Dr p H H2:=⟨fun c o n e=>S c o (a.keep c o n e),let ⟨ns,e⟩:=a.deck; ⟨ns,S _ _ e⟩⟩
theorem Dr.kt {p:Addr}{H H':Hp} (d:DkAt H p) (a:Dr p H H'):Kt H H':=by
 obtain⟨ns,e⟩:=d
 exact⟨fun b xs q=>a.keep b _ (ne_of q e (fun z=>by cases z)) q,fun b o u q=>a.keep b _ (ne_of q e (fun z=>by cases z)) q⟩
theorem Dr.free {p b:Addr}{H H':Hp} (d:DkAt H p) (a:Dr p H H') (h:H' b=none):H b=none:=by
 cases e:H b with
 | none=>rfl
 | some o =>
  by_cases hb:b=p
  ·subst hb
   obtain⟨ns,q⟩:=a.deck
   rw [h] at q
   cases q
  ·rw [a.keep b o hb e] at h
   cases h
theorem Dr.upd {p b:Addr}{H H':Hp}{o:HO} (a:Dr p H H') (h:H b=none) (hp:b≠p):Dr p H (upd H' b o) :=
 ⟨fun c u n e=>by rw [upd_ne (ne_of_none e h)]; exact a.keep c u n e,let ⟨ns,e⟩:=a.deck; ⟨ns,by rw [upd_ne (Ne.symm hp)]; exact e⟩⟩
end Sw
namespace Sw
open PySem PySem.Spec PyProof.Rows L2
section
variable {X:Cx}{scope:Scope}{cl:List (Str×Addr)}{x:Str}{fr:List Str}{js:List Nat}{elt iter:Expr}{px pos:Pos}{wi:TI}{te:TE}{pins:List (Addr×Obj)}{s:Shared}{σ:Sg}{H:Hp}
end
end Sw
namespace Sw
open PySem PySem.Spec PyProof.Rows L2
section
variable {K:PySem.W.Frag}{H:Hp}{Q:VK}
theorem nCat {ts us:List T}{x y:V} (hx:TR K H (.node ts) x) (hy:TR K H (.node us) y) (hz:ts.length+us.length≤sizeLine) (q:∀ z H',Same H H'→TR K H' (.node (ts++us)) z→Q z H'):rCatTA K x y H Q:=by
 obtain⟨a,xs,rfl,ha,ra⟩:=TR_node.mp hx
 obtain⟨b,ys,rfl,hb,rb⟩:=TR_node.mp hy
 refine⟨a,b,xs,ys,rfl,rfl,ha,hb,by rw [ra.length,rb.length]; exact hz,fun p H' S h=>q _ _ S (TR_mk h ((ra.append rb).mono (.of S)))⟩
theorem TRs.at {ts:List T}{xs:List V} (h:TRs K H ts xs) {i:Nat}{t:T} (e:ts[i]?=some t):∃ x,xs[i]?=some x∧TR K H t x:=by
 have hl:=h.length
 have hi:i<ts.length:=(List.getElem?_eq_some_iff.mp e).1
 have e2:xs[i]?=some (xs[i]'(by lia)):=List.getElem?_eq_getElem _
 obtain⟨t',e3,h3⟩:=h.get e2
 rw [e] at e3
 cases e3
 exact⟨_,e2,h3⟩
theorem nIx {ts:List T}{x y:V}{t:T} (hx:TR K H (.node ts) x) (i:Nat) (e:ts[i]?=some t) (q:∀ z,TR K H t z→Q z H) (hy:y=.int ((i:Nat):Int):=by rfl):rIxT K x y H Q:=by
 obtain⟨a,xs,rfl,ha,ra⟩:=TR_node.mp hx
 obtain⟨v,e2,h2⟩:=ra.at e
 exact⟨a,xs,_,v,rfl,hy,ha,atI_nat e2,q v h2⟩
theorem nFrom {ts:List T}{x:V} (hx:TR K H (.node ts) x) (k:Nat) {j:Option Int} (q:∀ z H',Same H H'→TR K H' (.node (ts.drop k)) z→Q z H') (hj:j=some ((k:Nat):Int):=by rfl):rSlTA K x j none H Q:=by
 obtain⟨a,xs,rfl,ha,ra⟩:=TR_node.mp hx
 subst hj
 refine⟨a,xs,rfl,ha,fun p H' S h=>q _ _ S (TR_mk h ?_)⟩
 rw [cut_from]
 exact (ra.drop k).mono (.of S)
theorem trs1 {t:T}{x:V} (h:TR K H t x):TRs K H [t] [x]:=TRs_cons.mpr ⟨x,[],rfl,h,TRs_nil.mpr rfl⟩
theorem trs2 {t u:T}{x y:V} (h:TR K H t x) (g:TR K H u y):TRs K H [t,u] [x,y]:=TRs_cons.mpr ⟨x,[y],rfl,h,trs1 g⟩
theorem trs3 {t u r:T}{x y z:V} (h:TR K H t x) (g:TR K H u y) (k:TR K H r z):TRs K H [t,u,r] [x,y,z]:=TRs_cons.mpr ⟨x,[y,z],rfl,h,trs2 g k⟩
end
section
variable {X:Cx}{K:PySem.W.Frag}
end
theorem bt_all:bootBuiltins "all"=some (.builtin "all"):=by decide +kernel
section
variable {X:Cx}
theorem bools_at:∀ {bs:List Bool}{its:List Value},Vals (bs.map V.bl) its→its=bs.map Value.bool
 | [],_,h=>by cases h; rfl
 | b::bs,_,h=>by
  cases h with
  | cons r q =>
   rw [bools_at q]
   exact congrArg (·::_) r
theorem range_all (bs:List Bool):(List.range bs.length).all (fun i=>bs.getD i true)=bs.all id:=by
 rw [Bool.eq_iff_iff,List.all_eq_true,List.all_eq_true]
 refine⟨fun h b hb=>?_,fun h i hi=>?_⟩
 ·obtain⟨i,hi,e⟩:=List.getElem_of_mem hb
  have:=h i (List.mem_range.mpr hi)
  rw [List.getD_eq_getElem?_getD,List.getElem?_eq_getElem hi,Option.getD_some,e] at this
  exact this
 ·have hi':=List.mem_range.mp hi
  rw [List.getD_eq_getElem?_getD,List.getElem?_eq_getElem hi',Option.getD_some]
  exact h _ (List.getElem_mem hi')
theorem call_all (hc:X.calm=true):CallR X (.builtin "all") (fun xs H Q=>∃ (p:Addr) (bs:List Bool),xs=[.ref p]∧SqL X.K H p (bs.map V.bl)∧Q (.bl (bs.all id)) H):=by
 intro pins s σ H xs us Q I r h
 obtain⟨p,bs,rfl,hq,q⟩:=h
 obtain⟨u,rfl,rx⟩:=vals1 r
 cases rx
 obtain⟨its,r',pl,hz⟩:=I.list hq
 have hit:=bools_at r'
 subst hit
 have hl:=pl.isList
 have hlt:p<s.heap.objs.size:=by obtain⟨_,e,_⟩:=hl; exact Heap.lt_size e
 refine call_all_walk (wpAny_pyIter_list hl ?_)
 refine⟨_,_,_,_,_,_,fun i=>bs.getD i true,rfl,Walks.list (A:=X.A.in1) (I.ok.hd hc) _ p (Nat.ne_of_lt hlt) (bs.map Value.bool).toArray,⟨⟨_,Heap.get?_push_size _ rfl,rfl,rfl⟩,hl.push _⟩,?_,fun h' tk hk=>?_⟩
 ·intro i v s Q E hv hQ
  rw [List.getElem?_toArray,List.getElem?_map] at hv
  cases hh:bs[i]? with
  | none=>rw [hh] at hv; cases hv
  | some b =>
   rw [hh] at hv
   cases hv
   have hQ':Q (bs.getD i true) s:=hQ
   rw [List.getD_eq_getElem?_getD,hh] at hQ'
   exact wpAny_truthy_bool hQ'
 ·have es:(List.range (bs.map Value.bool).toArray.size).all (fun i=>bs.getD i true)=bs.all id:=by
   rw [List.size_toArray,List.length_map]
   exact range_all bs
  rw [es]
  exact⟨.bl (bs.all id),H,I.kept (old_kept hk),rfl,q⟩
end
def B (a b:Nat) (t:T):Prop:=t.deep≤a∧t.parts≤b
theorem B.le {a b a' b':Nat}{t:T} (h:B a b t) (h1:a≤a') (h2:b≤b'):B a' b' t:=⟨Nat.le_trans h.1 h1,Nat.le_trans h.2 h2⟩
theorem B_nil:B 0 1 (.node []):=⟨by rw [T.deep_node,T.deepL_nil]; lia,by rw [T.parts_node,T.partsL_nil]; lia⟩
theorem B_cons {a b a' b':Nat}{t:T}{ts:List T} (h:B a b t) (g:B a' b' (.node ts)):B (max (a+1) a') (b+b') (.node (t::ts)):=by
 obtain⟨h1,h2⟩:=h
 obtain⟨g1,g2⟩:=g
 rw [T.deep_node] at g1
 rw [T.parts_node] at g2
 refine⟨?_,?_⟩
 ·rw [T.deep_node,T.deepL_cons]; lia
 ·rw [T.parts_node,T.partsL_cons]; lia
theorem B_cat {a b a' b':Nat}{us:List T} (g:B a' b' (.node us)):∀ {ts:List T},B a b (.node ts)→B (max a a') (b+b') (.node (ts++us))
 | [],_=>g.le (by lia) (by lia)
 | t::ts,h=>by
  obtain⟨h1,h2⟩:=h
  rw [T.deep_node,T.deepL_cons] at h1
  rw [T.parts_node,T.partsL_cons] at h2
  have q:=B_cat g (ts:=ts) (a:=a) (b:=b - t.parts) ⟨by rw [T.deep_node]; lia,by rw [T.parts_node]; lia⟩
  have q1:=q.1
  have q2:=q.2
  rw [T.deep_node] at q1
  rw [T.parts_node] at q2
  refine⟨?_,?_⟩
  ·rw [List.cons_append,T.deep_node,T.deepL_cons]; lia
  ·rw [List.cons_append,T.parts_node,T.partsL_cons]; lia
theorem B_row {a b n:Nat}:∀ {ts:List T},(∀ t∈ts,B a b t)→ts.length≤n→B (a+1) (1+n * b) (.node ts)
 | [],_,_=>B_nil.le (by lia) (by lia)
 | t::ts,h,hl=>by
  rw [List.length_cons] at hl
  obtain⟨m,rfl⟩:∃ m,n=m+1:=⟨n - 1,by lia⟩
  refine (B_cons (h t List.mem_cons_self) (B_row (n:=m) (fun u hu=>h u (List.mem_cons_of_mem _ hu)) (by lia))).le (by lia) ?_
  rw [Nat.succ_mul]; lia
theorem B.len {a b:Nat}{ts:List T} (h:B a b (.node ts)):ts.length<b:=by
 have h2:=h.2
 rw [T.parts_node] at h2
 have:∀ us:List T,us.length≤T.partsL us:=fun us=>by
  induction us with
  | nil=>exact Nat.zero_le _
  | cons u us ih =>
   rw [List.length_cons,T.partsL_cons]
   have:1≤u.parts:=by cases u; rw [T.parts_node]; lia
   lia
 have:=this ts
 lia
theorem tupN {K:PySem.W.Frag}{H:Hp}{p:Addr}{xs:List V}{ts:List T} (hp:H p=none) (h:TRs K H ts xs):Same H (upd H p (.tup xs))∧TR K (upd H p (.tup xs)) (.node ts) (.ref p) :=
 ⟨same_new hp _,TR_mk (SqT.of upd_same) (h.mono (.new hp))⟩
def pbT:Nat→Nat
 | 0=>1
 | d+1=>1+3 * pbT d
theorem partsL_le {ts:List T}{n b:Nat} (hl:ts.length≤n) (h:∀ t∈ts,t.parts≤b):T.partsL ts≤n * b :=
 Nat.le_trans (T.partsL_le_of h) (Nat.mul_le_mul_right b hl)
theorem leaf_tr {K:PySem.W.Frag}{H:Hp}{p:Addr} (h:H p=some (.tup [])):TR K H (.node []) (.ref p):=TR_mk (xs:=[]) (SqT.of h) (TRs_nil.mpr rfl)
theorem rep_one (x:V) (n:Nat):repV [x] (n:Int)=List.replicate n x:=by
 unfold repV
 rw [Int.toNat_natCast]
 induction n with
 | zero=>rfl
 | succ n ih=>rw [List.replicate_succ,List.flatten_cons,ih,List.replicate_succ]; rfl
theorem trs_rep {K:PySem.W.Frag}{H:Hp}{t:T}{x:V} (h:TR K H t x):∀ n:Nat,TRs K H (List.replicate n t) (List.replicate n x)
 | 0=>TRs_nil.mpr rfl
 | n+1=>by
  rw [List.replicate_succ,List.replicate_succ]
  exact TRs_cons.mpr ⟨x,_,rfl,h,trs_rep h n⟩
def spDeck (K:PySem.W.Frag):Sp:=fun vs H Q _=>∃ (a:Addr) (ns:List Int),vs=[.ref a]∧SqL K H a (ns.map V.int)∧ns.length≤63∧∀ p H',Same H H'→H p=none→DkAt H' p→Q (.ref p) H'
def spNext:Sp:=fun vs H Q _=>∃ (p:Addr) (m:Int),vs=[.ref p,.int m]∧0<m∧DkAt H p∧∀ i H',0≤i→i<m→Dr p H H'→Q (.int i) H'
def ShT:Nat→T→Prop:=fun d t=>t.deep≤d∧t.parts≤pbT d
def spTree (K:PySem.W.Frag) (n:Nat):Sp:=fun vs H Q _=>∃ (p:Addr) (d:Nat),vs=[.ref p,.int (d:Int)]∧d≤n∧DkAt H p∧∀ y t H',Dr p H H'→TR K H' t y→ShT d t→Q y H'
def leavesT (n:Nat):T:=.node (List.replicate n (.node []))
def spLaw (K:PySem.W.Frag):Sp:=fun vs H Q _=>∃ (a:Addr) (ns:List Int),vs=[.ref a]∧SqL K H a (ns.map V.int)∧ns.length≤63∧∀ H',Q (.bl true) H'
def sortT (t:T):Nat:=match t.kids with
 | []=>0
 | f::_=>min 9 f.kids.length
def loadT (t:T):T:=.node (t.kids.drop 1)
theorem flat_rep {α:Type} (x:α) (n:Nat):(List.replicate n [x]).flatten=List.replicate n x:=by
 induction n with
 | zero=>rfl
 | succ n ih=>rw [List.replicate_succ,List.flatten_cons,ih,List.replicate_succ]; rfl
theorem at_mem {ns:List Int}{k:Int} (h0:0≤k) (h:k<(ns.length:Int)):∃ i∈ns,atI (ns.map V.int) k=some (.int i):=by
 have hk:k.toNat<ns.length:=by lia
 have e:(ns.map V.int)[k.toNat]?=some (.int ns[k.toNat]):=by rw [List.getElem?_map,List.getElem?_eq_getElem hk]; rfl
 have:=atI_nat e
 rw [show ((k.toNat:Nat):Int)=k by lia] at this
 exact⟨_,List.getElem_mem hk,this⟩
theorem cut_mid (xs:List V) (i j:Nat):∃ k,cutV xs (some (i:Int)) (some (j:Int))=(xs.drop (min i xs.length)).take k:=⟨_,by unfold cutV; rw [HT.sIx_nat,HT.sIx_nat]⟩
def wordT (n:Nat) (us:List T):T:=.node (leavesT n::us)
def spLay (K:PySem.W.Frag):Sp:=fun vs H Q _=>∃ x t,vs=[x]∧TR K H t x∧t.deep≤400∧t.parts≤1000000∧∀ y H',Same H H'→TR K H' (wordT 0 t.kids) y→Q y H'
def spLoop (K:PySem.W.Frag):Sp:=fun vs H Q _=>∃ x t,vs=[x]∧TR K H t x∧t.deep≤400∧t.parts≤1000000∧∀ y H',Same H H'→TR K H' (wordT 8 t.kids) y→Q y H'
def spPlain (K:PySem.W.Frag):Sp:=fun vs H Q _=>∃ n:Nat,vs=[.int (n:Int)]∧1≤n∧n≤6∧∀ y H',Same H H'→TR K H' (wordT n []) y→Q y H'
def spFork (K:PySem.W.Frag):Sp:=fun vs H Q _=>∃ x t y u,vs=[x,y]∧TR K H t x∧TR K H u y∧(t.deep≤400∧t.parts≤1000000)∧(u.deep≤400∧u.parts≤1000000)∧∀ z H',Same H H'→TR K H' (wordT 7 (t::u.kids)) z→Q z H'
end Sw
namespace Sw
open PySem PySem.Spec PyProof.Rows L2
theorem nFromP {K:PySem.W.Frag}{H:Hp}{Q:VK}{σ:L2.St}{ts:List T}{x:V} (hx:TR K H (.node ts) x) (k:Nat) {j:Option Int} (q:∀ z H',Same H H'→TR K H' (.node (ts.drop k)) z→Q z H') (hj:j=some ((k:Nat):Int):=by rfl):tNoPart σ H (fun u H3=>rSlTA K x j u H3 Q):=nFrom hx k q hj
theorem nIxP {K:PySem.W.Frag}{H:Hp}{Q:VK}{σ:L2.St}{ts:List T}{x y:V}{t:T} (hx:TR K H (.node ts) x) (i:Nat) (e:ts[i]?=some t) (q:∀ z,TR K H t z→Q z H) (hy:y=.int ((i:Nat):Int):=by rfl):tC y σ H (fun y H2=>rIxT K x y H2 Q):=nIx hx i e q hy
def leaf:T:=.node []
def ats (s:List T) (k:Nat):T:=(s[k]?).getD leaf
def many (k:Nat):Nat:=([0,1,1,2,2,1,3,1,1,0]:List Nat).getD k 0
def pad (s:List T) (n:Nat):List T:=s++List.replicate (n - s.length) leaf
theorem pad_of {s:List T}{n:Nat} (h:n≤s.length):pad s n=s:=by
 unfold pad
 rw [show n - s.length=0 by lia,List.replicate_zero,List.append_nil]
theorem pad_len (s:List T) (n:Nat):n≤(pad s n).length:=by
 unfold pad
 rw [List.length_append,List.length_replicate]
 lia
def behind (w:T) (s:List T):List T :=
 if sortT w=0 then loadT w::s
 else if 6<sortT w then pad s (many (sortT w))
 else if sortT w=1 then (pad s 1).drop 1
 else if sortT w=2 then ats (pad s 1) 0::ats (pad s 1) 0::(pad s 1).drop 1
 else if sortT w=3 then ats (pad s 2) 1::ats (pad s 2) 0::(pad s 2).drop 2
 else if sortT w=4 then .node (ats (pad s 2) 0::(ats (pad s 2) 1).kids)::(pad s 2).drop 2
 else if sortT w=5 then ats (ats (pad s 1) 0).kids 0::.node ((ats (pad s 1) 0).kids.drop 1)::(pad s 1).drop 1
 else ats (pad s 3) 2::ats (pad s 3) 0::ats (pad s 3) 1::(pad s 3).drop 3
def onward (tx s:List T):List T×List T×Nat :=
 match (ats tx 0).kids with
 | []=>(tx.drop 1,s,12)
 | w::ws =>
  if sortT w=7 then
   if (ats s 0).kids≠[] then (ats (w.kids.drop 1) 0::.node ws::tx.drop 1,behind w s,7) else (.node (w.kids.drop 2)::.node ws::tx.drop 1,behind w s,8)
  else if sortT w=8 then
   if (ats s 0).kids≠[] then (loadT w::tx,behind w s,9) else (.node ws::tx.drop 1,behind w s,10)
  else if sortT w=9 then (.node ws::tx.drop 1,behind w s,11)
  else (.node ws::tx.drop 1,behind w s,sortT w)
theorem sort_le (w:T):sortT w≤9:=by
 unfold sortT
 split
 ·lia
 ·exact Nat.min_le_left _ _
def spSortL (K:PySem.W.Frag):Sp:=fun vs H Q _=>∃ x t,vs=[x]∧TR K H t x∧t.deep≤400∧∀ H',Same H H'→Q (.int (sortT t:Nat)) H'
theorem ats_mem {s:List T}{k:Nat} (h:k<s.length):s[k]?=some (ats s k):=by
 unfold ats
 rw [List.getElem?_eq_getElem h]
 rfl
theorem kids_node (t:T):T.node t.kids=t:=by cases t; rfl
section
variable {w:T}{s:List T}
theorem beh0 (h:sortT w=0):behind w s=loadT w::s:=by unfold behind; rw [if_pos h]
theorem beh7 (h:6<sortT w):behind w s=pad s (many (sortT w)):=by unfold behind; rw [if_neg (by lia),if_pos h]
theorem beh1 (h:sortT w=1):behind w s=(pad s 1).drop 1:=by unfold behind; rw [h]; rfl
theorem beh2 (h:sortT w=2):behind w s=ats (pad s 1) 0::ats (pad s 1) 0::(pad s 1).drop 1:=by unfold behind; rw [h]; rfl
theorem beh3 (h:sortT w=3):behind w s=ats (pad s 2) 1::ats (pad s 2) 0::(pad s 2).drop 2:=by unfold behind; rw [h]; rfl
theorem beh4 (h:sortT w=4):behind w s=.node (ats (pad s 2) 0::(ats (pad s 2) 1).kids)::(pad s 2).drop 2:=by unfold behind; rw [h]; rfl
theorem beh5 (h:sortT w=5):behind w s=ats (ats (pad s 1) 0).kids 0::.node ((ats (pad s 1) 0).kids.drop 1)::(pad s 1).drop 1:=by unfold behind; rw [h]; rfl
theorem beh6 (h:sortT w=6):behind w s=ats (pad s 3) 2::ats (pad s 3) 0::ats (pad s 3) 1::(pad s 3).drop 3:=by unfold behind; rw [h]; rfl
end
theorem ats_in {s:List T}{k:Nat} (h:k<s.length):ats s k∈s:=List.mem_of_getElem? (ats_mem h)
section
variable {X:Cx}
end
theorem ifSet {tc:TT}{te:TE}{i:Nat}{u:TS}{D:Ends}{σ:L2.St}{H:Hp} (P:V→Hp→Prop) (v0:V) (hv0:σ.set i (some v0)=σ) (k:∀ v H',P v H'→u D (σ.set i (some v)) H')
  (h:∀ A B:Hp→Prop,(∀ H1,(∀ R:VK,(∀ v H',P v H'→R v H')→te σ H1 R)→A H1)→(∀ H1,P v0 H1→B H1)→tc σ H (fun b H1=>if b=true then A H1 else B H1)) :
  tSeq (tIfS tc (tAsg te (gName i)) tNext) u D σ H:=by
 refine h (fun H1=>tAsg te (gName i) { D with nx:=u D } σ H1) (fun H1=>tNext { D with nx:=u D } σ H1) (fun H1 r=>r _ fun v H' p=>k v H' p) (fun H1 p=>?_)
 have q:=k v0 H1 p
 rw [hv0] at q
 exact q
theorem B.pos {a b:Nat}{t:T} (h:B a b t):1≤b:=Nat.le_trans (T.parts_pos t) h.2
theorem B_mem {a b:Nat}{ts:List T}{t:T} (h:B a b (.node ts)) (ht:t∈ts):B a b t:=by
 have h1:=h.1
 have h2:=h.2
 rw [T.deep_node] at h1
 rw [T.parts_node] at h2
 have:=T.mem_deep ht
 have:=T.mem_parts ht
 exact⟨by lia,by lia⟩
theorem B_ats {a b:Nat}{ts:List T} (h:B a b (.node ts)) (k:Nat):B a b (ats ts k):=by
 by_cases hk:k<ts.length
 ·exact B_mem h (ats_in hk)
 ·unfold ats
  rw [List.getElem?_eq_none (by lia)]
  exact B_nil.le (by lia) h.pos
theorem B_pad {a b:Nat}{s:List T} (n:Nat) (hn:n≤3) (ha:1≤a) (h:B a b (.node s)):B a (b+4) (.node (pad s n)) :=
 (B_cat (B_row (a:=0) (b:=1) (n:=3) (fun t ht=>by rw [List.eq_of_mem_replicate ht]; exact B_nil) (by rw [List.length_replicate]; lia)) h).le (by lia) (by lia)
theorem setP {te:TE}{i:Nat}{u:TS}{D:Ends}{σ:L2.St}{H:Hp} (P:V→Hp→Prop) (h:∀ R:VK,(∀ v H',P v H'→R v H')→te σ H R) (k:∀ v H',P v H'→u D (σ.set i (some v)) H'):tSeq (tAsg te (gName i)) u D σ H:=h _ k
theorem dk_ne {H:Hp}{p q:Addr} (d:DkAt H p) (h:H q=none):q≠p:=fun z=>by
 obtain⟨ms,e⟩:=d
 rw [z,e] at h
 cases h
theorem setQ {te:TE}{i:Nat}{u:TS}{D:Ends}{σ:L2.St}{H:Hp} (σ':V→L2.St) (hσ:∀ v,σ.set i (some v)=σ' v) (P:V→Hp→Prop) (h:∀ R:VK,(∀ v H',P v H'→R v H')→te σ H R) (k:∀ v H',P v H'→u D (σ' v) H'):tSeq (tAsg te (gName i)) u D σ H :=
 setP P h fun v H' p=>by rw [hσ]; exact k v H' p
theorem ifSetQ {tc:TT}{te:TE}{i:Nat}{u:TS}{D:Ends}{σ:L2.St}{H:Hp} (σ':V→L2.St) (hσ:∀ v,σ.set i (some v)=σ' v) (P:V→Hp→Prop) (v0:V) (hv0:σ.set i (some v0)=σ) (k:∀ v H',P v H'→u D (σ' v) H')
  (h:∀ A B:Hp→Prop,(∀ H1,(∀ R:VK,(∀ v H',P v H'→R v H')→te σ H1 R)→A H1)→(∀ H1,P v0 H1→B H1)→tc σ H (fun b H1=>if b=true then A H1 else B H1)) :
  tSeq (tIfS tc (tAsg te (gName i)) tNext) u D σ H:=ifSet P v0 hv0 (fun v H' p=>by rw [hσ]; exact k v H' p) h
end Sw
namespace Sw
open PySem PySem.Spec PyProof.Rows L2
def TupO (o:Obj) (xs:List V):Prop:=∃ (its:Array Value) (n:Nat),o.cls=.type "tuple"∧o.data=.seq its n∧its.size≤sizeLine∧Vals xs its.toList
theorem TupO.sq {K:PySem.W.Frag}{o:Obj}{xs:List V}{a:Addr}{H:Hp} (h:TupO o xs) (l:K.lookup a=some o):SqT K H a xs:=by
 obtain⟨its,n,h1,h2,h3,h4⟩:=h
 exact .inr ⟨o,its,n,l,h1,h2,h3,h4⟩
def spFirst (K:PySem.W.Frag):Sp:=fun vs H Q _=>∃ x t,vs=[x]∧TR K H t x∧t.deep≤400∧∀ y H',Same H H'→TR K H' (ats t.kids 0) y→Q y H'
def spRest (K:PySem.W.Frag):Sp:=fun vs H Q _=>∃ x t,vs=[x]∧TR K H t x∧∀ y H',Same H H'→TR K H' (loadT t) y→Q y H'
theorem sort_ats (t:T):sortT t=min 9 (ats t.kids 0).kids.length:=by
 cases t with
 | node ts=>cases ts <;> rfl
theorem TR_kids {K:PySem.W.Frag}{H:Hp}{t:T}{x:V} (h:TR K H t x):TR K H (.node t.kids) x:=by rw [kids_node]; exact h
theorem smallM {n:Nat} (h:n≤16000000):n≤sizeLine:=Nat.le_trans h (by decide)
theorem two62:(2:Int) ^ 62=4611686018427387904:=by decide
theorem nRep {K:PySem.W.Frag}{H:Hp}{Q:VK}{x y:V}{k:Int} (n:Nat) (hx:TR K H (.node [.node []]) x) (hy:y=.int k) (hk:k.toNat=n) (h0:-16000000≤k) (hn:n≤16000000) (q:∀ z H',Same H H'→TR K H' (leavesT n) z→Q z H'):rRepTA K x y H Q:=by
 obtain⟨a,xs,rfl,ha,ra⟩:=TR_node.mp hx
 obtain⟨v,r,rfl,hv,hr⟩:=TRs_cons.mp ra
 rw [TRs_nil] at hr
 subst hr
 subst hk
 have h2:=two62
 refine⟨a,k,[v],rfl,hy,ha,by lia,by lia,by show 1 * k.toNat≤sizeLine; exact smallM (by lia),fun p H' S h=>q _ _ S ?_⟩
 have e:repV [v] k=List.replicate k.toNat v:=by
  unfold repV
  exact flat_rep v _
 rw [e] at h
 exact TR_mk h (trs_rep (hv.mono (.of S)) _)
theorem nRepP {K:PySem.W.Frag}{H:Hp}{Q:VK}{σ:L2.St}{x y:V}{k:Int} (n:Nat) (hx:TR K H (.node [.node []]) x) (hy:y=.int k) (hk:k.toNat=n) (h0:-16000000≤k) (hn:n≤16000000) (q:∀ z H',Same H H'→TR K H' (leavesT n) z→Q z H'):tC y σ H (fun y H2=>rRepTA K x y H2 Q):=nRep n hx hy hk h0 hn q
def looks (k:Nat):Nat:=([0,1,1,2,2,1,3,1,1,1,1,0,0]:List Nat).getD k 0
def workT (k:Nat) (l:T) (s:List T):List T :=
 if k=0 then l::s
 else if k=1 then s.drop 1
 else if k=2 then ats s 0::s
 else if k=3 then ats s 1::ats s 0::s.drop 2
 else if k=4 then .node (ats s 0::(ats s 1).kids)::s.drop 2
 else if k=5 then ats (ats s 0).kids 0::loadT (ats s 0)::s.drop 1
 else if k=6 then ats s 2::ats s 0::ats s 1::s.drop 3
 else s
theorem cons_drop {s:List T} (h:1≤s.length):ats s 0::s.drop 1=s:=by
 cases s with
 | nil=>simp at h
 | cons t r=>rfl
theorem work_behind {w:T}{s:List T} (h:sortT w≤6):behind w s=workT (sortT w) (loadT w) (pad s (looks (sortT w))):=by
 have hl:sortT w=0∨sortT w=1∨sortT w=2∨sortT w=3∨sortT w=4∨sortT w=5∨sortT w=6:=by lia
 rcases hl with e | e | e | e | e | e | e
 ·rw [beh0 e,e]; show _=loadT w::pad s 0; rw [pad_of (Nat.zero_le _)]
 ·rw [beh1 e,e]; rfl
 ·rw [beh2 e,e]
  show _=ats (pad s 1) 0::pad s 1
  rw [cons_drop (pad_len s 1)]
 ·rw [beh3 e,e]; rfl
 ·rw [beh4 e,e]; rfl
 ·rw [beh5 e,e]; rfl
 ·rw [beh6 e,e]; rfl
def stepT (tx s:List T):Nat:=(onward tx s).2.2
theorem step_nil {tx s:List T} (h:(ats tx 0).kids=[]):stepT tx s=12:=by
 unfold stepT onward
 rw [h]
section
variable {tx s:List T}{w:T}{ws:List T}
theorem on_nil (h:(ats tx 0).kids=[]):onward tx s=(tx.drop 1,s,12):=by
 unfold onward
 rw [h]
theorem on_yes (h:(ats tx 0).kids=w::ws) (e:sortT w=7) (d:(ats s 0).kids≠[]):onward tx s=(ats (w.kids.drop 1) 0::.node ws::tx.drop 1,pad s 1,7):=by
 unfold onward
 rw [h]
 show (if sortT w=7 then _ else _)=_
 rw [if_pos e,if_pos d,beh7 (by lia),e]
 rfl
theorem on_no (h:(ats tx 0).kids=w::ws) (e:sortT w=7) (d:(ats s 0).kids=[]):onward tx s=(.node (w.kids.drop 2)::.node ws::tx.drop 1,pad s 1,8):=by
 unfold onward
 rw [h]
 show (if sortT w=7 then _ else _)=_
 rw [if_pos e,if_neg (by simp [d]),beh7 (by lia),e]
 rfl
theorem on_into (h:(ats tx 0).kids=w::ws) (e:sortT w=8) (d:(ats s 0).kids≠[]):onward tx s=(loadT w::tx,pad s 1,9):=by
 unfold onward
 rw [h]
 show (if sortT w=7 then _ else _)=_
 rw [if_neg (by lia),if_pos e,if_pos d,beh7 (by lia),e]
 rfl
theorem on_past (h:(ats tx 0).kids=w::ws) (e:sortT w=8) (d:(ats s 0).kids=[]):onward tx s=(.node ws::tx.drop 1,pad s 1,10):=by
 unfold onward
 rw [h]
 show (if sortT w=7 then _ else _)=_
 rw [if_neg (by lia),if_pos e,if_neg (by simp [d]),beh7 (by lia),e]
 rfl
theorem on_less (h:(ats tx 0).kids=w::ws) (e:sortT w=9):onward tx s=(.node ws::tx.drop 1,pad s 0,11):=by
 unfold onward
 rw [h]
 show (if sortT w=7 then _ else _)=_
 rw [if_neg (by lia),if_neg (by lia),if_pos e,beh7 (by lia),e]
 rfl
theorem on_word (h:(ats tx 0).kids=w::ws) (e:sortT w≤6):onward tx s=(.node ws::tx.drop 1,workT (sortT w) (loadT w) (pad s (looks (sortT w))),sortT w):=by
 unfold onward
 rw [h]
 show (if sortT w=7 then _ else _)=_
 rw [if_neg (by lia),if_neg (by lia),if_neg (by lia),work_behind e]
end
theorem work_ge {k:Nat}{l:T}{s:List T} (h:7≤k):workT k l s=s:=by
 unfold workT
 rw [if_neg (by lia),if_neg (by lia),if_neg (by lia),if_neg (by lia),if_neg (by lia),if_neg (by lia),if_neg (by lia)]
theorem looks_le (k:Nat):looks k≤3:=by
 by_cases h:k<13
 ·have:∀ k,k<13→looks k≤3:=by decide
  exact this k h
 ·unfold looks
  rw [List.getD_eq_getElem?_getD,List.getElem?_eq_none (by show 13≤k; lia)]
  decide
section
variable {tx s:List T}
theorem on_all:((ats tx 0).kids=[]∧onward tx s=(tx.drop 1,s,12))∨∃ w ws,(ats tx 0).kids=w::ws ∧
  (onward tx s=(ats (w.kids.drop 1) 0::.node ws::tx.drop 1,pad s 1,7)∨onward tx s=(.node (w.kids.drop 2)::.node ws::tx.drop 1,pad s 1,8)∨onward tx s=(loadT w::tx,pad s 1,9) ∨ ∃ k,(k≤6∨k=10∨k=11)∧onward tx s=(.node ws::tx.drop 1,workT k (loadT w) (pad s (looks k)),k)):=by
 cases hk:(ats tx 0).kids with
 | nil=>exact .inl ⟨rfl,on_nil hk⟩
 | cons w ws =>
  refine .inr ⟨w,ws,rfl,?_⟩
  have h9:=sort_le w
  by_cases e7:sortT w=7
  ·by_cases d:(ats s 0).kids=[]
   ·exact .inr (.inl (on_no hk e7 d))
   ·exact .inl (on_yes hk e7 d)
  by_cases e8:sortT w=8
  ·by_cases d:(ats s 0).kids=[]
   ·exact .inr (.inr (.inr ⟨10,by lia,on_past hk e8 d⟩))
   ·exact .inr (.inr (.inl (on_into hk e8 d)))
  by_cases e9:sortT w=9
  ·exact .inr (.inr (.inr ⟨11,by lia,on_less hk e9⟩))
  ·exact .inr (.inr (.inr ⟨sortT w,by lia,on_word hk (by lia)⟩))
theorem step_le:stepT tx s≤12:=by
 unfold stepT
 rcases on_all (tx:=tx) (s:=s) with⟨_,e⟩ | ⟨w,ws,_,e | e | e | ⟨k,h,e⟩⟩
 ·rw [e]; exact Nat.le_refl 12
 ·rw [e]; show 7≤12; lia
 ·rw [e]; show 8≤12; lia
 ·rw [e]; show 9≤12; lia
 ·rw [e]; show k≤12; lia
variable {w:T}{ws:List T}
end
def BX (tx:List T):Prop:=tx.length≤8000000∧∀ t∈tx,B 389 8000000 t
theorem BX.of {a b:Nat}{tx:List T} (h:B a b (.node tx)) (ha:a≤390) (hb:b≤8000000):BX tx:=by
 refine⟨by have:=h.len; lia,fun t ht=>?_⟩
 have h1:=h.1
 have h2:=h.2
 rw [T.deep_node] at h1
 rw [T.parts_node] at h2
 have:=T.mem_deep ht
 have:=T.mem_parts ht
 exact⟨by lia,by lia⟩
end Sw
namespace Sw
open PySem PySem.Spec PyProof.Rows L2
end Sw
namespace Sw
open PySem PySem.Spec PyProof.Rows L2
theorem qg_sub {X:Cx}{pos:Pos}{o i:Expr}{to ti:TE}{t:TSet} (ho:QE X o to) (hi:QE X i ti) (hs:PSet X t)
  (ha:∀ v,assign (.Subscript o i pos) X.env v=(do
   let ov ← holding [v] (eval o X.env)
   let iv ← holding [v,ov] (eval i X.env)
   standAt pos
   holding [v,ov,iv] (setItem ov iv v)
   release [v,ov,iv] []):=by intro _; rfl):QG X (.Subscript o i pos) (gSub to ti t):=⟨L2.pg_sub (ho:=ho.run) (hi:=hi.run) (hs:=hs) (ha:=ha)⟩
section
variable {X:Cx}
theorem call_sumT (hc:X.calm=true):CallR X (.builtin "sum") (fun xs H Q=>∃ (p:Addr) (ns:List Int),xs=[.ref p]∧SqT X.K H p (ns.map V.int)∧Q (.int ns.sum) H):=by
 intro pins s σ H xs us Q I r h
 obtain⟨p,ns,rfl,hq,q⟩:=h
 obtain⟨u,rfl,rx⟩:=vals1 r
 cases rx
 obtain⟨its,r',pl,hz⟩:=I.tuple hq
 have hi:IntsAre its ns:=intsAre_of r'
 obtain⟨ys,e⟩:=hi.allInts.items
 have hns:ns=ys.toList.map (·.1):=by
  rw [← hi.numsOf,← nums_intItems,← e]
 have ht:s.heap.IsTuple p its.toArray:=pl
 rw [e] at ht
 obtain⟨o,ho,hc',n,hd⟩:=id ht
 have hne:p≠s.heap.objs.size:=Nat.ne_of_lt (Heap.lt_size ho)
 have hsz:(intItems ys).size=ys.size:=by simp [intItems]
 have W:=Walks.tuple (prog:=X.prog) (w:=X.w) (A:=X.A.in1) (I.ok.hd hc) s.heap.objs.size p hne (intItems ys)
 rw [hsz] at W
 refine call_sum_walkG (wpAny_pyIter_tuple ht ?_)
 refine⟨s.heap.objs.size,_,_,_,_,_,numAt ys,rfl,W,⟨⟨_,Heap.get?_push_size _ rfl,rfl,rfl⟩,ht.push _⟩,fun b hb=>?_,fun i v hP=>intItems_at hP,fun h' tk t' hk=>?_⟩
 ·rcases List.mem_cons.mp hb with rfl | hb
  ·exact Heap.lt_size (Heap.get?_push_size _ rfl)
  ·obtain rfl:=List.mem_singleton.mp hb
   exact Heap.lt_size (Heap.get?_push_of_some _ ho)
 ·have es:preSum (numAt ys) ys.size=ns.sum:=by rw [preSum_eq,List.take_of_length_le (by simp),hns]
  exact⟨.int ns.sum,H,I.kept (fun b o e=>hk b o (fun z=>absurd (Heap.lt_size e) (by rw [List.mem_singleton.mp z]; exact Nat.lt_irrefl _)) (Heap.get?_push_of_some _ e)),⟨t',by rw [es]⟩,q⟩
end
theorem ixN_nat {n j:Nat} (h:j<n):ixN n (j:Int)=some j:=by
 unfold ixN
 rw [if_pos (by lia),if_pos (by lia),Int.toNat_natCast]
abbrev nv (n:Nat):V:=.int (n:Int)
def spPartsM (K:PySem.W.Frag):Sp:=fun vs H Q _=>∃ x t,vs=[x]∧TR K H t x∧t.parts≤8000000∧∀ H',Same H H'→Q (.int t.parts) H'
def WPartsM (K:PySem.W.Frag) (H:Hp) (x:V) (n:Nat) (p:Addr):Nat→Sg→Hp→Prop:=fun m σ H'=>∃ (ys:List V) (ts:List T) (c:Nat) (o:Option V),
 σ=[some x,some (.ref p),some (.int c),o]∧Same H H'∧H' p=some (.lst ys)∧TRs K H' ts ys∧c+T.partsL ts=n∧m=T.partsL ts
def ev0 (k:Nat):List Nat:=(List.replicate 15 0).set k 1
def eventT (tx s:List T):List Nat :=
 if stepT tx s=2 then (ev0 2).set 13 (ats s 0).parts
 else if stepT tx s=9 then (ev0 9).set 14 (loadT (ats (ats tx 0).kids 0)).parts
 else ev0 (stepT tx s)
def costZ (ns:List Nat):Int:=((ns.take 13).map fun n:Nat=>(n:Int)).sum - (ns.getD 2 0:Nat)+(ns.getD 13 0:Nat)
def costT (tx s:List T):Nat:=if stepT tx s=2 then (ats s 0).parts else 1
theorem ev_len (tx s:List T):(eventT tx s).length=15:=by
 unfold eventT ev0
 split
 ·simp
 split <;> simp
theorem ev_cost (tx s:List T):costZ (eventT tx s)=(costT tx s:Nat):=by
 have h:=step_le (tx:=tx) (s:=s)
 unfold eventT costT
 split
 ·rename_i e
  show (0+(0+(1+(0+(0+(0+(0+(0+(0+(0+(0+(0+(0+0))))))))))))) - (1:Int)+((ats s 0).parts:Int)=_
  lia
 split
 ·show (0+(0+(0+(0+(0+(0+(0+(0+(0+(1+(0+(0+(0+0))))))))))))) - (0:Int)+(0:Int)=_
  lia
 ·generalize stepT tx s=k at *
  have:∀ k,k≤12→k≠2→costZ (ev0 k)=((1:Nat):Int):=by decide
  exact this k h (by assumption)
theorem cost_pos (tx s:List T):1≤costT tx s:=by
 unfold costT
 split
 ·exact T.parts_pos _
 ·exact Nat.le_refl 1
def spCost (K:PySem.W.Frag):Sp:=fun vs H Q _=>∃ (a:Addr) (ns:List Nat),vs=[.ref a]∧SqT K H a (ns.map nv)∧ns.length=15∧∀ H',Same H H'→Q (.int (costZ ns)) H'
theorem nv_at {ns:List Nat}{k:Nat} (h:k<ns.length):atI (ns.map nv) (k:Int)=some (.int ((ns.getD k 0:Nat):Int)) :=
 atI_nat (by rw [List.getElem?_map,List.getElem?_eq_getElem h,List.getD_eq_getElem?_getD,List.getElem?_eq_getElem h]; rfl)
theorem nv_take (ns:List Nat) (k:Nat):(ns.map nv).take k=((ns.take k).map fun n:Nat=>(n:Int)).map V.int:=by
 rw [← List.map_take,List.map_map]
 rfl
theorem nv_set (ns:List Nat) (k v:Nat):(ns.map nv).set k (nv v)=(ns.set k v).map nv:=by rw [List.map_set]
end Sw
namespace Sw
open PySem PySem.Spec PyProof.Rows L2
theorem drop_parts (s:List T) (k:Nat):T.partsL (s.drop k)≤T.partsL s:=by
 have e:=congrArg T.partsL (List.take_append_drop k s)
 rw [T.partsL_append] at e
 lia
theorem parts_eq (t:T):t.parts=1+T.partsL t.kids:=by cases t; rw [T.parts_node]; rfl
theorem load_parts (t:T):(loadT t).parts≤t.parts:=by
 unfold loadT
 rw [T.parts_node,parts_eq t]
 have:=drop_parts t.kids 1
 lia
end Sw
namespace PySem
section
variable {prog:Program}{w:World}{A:Around}{E:Value→Shared→Prop}{s:Shared}
end
end PySem
namespace Sw
open PySem PySem.Spec PyProof.Rows L2
section
variable {X:Cx}{pins:List (Addr×Obj)}{σ:Sg}{H:Hp}{s:Shared}{scope:Scope}{cl:List (Str×Addr)}{x y:Str}{fr:List Str}{js:List Nat}{fp:List Addr}
end
section
variable {X:Cx}{scope:Scope}{cl:List (Str×Addr)}{x y:Str}{fr:List Str}{js:List Nat}{elt iter:Expr}{px py pt pos:Pos}{kt:Nat}{wi:TI}{te:TE}
end
end Sw
namespace Sw
open PySem PySem.Spec PyProof.Rows L2
section
variable {X:Cx}{pins:List (Addr×Obj)}{σ:Sg}{H:Hp}{s:Shared}
end
section
variable {X:Cx}
end
end Sw
namespace Sw
open PySem PySem.Spec PyProof.Rows L2
inductive Dt where
 | i (n:Int) | s (x:Str) | t (ds:List Dt)
namespace Dt
mutual
def deep:Dt→Nat
 | .i _=>0
 | .s _=>0
 | .t ds=>deepL ds
def deepL:List Dt→Nat
 | []=>0
 | d::ds=>max (deep d+1) (deepL ds)
end
mutual
def beq:Dt→Dt→Bool
 | .i n,.i m=>n == m
 | .s x,.s y=>x == y
 | .t ds,.t es=>beqL ds es
 | .i _,.s _=>false
 | .i _,.t _=>false
 | .s _,.i _=>false
 | .s _,.t _=>false
 | .t _,.i _=>false
 | .t _,.s _=>false
def beqL:List Dt→List Dt→Bool
 | [],[]=>true
 | d::ds,e::es=>beq d e && beqL ds es
 | [],_::_=>false
 | _::_,[]=>false
end
mutual
theorem beq_iff:∀ d e:Dt,beq d e=true↔d=e
 | .i n,.i m=>by rw [beq,beq_iff_eq]; simp
 | .s x,.s y=>by rw [beq,beq_iff_eq]; simp
 | .t ds,.t es=>by rw [beq,beqL_iff ds es]; simp
 | .i _,.s _=>by rw [beq]; simp
 | .i _,.t _=>by rw [beq]; simp
 | .s _,.i _=>by rw [beq]; simp
 | .s _,.t _=>by rw [beq]; simp
 | .t _,.i _=>by rw [beq]; simp
 | .t _,.s _=>by rw [beq]; simp
theorem beqL_iff:∀ ds es:List Dt,beqL ds es=true↔ds=es
 | [],[]=>by rw [beqL]; simp
 | d::ds,e::es=>by rw [beqL,Bool.and_eq_true,beq_iff d e,beqL_iff ds es]; simp
 | [],_::_=>by rw [beqL]; simp
 | _::_,[]=>by rw [beqL]; simp
end
theorem beq_self (d:Dt):beq d d=true:=(beq_iff d d).mpr rfl
theorem mem_deep {d:Dt}:∀ {ds:List Dt},d∈ds→d.deep+1≤deepL ds
 | e::es,h=>by
  rw [deepL]
  rcases List.mem_cons.mp h with rfl | h
  ·lia
  ·have:=mem_deep h
   lia
end Dt
mutual
def DR (K:PySem.W.Frag) (H:Hp):Dt→V→Prop
 | .i n,x=>x=.int n
 | .s z,x=>x=.str z
 | .t ds,x=>∃ a xs,x=.ref a∧SqT K H a xs∧DRs K H ds xs
def DRs (K:PySem.W.Frag) (H:Hp):List Dt→List V→Prop
 | [],xs=>xs=[]
 | d::ds,xs=>∃ x r,xs=x::r∧DR K H d x∧DRs K H ds r
end
section
variable {K:PySem.W.Frag}{H H':Hp}
theorem DR_i {n:Int}{x:V}:DR K H (.i n) x↔x=.int n:=by rw [DR]
theorem DR_s {z:Str}{x:V}:DR K H (.s z) x↔x=.str z:=by rw [DR]
theorem DR_t {ds:List Dt}{x:V}:DR K H (.t ds) x↔∃ a xs,x=.ref a∧SqT K H a xs∧DRs K H ds xs:=by rw [DR]
theorem DRs_nil {xs:List V}:DRs K H [] xs↔xs=[]:=by rw [DRs]
theorem DRs_cons {d:Dt}{ds:List Dt}{xs:List V}:DRs K H (d::ds) xs↔∃ x r,xs=x::r∧DR K H d x∧DRs K H ds r:=by rw [DRs]
theorem DRs.length:∀ {ds:List Dt}{xs:List V},DRs K H ds xs→xs.length=ds.length
 | [],xs,h=>by rw [DRs_nil] at h; rw [h]; rfl
 | d::ds,xs,h=>by
  obtain⟨x,r,rfl,_,h2⟩:=DRs_cons.mp h
  rw [List.length_cons,List.length_cons,DRs.length h2]
theorem DRs.get:∀ {ds:List Dt}{xs:List V}{j:Nat}{x:V},DRs K H ds xs→xs[j]?=some x→∃ d,ds[j]?=some d∧DR K H d x
 | [],xs,j,x,h,e=>by rw [DRs_nil] at h; rw [h] at e; simp at e
 | d::ds,xs,0,x,h,e=>by
  obtain⟨y,r,rfl,h1,_⟩:=DRs_cons.mp h
  cases e
  exact⟨d,rfl,h1⟩
 | d::ds,xs,j+1,x,h,e=>by
  obtain⟨y,r,rfl,_,h2⟩:=DRs_cons.mp h
  obtain⟨d',hd',h'⟩:=DRs.get (j:=j) h2 (by simpa using e)
  exact⟨d',by simpa using hd',h'⟩
mutual
def ofT:T→Dt
 | .node ts=>.t (ofTs ts)
def ofTs:List T→List Dt
 | []=>[]
 | t::ts=>ofT t::ofTs ts
end
mutual
theorem TR.dr:∀ {t:T}{x:V},TR K H t x→DR K H (ofT t) x
 | .node ts,x,h=>by
  obtain⟨a,xs,e,h1,h2⟩:=TR_node.mp h
  rw [ofT]
  exact DR_t.mpr ⟨a,xs,e,h1,TRs.dr h2⟩
theorem TRs.dr:∀ {ts:List T}{xs:List V},TRs K H ts xs→DRs K H (ofTs ts) xs
 | [],xs,h=>by rw [ofTs]; exact DRs_nil.mpr (TRs_nil.mp h)
 | t::ts,xs,h=>by
  obtain⟨x,r,e,h1,h2⟩:=TRs_cons.mp h
  rw [ofTs]
  exact DRs_cons.mpr ⟨x,r,e,TR.dr h1,TRs.dr h2⟩
end
mutual
theorem ofT_deep:∀ t:T,(ofT t).deep=t.deep
 | .node ts=>by rw [ofT,Dt.deep,T.deep_node,ofTs_deep ts]
theorem ofTs_deep:∀ ts:List T,Dt.deepL (ofTs ts)=T.deepL ts
 | []=>by rw [ofTs,Dt.deepL,T.deepL_nil]
 | t::ts=>by rw [ofTs,Dt.deepL,T.deepL_cons,ofT_deep t,ofTs_deep ts]
end
theorem DR2 {a:Addr}{d e:Dt}{x y:V} (h:SqT K H a [x,y]) (h1:DR K H d x) (h2:DR K H e y):DR K H (.t [d,e]) (.ref a) :=
 DR_t.mpr ⟨a,_,rfl,h,DRs_cons.mpr ⟨_,_,rfl,h1,DRs_cons.mpr ⟨_,_,rfl,h2,DRs_nil.mpr rfl⟩⟩⟩
end
section
variable {X:Cx}{pins:List (Addr×Obj)}{σ:Sg}{H:Hp}{s:Shared}
mutual
theorem dr_inj (I:Inv X pins σ H s):∀ (d e:Dt) (x:V),DR X.K H d x→DR X.K H e x→d=e
 | .i n,.i m,x,h,g=>by rw [DR_i] at h g; rw [h] at g; cases g; rfl
 | .i n,.s m,x,h,g=>by rw [DR_i] at h; rw [DR_s] at g; rw [h] at g; cases g
 | .i n,.t m,x,h,g=>by rw [DR_i] at h; obtain⟨a,xs,e,_⟩:=DR_t.mp g; rw [h] at e; cases e
 | .s n,.i m,x,h,g=>by rw [DR_s] at h; rw [DR_i] at g; rw [h] at g; cases g
 | .s n,.s m,x,h,g=>by rw [DR_s] at h g; rw [h] at g; cases g; rfl
 | .s n,.t m,x,h,g=>by rw [DR_s] at h; obtain⟨a,xs,e,_⟩:=DR_t.mp g; rw [h] at e; cases e
 | .t n,.i m,x,h,g=>by rw [DR_i] at g; obtain⟨a,xs,e,_⟩:=DR_t.mp h; rw [g] at e; cases e
 | .t n,.s m,x,h,g=>by rw [DR_s] at g; obtain⟨a,xs,e,_⟩:=DR_t.mp h; rw [g] at e; cases e
 | .t ds,.t es,x,h,g=>by
  obtain⟨a,xs,rfl,h1,h2⟩:=DR_t.mp h
  obtain⟨b,ys,e,g1,g2⟩:=DR_t.mp g
  cases e
  have:=I.tuple_inj h1 g1
  subst this
  rw [drs_inj I ds es xs h2 g2]
theorem drs_inj (I:Inv X pins σ H s):∀ (ds es:List Dt) (xs:List V),DRs X.K H ds xs→DRs X.K H es xs→ds=es
 | [],[],_,_,_=>rfl
 | [],e::es,xs,h,g=>by
  rw [DRs_nil] at h
  obtain⟨x,r,z,_⟩:=DRs_cons.mp g
  rw [h] at z; cases z
 | d::ds,[],xs,h,g=>by
  rw [DRs_nil] at g
  obtain⟨x,r,z,_⟩:=DRs_cons.mp h
  rw [g] at z; cases z
 | d::ds,e::es,xs,h,g=>by
  obtain⟨x,r,rfl,h1,h2⟩:=DRs_cons.mp h
  obtain⟨y,q,z,g1,g2⟩:=DRs_cons.mp g
  cases z
  rw [dr_inj I d e x h1 g1,drs_inj I ds es r h2 g2]
end
def deqAt (ds es:List Dt) (j:Nat):Bool:=match ds[j]?,es[j]? with
 | some d,some e=>Dt.beq d e
 | _,_=>true
theorem deq_range:∀ ds es:List Dt,((List.range (min ds.length es.length)).all (deqAt ds es) && ds.length == es.length)=Dt.beqL ds es:=by
 intro ds
 induction ds with
 | nil =>
  intro es
  cases es with
  | nil=>rfl
  | cons e es=>rw [Dt.beqL]; simp
 | cons d ds ih =>
  intro es
  cases es with
  | nil=>rw [Dt.beqL]; simp
  | cons e es =>
   have e1:min (d::ds).length (e::es).length=min ds.length es.length+1:=by simp only [List.length_cons]; lia
   rw [e1,List.range_succ_eq_map,List.all_cons,List.all_map]
   have e2:(deqAt (d::ds) (e::es)∘Nat.succ)=deqAt ds es:=by
    funext j
    simp [deqAt]
   have e3:deqAt (d::ds) (e::es) 0=Dt.beq d e:=rfl
   have e4:((d::ds).length == (e::es).length)=(ds.length == es.length):=by simp
   rw [e2,e3,e4,Bool.and_assoc,ih,Dt.beqL]
theorem rc_dt (I:Inv X pins σ H s):∀ (n:Nat) (d e:Dt) (A:Around) (x y:V) (u v:Value),d.deep<n→DR X.K H d x→DR X.K H e y→RelV x u→RelV y v→A.units+n<cLine→SeqAt.EqAt A s u v (Dt.beq d e):=by
 intro n
 induction n with
 | zero=>intro d e A x y u v hd; lia
 | succ n ih =>
  intro d e A x y u v hd q r ru rv hu
  have hu0:A.units<cLine:=by lia
  cases d with
  | i n1 =>
   rw [DR_i] at q; subst q; obtain⟨t1,rfl⟩:=ru
   cases e with
   | i m1=>rw [DR_i] at r; subst r; obtain⟨t2,rfl⟩:=rv; rw [Dt.beq]; exact SeqAt.EqAt.int_int _ _ _ _
   | s m1=>rw [DR_s] at r; subst r; obtain⟨t2,rfl⟩:=rv; rw [Dt.beq]; exact SeqAt.EqAt.int_str _ _ _ _
   | t es =>
    obtain⟨b,ys,rfl,r1,r2⟩:=DR_t.mp r
    cases rv
    obtain⟨jts,_,ht2,_⟩:=I.tuple r1
    rw [Dt.beq]; exact SeqAt.EqAt.int_tuple _ _ ht2 hu0
  | s x1 =>
   rw [DR_s] at q; subst q; obtain⟨t1,rfl⟩:=ru
   cases e with
   | i m1=>rw [DR_i] at r; subst r; obtain⟨t2,rfl⟩:=rv; rw [Dt.beq]; exact SeqAt.EqAt.str_int _ _ _ _
   | s m1=>rw [DR_s] at r; subst r; obtain⟨t2,rfl⟩:=rv; rw [Dt.beq]; exact SeqAt.EqAt.str_str _ _ _ _
   | t es =>
    obtain⟨b,ys,rfl,r1,r2⟩:=DR_t.mp r
    cases rv
    obtain⟨jts,_,ht2,_⟩:=I.tuple r1
    rw [Dt.beq]; exact SeqAt.EqAt.str_tuple _ _ ht2 hu0
  | t ds =>
   obtain⟨a,xs,rfl,q1,q2⟩:=DR_t.mp q
   cases ru
   obtain⟨its,rvs,ht,_⟩:=I.tuple q1
   cases e with
   | i m1=>rw [DR_i] at r; subst r; obtain⟨t2,rfl⟩:=rv; rw [Dt.beq]; exact SeqAt.EqAt.tuple_int _ _ ht hu0
   | s m1=>rw [DR_s] at r; subst r; obtain⟨t2,rfl⟩:=rv; rw [Dt.beq]; exact SeqAt.EqAt.tuple_str _ _ ht hu0
   | t es =>
    obtain⟨b,ys,rfl,r1,r2⟩:=DR_t.mp r
    cases rv
    obtain⟨jts,rvs2,ht2,_⟩:=I.tuple r1
    by_cases hne:a=b
    ·subst hne
     have et:Dt.t ds=Dt.t es:=dr_inj I _ _ _ q r
     rw [et,Dt.beq_self]
     exact SeqAt.EqAt.same _
    ·refine SeqAt.EqAt.of_refs hne ?_
     rw [Dt.deep] at hd
     have l1:=rvs.length
     have l2:=rvs2.length
     have l3:=q2.length
     have l4:=r2.length
     have key:=SeqAt.RcAt.tuples (A:=A) (e:=deqAt ds es) ht ht2 (by lia) (fun j j1 j2=>?_)
     ·have ev:((List.range (min its.toArray.size jts.toArray.size)).all (deqAt ds es) && its.toArray.size == jts.toArray.size)=Dt.beq (.t ds) (.t es):=by
       rw [List.size_toArray,List.size_toArray,← l1,← l2,l3,l4,Dt.beq,← deq_range]
      rw [ev] at key
      exact key
     ·have j1':j<xs.length:=by rw [l1]; simpa using j1
      have j2':j<ys.length:=by rw [l2]; simpa using j2
      obtain⟨u1,hu1,ru1⟩:=rvs.get (List.getElem?_eq_getElem j1')
      obtain⟨u2,hu2,ru2⟩:=rvs2.get (List.getElem?_eq_getElem j2')
      obtain⟨d1,hd1,dr1⟩:=q2.get (List.getElem?_eq_getElem j1')
      obtain⟨d2,hd2,dr2⟩:=r2.get (List.getElem?_eq_getElem j2')
      have ee:deqAt ds es j=Dt.beq d1 d2:=by unfold deqAt; rw [hd1,hd2]
      have g1:its.toArray[j]=u1:=by
       obtain⟨_,e⟩:=List.getElem?_eq_some_iff.mp hu1
       simpa using e
      have g2:jts.toArray[j]=u2:=by
       obtain⟨_,e⟩:=List.getElem?_eq_some_iff.mp hu2
       simpa using e
      rw [ee,g1,g2]
      have hm:=Dt.mem_deep (List.mem_of_getElem? hd1)
      exact ih d1 d2 A.in1 _ _ u1 u2 (by lia) dr1 dr2 ru1 ru2 (by rw [Around.in1_units]; lia)
end
section
variable {X:Cx}{pins:List (Addr×Obj)}{σ:Sg}{H:Hp}{s:Shared}
theorem items_dt (I:Inv X pins σ H s) {n:Nat}{A:Around}{ds es:List Dt}{xs ys:List V}{its jts:List Value} (q2:DRs X.K H ds xs) (r2:DRs X.K H es ys) (rv:Vals xs its) (rv2:Vals ys jts) (hd:Dt.deepL ds≤n) (hu:A.units+n<cLine)
  (j:Nat) (j1:j<its.toArray.size) (j2:j<jts.toArray.size):SeqAt.EqAt A s its.toArray[j] jts.toArray[j] (deqAt ds es j):=by
 have l1:=rv.length
 have l2:=rv2.length
 have j1':j<xs.length:=by rw [l1]; simpa using j1
 have j2':j<ys.length:=by rw [l2]; simpa using j2
 obtain⟨u1,hu1,ru1⟩:=rv.get (List.getElem?_eq_getElem j1')
 obtain⟨u2,hu2,ru2⟩:=rv2.get (List.getElem?_eq_getElem j2')
 obtain⟨d1,hd1,dr1⟩:=q2.get (List.getElem?_eq_getElem j1')
 obtain⟨d2,hd2,dr2⟩:=r2.get (List.getElem?_eq_getElem j2')
 have ee:deqAt ds es j=Dt.beq d1 d2:=by unfold deqAt; rw [hd1,hd2]
 have g1:its.toArray[j]=u1:=by
  obtain⟨_,e⟩:=List.getElem?_eq_some_iff.mp hu1
  simpa using e
 have g2:jts.toArray[j]=u2:=by
  obtain⟨_,e⟩:=List.getElem?_eq_some_iff.mp hu2
  simpa using e
 rw [ee,g1,g2]
 have hm:=Dt.mem_deep (List.mem_of_getElem? hd1)
 exact rc_dt I n d1 d2 A _ _ u1 u2 (by lia) dr1 dr2 ru1 ru2 hu
end
section
variable {X:Cx}
def rEqD (K:PySem.W.Frag) (n:Nat):R2:=fun x y H Q=>∃ ds es,DR K H (.t ds) x∧DR K H (.t es) y∧(Dt.t ds).deep<n∧Q (.bl (Dt.beq (.t ds) (.t es))) H
theorem op_eqD {n:Nat} (hu:X.A.units+n<cLine):OpR X (compareOp .Eq) (rEqD X.K n):=by
 intro pins s σ H x y v u Q I rx ry h
 obtain⟨ds,es,h1,h2,hd,q⟩:=h
 obtain⟨a,xs,rfl,q1,q2⟩:=DR_t.mp h1
 obtain⟨b,ys,rfl,r1,r2⟩:=DR_t.mp h2
 cases rx
 cases ry
 obtain⟨its,rv,ht,_⟩:=I.tuple q1
 obtain⟨jts,rv2,ht2,_⟩:=I.tuple r1
 rw [Dt.deep] at hd
 have key:=SeqAt.RcAt.tuples (A:=X.A) (e:=deqAt ds es) ht ht2 (by lia) (items_dt I q2 r2 rv rv2 (n:=n - 1) (by lia) (by rw [Around.in1_units]; lia))
 have ev:((List.range (min its.toArray.size jts.toArray.size)).all (deqAt ds es) && its.toArray.size == jts.toArray.size)=Dt.beq (.t ds) (.t es):=by
  rw [List.size_toArray,List.size_toArray,← rv.length,← rv2.length,q2.length,r2.length,Dt.beq,← deq_range]
 rw [ev] at key
 exact key _ _ _ _ ⟨.bl _,H,I,rfl,q⟩
end
end Sw
namespace Sw
open PySem PySem.Spec PyProof.Rows L2
def zero15:List Nat:=List.replicate 15 0
def addT (a b:List Nat):List Nat:=a.zipWith (· + ·) b
theorem addT_len {a b:List Nat} (h:a.length=15) (g:b.length=15):(addT a b).length=15:=by unfold addT; rw [List.length_zipWith,h,g]; rfl
theorem addT_zero {b:List Nat} (g:b.length=15):addT zero15 b=b:=by
 unfold addT zero15
 refine List.ext_getElem? fun i=>?_
 rw [List.getElem?_zipWith,List.getElem?_replicate]
 by_cases h:i<15
 ·rw [if_pos h,List.getElem?_eq_getElem (by lia)]
  show some (0+_)=some _
  rw [Nat.zero_add]
 ·rw [if_neg h,List.getElem?_eq_none (by lia)]
theorem addT_zeroR {b:List Nat} (g:b.length=15):addT b zero15=b:=by
 unfold addT zero15
 refine List.ext_getElem? fun i=>?_
 rw [List.getElem?_zipWith,List.getElem?_replicate]
 by_cases h:i<15
 ·rw [if_pos h,List.getElem?_eq_getElem (by lia)]
  show some (_+0)=some _
  rw [Nat.add_zero]
 ·rw [if_neg h,List.getElem?_eq_none (by lia)]
theorem addT_assoc (a b c:List Nat):addT (addT a b) c=addT a (addT b c):=by
 unfold addT
 refine List.ext_getElem? fun i=>?_
 simp only [List.getElem?_zipWith]
 cases a[i]? <;> cases b[i]? <;> cases c[i]? <;> simp [Nat.add_assoc]
def goT (b:Nat) (tx s:List T):List T×List T×List Nat :=
 if h:tx=[]∨b<costT tx s then (tx,s,zero15)
 else ((goT (b - costT tx s) (onward tx s).1 (onward tx s).2.1).1,(goT (b - costT tx s) (onward tx s).1 (onward tx s).2.1).2.1,addT (eventT tx s) (goT (b - costT tx s) (onward tx s).1 (onward tx s).2.1).2.2)
termination_by b
decreasing_by
 all_goals
  have:=cost_pos tx s
  have:¬ b<costT tx s:=fun z=>h (.inr z)
  lia
def spT (b:Nat) (tx s:List T):Nat :=
 if h:tx=[]∨b<costT tx s then 0
 else costT tx s+spT (b - costT tx s) (onward tx s).1 (onward tx s).2.1
termination_by b
decreasing_by
 have:=cost_pos tx s
 have:¬ b<costT tx s:=fun z=>h (.inr z)
 lia
section
variable {b:Nat}{tx s:List T}
theorem go_stop (h:tx=[]∨b<costT tx s):goT b tx s=(tx,s,zero15):=by rw [goT,dif_pos h]
theorem sp_stop (h:tx=[]∨b<costT tx s):spT b tx s=0:=by rw [spT,dif_pos h]
theorem go_step (h1:tx≠[]) (h2:costT tx s≤b):goT b tx s=((goT (b - costT tx s) (onward tx s).1 (onward tx s).2.1).1,(goT (b - costT tx s) (onward tx s).1 (onward tx s).2.1).2.1,addT (eventT tx s) (goT (b - costT tx s) (onward tx s).1 (onward tx s).2.1).2.2):=by
 rw [goT,dif_neg (fun z=>z.elim h1 (by lia))]
theorem sp_step (h1:tx≠[]) (h2:costT tx s≤b):spT b tx s=costT tx s+spT (b - costT tx s) (onward tx s).1 (onward tx s).2.1:=by
 rw [spT,dif_neg (fun z=>z.elim h1 (by lia))]
end
theorem run_ind {P:Nat→List T→List T→Prop} (h0:∀ b tx s,(tx=[]∨b<costT tx s)→P b tx s) (h1:∀ b tx s,tx≠[]→costT tx s≤b→P (b - costT tx s) (onward tx s).1 (onward tx s).2.1→P b tx s):∀ b tx s,P b tx s:=by
 intro b
 induction b using Nat.strongRecOn with
 | ind b ih =>
  intro tx s
  by_cases h:tx=[]∨b<costT tx s
  ·exact h0 b tx s h
  ·have hc:=cost_pos tx s
   have h2:costT tx s≤b:=by
    have:¬ b<costT tx s:=fun z=>h (.inr z)
    lia
   exact h1 b tx s (fun z=>h (.inl z)) h2 (ih _ (by lia) _ _)
theorem go_len:∀ b tx s,(goT b tx s).2.2.length=15:=by
 refine run_ind (fun b tx s h=>?_) (fun b tx s h1 h2 ih=>?_)
 ·rw [go_stop h]; rfl
 ·rw [go_step h1 h2]; exact addT_len (ev_len _ _) ih
theorem costZ_zero:costZ zero15=0:=by decide
theorem costZ_add' {ns ms:List Nat} (h1:ns.length=15) (h2:ms.length=15):costZ (addT ns ms)=costZ ns+costZ ms:=by
 unfold addT
 match ns,h1,ms,h2 with
 | [a0,a1,a2,a3,a4,a5,a6,a7,a8,a9,a10,a11,a12,a13,a14],_,[c0,c1,c2,c3,c4,c5,c6,c7,c8,c9,c10,c11,c12,c13,c14],_ =>
  simp only [costZ,List.zipWith_cons_cons,List.zipWith_nil_left,List.take_succ_cons,List.take_zero,List.map_cons,List.map_nil,List.sum_cons,List.sum_nil,List.getD_cons_succ,List.getD_cons_zero,Int.natCast_add]
  lia
theorem go_cost:∀ b tx s,costZ (goT b tx s).2.2=(spT b tx s:Nat):=by
 refine run_ind (fun b tx s h=>?_) (fun b tx s h1 h2 ih=>?_)
 ·rw [go_stop h,sp_stop h]; exact costZ_zero
 ·rw [go_step h1 h2,sp_step h1 h2]
  show costZ (addT _ _)=_
  rw [costZ_add' (ev_len _ _) (go_len _ _ _),ev_cost,ih]
  lia
inductive Sane:Nat→List T→List T→Prop
 | mk {b:Nat}{tx s:List T} (h1:BX tx) (h2:B 390 8000000 (.node s)) (h3:tx≠[]→costT tx s≤b→Sane (b - costT tx s) (onward tx s).1 (onward tx s).2.1):Sane b tx s
theorem Sane.bx {b:Nat}{tx s:List T} (h:Sane b tx s):BX tx:=by cases h; assumption
theorem Sane.bs {b:Nat}{tx s:List T} (h:Sane b tx s):B 390 8000000 (.node s):=by cases h; assumption
theorem Sane.next {b:Nat}{tx s:List T} (h:Sane b tx s) (h1:tx≠[]) (h2:costT tx s≤b):Sane (b - costT tx s) (onward tx s).1 (onward tx s).2.1:=by
 cases h with
 | mk _ _ h3=>exact h3 h1 h2
theorem Sane.last:∀ b tx s,Sane b tx s→BX (goT b tx s).1∧B 390 8000000 (.node (goT b tx s).2.1):=by
 refine run_ind (fun b tx s h g=>?_) (fun b tx s h1 h2 ih g=>?_)
 ·rw [go_stop h]; exact⟨g.bx,g.bs⟩
 ·rw [go_step h1 h2]; exact ih (g.next h1 h2)
def toldS:Str:=PySem.Str.ofString "told"
def outS:Str:=PySem.Str.ofString "out"
def wordS (b:Nat) (tx s:List T):Str:=if (goT b tx s).1=[] then toldS else outS
def tellT (b:Nat) (tx s:List T):T:=if (goT b tx s).1=[] then ats (goT b tx s).2.1 0 else leaf
def pairT (tx s:List T):T:=.node [.node tx,.node s]
def spBegin (K:PySem.W.Frag):Sp:=fun vs H Q _=>∃ x t y u,vs=[x,y]∧TR K H t x∧TR K H u y∧∀ z H',Same H H'→TR K H' (pairT [t] [u]) z→Q z H'
def spRun (K:PySem.W.Frag):Sp:=fun vs H Q _=>∃ (x y:V) (t u:T) (b:Nat),vs=[x,y,.int (b:Int)]∧TR K H t x∧TR K H u y∧Sane b [t] [u] ∧
 ∀ p v H',Same H H'→SqT K H' p [.str (wordS b [t] [u]),v,nv (spT b [t] [u])]→TR K H' (tellT b [t] [u]) v→Q (.ref p) H'
end Sw
namespace Sw
open PySem PySem.Spec PyProof.Rows L2
section
variable (p:List T) (d x:T) (Y:List T)
end
end Sw
namespace PySem
open Builtin Builtin.Str
section
variable {prog:Program}{w:World}{A:Around}{E:Value→Shared→Prop}{s:Shared}{x:Str}{t:Tok}{Q:Value→Shared→Prop}
end
end PySem
namespace Sw
open PySem PySem.Spec PyProof.Rows L2
section
variable {X:Cx}
end
open SeqAt in
theorem tup_indexAt (l:Addr) (items:Array Value) (n:Nat) (dd:Option Addr) (sl:Array (Option Value)) (x:Value) (e:Value→Bool) (j:Nat) (hj:j<items.size) (hit:e items[j]=true) (hno:∀ m (hm:m<items.size),m<j→e items[m]=false) :
  Meets (Builtin.«tuple.index» ⟨[.ref l,x],[]⟩) (fun A R u=>u.heap.get? l=some { cls:=.type "tuple",dict:=dd,data:=.seq items n,slots:=sl }∧(∀ y,y∈items→EqAt A.in1 u y x (e y))∧R (.ok (.ret (.int j u.toks))) { u with toks:=u.toks+1 }) :=
 .of_wp fun prog w A R u h=>by
  obtain⟨hp,g,d,tk,os⟩:=u; obtain⟨hl,he,h⟩:=h
  unfold Builtin.«tuple.index»
  simp only [Std.Legacy.Range.forIn_eq_forIn_range']
  wp_walk using wpAny_loadPart' hl,wpAny_forIn_list _ (fun rest b s'=>b.1=none∧s'=⟨hp,g,d,tk,os⟩∧∃ i,i≤j∧rest=(List.range' 0 items.size).drop i) _
  case turn =>
   rintro i rest b s' ⟨hb,rfl,m,hm,hr⟩
   have hlt:m<items.size:=by
    have:=congrArg List.length hr
    simp at this
    lia
   have hr2:(List.range' 0 items.size).drop m=m::(List.range' 0 items.size).drop (m+1):=by
    rw [List.drop_eq_getElem_cons (by simpa using hlt)]
    simp
   rw [hr2] at hr
   obtain⟨rfl,rfl⟩:=List.cons.inj hr
   have e1:items[i]?=some items[i]:=Array.getElem?_eq_getElem hlt
   rw [e1]
   refine wpAny_bind (he _ (Array.getElem_mem hlt) prog w _ _ ?_)
   by_cases hmj:i=j
   ·subst hmj
    rw [hit]
    wp_walk
    exact⟨_,rfl,h⟩
   ·rw [hno i hlt (by lia)]
    wp_walk
    exact⟨rfl,rfl,i+1,by lia,rfl⟩
  case fin =>
   rintro ⟨b1,b2⟩ s' ⟨hb,rfl,m,hm,hr⟩
   have:=congrArg List.length hr
   simp at this
   lia
  case h =>
   refine⟨rfl,rfl,0,Nat.zero_le _,?_⟩
   simp
end Sw
namespace Sw
abbrev Std:=List T×List T
def nx (st:Std):Std:=((onward st.1 st.2).1,(onward st.1 st.2).2.1)
def costS (st:Std):Nat:=match (ats st.1 0).kids with
 | []=>1
 | w::_=>if sortT w=2 then (ats st.2 0).parts else 1
abbrev W (n:Nat):T:=wordT n []
abbrev forkW (yes no:List T):T:=wordT 7 (.node yes::no)
def noHead (st:Std):Prop:=sortT (ats (ats st.1 0).kids 0)≠8
inductive Wlk:Std→Nat→Nat→Std→Prop where
 | nil {st:Std}:Wlk st 0 0 st
 | cons {st e:Std}{n c:Nat}:st.1≠[]→noHead st→Wlk (nx st) n c e→Wlk st (n+1) (c+costS st) e
theorem Wlk.to {st e:Std}{n c n' c':Nat} (h:Wlk st n c e) (e1:n=n') (e2:c=c'):Wlk st n' c' e:=by subst e1; subst e2; exact h
theorem Wlk.one {st e u:Std}{n c k:Nat} (h1:st.1≠[]) (h2:noHead st) (h3:nx st=u) (h4:costS st=k) (g:Wlk u n c e):Wlk st (n+1) (c+k) e:=by
 subst h3; subst h4; exact .cons h1 h2 g
section
variable {t cs s:List T}{e:Std}{n c:Nat}
theorem nh_word {w:T}{k:Nat} (h:sortT w=k) (hk:k≠8):noHead (.node (w::t)::cs,s):=by
 show sortT w≠8
 rw [h]; exact hk
theorem nx_plain {w:T} (h:sortT w≤6):nx (.node (w::t)::cs,s)=(.node t::cs,behind w s):=by
 unfold nx onward
 show (_,_)=_
 simp only [ats,T.kids,List.getElem?_cons_zero,Option.getD_some,List.drop_succ_cons,List.drop_zero]
 rw [if_neg (by lia),if_neg (by lia),if_neg (by lia)]
theorem cost_plain {w:T} (h:sortT w≠2):costS (.node (w::t)::cs,s)=1:=by
 show (if sortT w=2 then _ else 1)=1
 rw [if_neg h]
theorem w_lay {us:List T} (g:Wlk (.node t::cs,.node us::s) n c e):Wlk (.node (wordT 0 us::t)::cs,s) (n+1) (c+1) e :=
 .one (by simp) (nh_word (k:=0) rfl (by decide)) (by rw [nx_plain (by show 0≤6; decide),beh0 rfl]; rfl) (cost_plain (by show 0≠2; decide)) g
theorem w_drop {a:T} (g:Wlk (.node t::cs,s) n c e):Wlk (.node (W 1::t)::cs,a::s) (n+1) (c+1) e :=
 .one (by simp) (nh_word (k:=1) rfl (by decide)) (by rw [nx_plain (by decide),beh1 rfl,pad_of (by simp)]; rfl) (cost_plain (by decide)) g
theorem w_twin {a:T} (g:Wlk (.node t::cs,a::a::s) n c e):Wlk (.node (W 2::t)::cs,a::s) (n+1) (c+a.parts) e :=
 .one (by simp) (nh_word (k:=2) rfl (by decide)) (by rw [nx_plain (by decide),beh2 rfl,pad_of (by simp)]; rfl) rfl g
theorem w_swap {a b:T} (g:Wlk (.node t::cs,b::a::s) n c e):Wlk (.node (W 3::t)::cs,a::b::s) (n+1) (c+1) e :=
 .one (by simp) (nh_word (k:=3) rfl (by decide)) (by rw [nx_plain (by decide),beh3 rfl,pad_of (by simp)]; rfl) (cost_plain (by decide)) g
theorem w_front {a:T}{b:List T} (g:Wlk (.node t::cs,.node (a::b)::s) n c e):Wlk (.node (W 4::t)::cs,a::.node b::s) (n+1) (c+1) e :=
 .one (by simp) (nh_word (k:=4) rfl (by decide)) (by rw [nx_plain (by decide),beh4 rfl,pad_of (by simp)]; rfl) (cost_plain (by decide)) g
theorem w_part {a:List T} (g:Wlk (.node t::cs,ats a 0::.node (a.drop 1)::s) n c e):Wlk (.node (W 5::t)::cs,.node a::s) (n+1) (c+1) e :=
 .one (by simp) (nh_word (k:=5) rfl (by decide)) (by rw [nx_plain (by decide),beh5 rfl,pad_of (by simp)]; rfl) (cost_plain (by decide)) g
theorem w_partc {a:T}{b:List T} (g:Wlk (.node t::cs,a::.node b::s) n c e):Wlk (.node (W 5::t)::cs,.node (a::b)::s) (n+1) (c+1) e:=w_part g
theorem w_turn {a b d:T} (g:Wlk (.node t::cs,d::a::b::s) n c e):Wlk (.node (W 6::t)::cs,a::b::d::s) (n+1) (c+1) e :=
 .one (by simp) (nh_word (k:=6) rfl (by decide)) (by rw [nx_plain (by decide),beh6 rfl,pad_of (by simp)]; rfl) (cost_plain (by decide)) g
theorem w_shut (g:Wlk (cs,s) n c e):Wlk (.node []::cs,s) (n+1) (c+1) e :=
 .one (by simp) (by show 0≠8; decide) rfl rfl g
theorem w_yes {yes no:List T}{a:T} (ha:a.kids≠[]) (g:Wlk (.node yes::.node t::cs,a::s) n c e):Wlk (.node (forkW yes no::t)::cs,a::s) (n+1) (c+1) e :=
 .one (by simp) (nh_word (k:=7) rfl (by decide)) (by
  unfold nx onward
  simp only [ats,T.kids,List.getElem?_cons_zero,Option.getD_some,List.drop_succ_cons,List.drop_zero]
  rw [if_pos (by rfl),if_pos (by exact ha),beh7 (by show 6<7; decide),pad_of (by show 1≤_; simp)]; rfl) (cost_plain (by show 7≠2; decide)) g
theorem w_no {yes no:List T}{a:T} (ha:a.kids=[]) (g:Wlk (.node no::.node t::cs,a::s) n c e):Wlk (.node (forkW yes no::t)::cs,a::s) (n+1) (c+1) e :=
 .one (by simp) (nh_word (k:=7) rfl (by decide)) (by
  unfold nx onward
  simp only [ats,T.kids,List.getElem?_cons_zero,Option.getD_some,List.drop_succ_cons,List.drop_zero]
  rw [if_pos (by rfl),if_neg (by exact fun z=>z ha),beh7 (by show 6<7; decide),pad_of (by show 1≤_; simp)]; rfl) (cost_plain (by show 7≠2; decide)) g
end
def tLaid (t:List T):List T:=W 6::W 6::W 4::W 6::W 6::W 4::W 3::t
def tParted (t:List T):List T:=W 1::W 4::W 3::W 5::t
def tWorked:Nat→List T
 | 1=>[W 1]
 | 2=>[W 2,W 6,W 3,W 4,W 3,W 4]
 | 3=>[W 3,W 5,W 3,W 6,W 4,W 3,W 4]
 | 4=>[W 3,W 5,W 6,W 4,W 4]
 | 5=>[W 5,W 6,W 6,W 4,W 3,W 4]
 | 6=>[W 3,W 5,W 3,W 5,W 3,W 6,W 4,W 6,W 4,W 3,W 4]
 | _=>[]
def tTop (t:List T):List T:=W 6::W 6::W 4::W 6::W 5::t
def tYes:List T:=[W 4,W 3,W 6,W 5,W 3,W 1,W 4]
def tNo:List T:=[W 4,W 3,W 6,W 5,W 1,W 4]
def tBody:List T:=[W 4,W 3,W 6,W 5,W 3,W 2,W 6,W 4,W 6,W 5,W 6,W 4,W 4,W 3,W 4]
def tPast:List T:=[W 4,W 6,W 1,W 3]
def tDrops:Nat→List T→List T
 | 0,t=>t
 | n+1,t=>W 1::tDrops n t
def tGone (k:Nat):List T:=tDrops (k+1) (if k=0 then tLaid [] else if k=7 then tTop [forkW tYes tNo] else tParted (tWorked k++[W 3]))
def tBack:Nat→List T→List T
 | 0,t=>t
 | n+1,t=>W 3::W 4::tBack n t
def tWhile:List T:=tBack 8 (W 4::tTop [forkW tBody tPast])
def tNameless:List T:=tDrops 10 [W 4]
def tSort:Nat→List T
 | 0=>[forkW tNameless tWhile]
 | d+1=>[forkW (W 5::W 3::tSort d) (tGone (7 - d))]
def tStep:List T:=[W 5,forkW (W 5::W 5::tSort 8) [W 1]]
def tHead:List T:=[wordT 8 tStep,W 1,W 5,W 3,W 1]
def tSelf:List T:=W 5::wordT 0 []::W 6::W 4::wordT 0 []::W 6::W 4::tHead
section
variable {t cs s us:List T}{e:Std}{n c:Nat}
theorem w_drops {as:List T} (g:Wlk (.node t::cs,s) n c e):∀ {k:Nat},as.length=k→Wlk (.node (tDrops k t)::cs,as++s) (n+k) (c+k) e:=by
 intro k hk
 induction as generalizing k with
 | nil=>cases hk; exact g
 | cons a as ih=>cases hk; exact w_drop (ih rfl)
theorem w_laid {l:T}{w:T}{ts st:List T} (g:Wlk (.node t::cs,.node (w::ts)::.node (l::st)::us) n c e):Wlk (.node (tLaid t)::cs,l::w::.node ts::.node st::us) (n+7) (c+7) e :=
 w_turn (w_turn (w_front (w_turn (w_turn (w_front (w_swap g))))))
theorem w_parted {l w:T}{ts st:List T} (g:Wlk (.node t::cs,ats st 0::.node (st.drop 1)::.node (w::ts)::us) n c e):Wlk (.node (tParted t)::cs,l::w::.node ts::.node st::us) (n+4) (c+4) e :=
 w_drop (w_front (w_swap (w_part g)))
theorem w_top {l w:T}{ts st:List T} (g:Wlk (.node t::cs,ats st 0::.node (st.drop 1)::.node (w::ts)::l::us) n c e):Wlk (.node (tTop t)::cs,l::w::.node ts::.node st::us) (n+5) (c+5) e :=
 w_turn (w_turn (w_front (w_turn (w_part g))))
def didW:Nat→List T→List T
 | 1,s=>s.drop 1
 | 2,s=>ats s 0::ats s 0::s.drop 1
 | 3,s=>ats (s.drop 1) 0::ats s 0::s.drop 2
 | 4,s=>.node (ats s 0::(ats (s.drop 1) 0).kids)::s.drop 2
 | 5,s=>ats (ats s 0).kids 0::.node ((ats s 0).kids.drop 1)::s.drop 1
 | 6,s=>ats (s.drop 2) 0::ats s 0::ats (s.drop 1) 0::s.drop 3
 | _,s=>s
theorem w_worked {x:T}{st:List T}:∀ {k:Nat},1≤k→k≤6→Wlk (.node t::cs,.node (didW k st)::x::us) n c e →
  ∃ m d,m≤11∧d≤11+(if k=2 then (ats st 0).parts else 0)∧Wlk (.node (tWorked k++t)::cs,ats st 0::.node (st.drop 1)::x::us) (n+m) (c+d) e:=by
 intro k h1 h6 g
 rcases (by lia:k=1∨k=2∨k=3∨k=4∨k=5∨k=6) with rfl | rfl | rfl | rfl | rfl | rfl
 ·exact⟨1,1,by decide,by rw [if_neg (by decide)]; decide,w_drop g⟩
 ·exact⟨6,5+(ats st 0).parts,by decide,by rw [if_pos rfl]; lia,(w_twin (w_turn (w_swap (w_front (w_swap (w_front g)))))).to rfl (by lia)⟩
 ·exact⟨7,7,by decide,by rw [if_neg (by decide)]; decide,w_swap (w_part (w_swap (w_turn (w_front (w_swap (w_front (by rw [List.drop_drop]; exact g)))))))⟩
 ·refine⟨5,5,by decide,by rw [if_neg (by decide)]; decide,w_swap (w_part (w_turn ?_))⟩
  rw [show ats (st.drop 1) 0=.node (ats (st.drop 1) 0).kids from (kids_node _).symm]
  exact w_front (w_front (by rw [List.drop_drop]; exact g))
 ·refine⟨6,6,by decide,by rw [if_neg (by decide)]; decide,?_⟩
  rw [show ats st 0=.node (ats st 0).kids from (kids_node _).symm]
  exact w_part (w_turn (w_turn (w_front (w_swap (w_front g)))))
 ·exact⟨11,11,by decide,by rw [if_neg (by decide)]; decide,w_swap (w_part (w_swap (w_part (w_swap (w_turn (w_front (w_turn (w_front (w_swap (w_front (by rw [List.drop_drop,List.drop_drop]; exact g)))))))))))⟩
theorem w_shuts (k:Nat) (g:Wlk (cs,s) n c e):Wlk (List.replicate k (.node [])++cs,s) (n+k) (c+k) e:=by
 induction k with
 | zero=>exact g
 | succ k ih=>exact w_shut ih
theorem rep_mid {α:Type} (x:α) (k:Nat) (l:List α):List.replicate k x++x::l=List.replicate (k+1) x++l:=by
 induction k with
 | zero=>rfl
 | succ k ih=>rw [List.replicate_succ,List.cons_append,ih]; rfl
theorem w_desc {fs:List T}{d:Nat}:∀ {as cs s:List T},Wlk (.node (tSort d)::(List.replicate as.length (.node [])++cs),.node fs::(as.reverse++s)) n c e →
  Wlk (.node (tSort (as.length+d))::cs,.node (as++fs)::s) (n+3 * as.length) (c+3 * as.length) e:=by
 intro as
 induction as with
 | nil=>intro cs s g; rw [List.length_nil,Nat.zero_add]; exact g
 | cons a as ih =>
  intro cs s g
  have g':Wlk (.node (tSort d)::(List.replicate as.length (.node [])++.node []::cs),.node fs::(as.reverse++a::s)) n c e:=by
   rw [rep_mid]
   rw [List.reverse_cons,List.append_assoc] at g
   exact g
  rw [List.length_cons,show as.length+1+d=as.length+d+1 by lia]
  exact (w_yes (yes:=W 5::W 3::tSort (as.length+d)) (a:=.node (a::(as++fs))) (by simp [T.kids]) (w_partc (w_swap (ih g')))).to (by lia) (by lia)
theorem w_back:∀ {as fs s:List T},Wlk (.node t::cs,.node (as.reverse++fs)::s) n c e→Wlk (.node (tBack as.length t)::cs,.node fs::(as++s)) (n+2 * as.length) (c+2 * as.length) e:=by
 intro as
 induction as with
 | nil=>intro fs s g; exact g
 | cons a as ih =>
  intro fs s g
  rw [List.reverse_cons,List.append_assoc] at g
  exact (w_swap (w_front (ih g))).to (by rw [List.length_cons]; lia) (by rw [List.length_cons]; lia)
def resT (as l xs ts st:List T):List T×List T :=
 if as.length=0 then (.node xs::ts,.node l::st)
 else if as.length≤6 then (.node xs::ts,didW as.length st)
 else if as.length=7 then if (ats st 0).kids≠[] then (ats l 0::.node xs::ts,ats st 0::st.drop 1) else (.node (l.drop 1)::.node xs::ts,ats st 0::st.drop 1)
 else if as.length=8 then if (ats st 0).kids≠[] then (.node l::.node (.node (.node as::l)::xs)::ts,ats st 0::st.drop 1) else (.node xs::ts,ats st 0::st.drop 1)
 else (.node xs::ts,st)
theorem w_sort {as l xs ts st:List T} (g:Wlk (cs,.node (resT as l xs ts st).1::.node (resT as l xs ts st).2::us) n c e) :
  ∃ m d,m≤100∧(1≤as.length→as.length≤8→5 * as.length+9≤m)∧d≤100+(if as.length=2 then (ats st 0).parts else 0)+(if as.length=8∧(ats st 0).kids≠[] then (T.node l).parts else 0) ∧
   Wlk (.node (tSort 8)::cs,.node as::.node l::.node xs::.node ts::.node st::us) (n+m) (c+d) e:=by
 by_cases h0:as.length=0
 ·have:as=[]:=List.length_eq_zero_iff.mp h0
  subst this
  refine⟨11,11,by decide,fun z=>absurd z (by decide),by rw [if_neg (by decide),if_neg (by simp)]; decide,?_⟩
  have g:Wlk (cs,.node (.node xs::ts)::.node (.node l::st)::us) n c e:=g
  exact w_no rfl (w_drop (w_laid (w_shut (w_shut g))))
 rw [resT,if_neg h0] at g
 by_cases h6:as.length≤6
 ·rw [if_pos h6] at g
  have g1:=w_shut (w_shut (w_shuts as.length g))
  obtain⟨m,d,hm,hd,g2⟩:=w_worked (k:=as.length) (by lia) h6 (w_swap g1)
  have g3:=w_drops (as:=.node []::as.reverse) (w_parted (l:=.node l) g2) (k:=as.length+1) (by rw [List.length_cons,List.length_reverse])
  refine⟨3 * as.length+1+(as.length+1)+4+m+1+1+1+as.length,3 * as.length+1+(as.length+1)+4+d+1+1+1+as.length,by lia,fun _ _=>by lia,by lia,?_⟩
  have e8:tSort 8=tSort (as.length+(8 - as.length)):=by rw [show as.length+(8 - as.length)=8 by lia]
  rw [e8,show T.node as=T.node (as++[]) by rw [List.append_nil]]
  refine (w_desc (n:=(n+as.length+1+1+1+m+4+(as.length+1))+1) (c:=(c+as.length+1+1+1+d+4+(as.length+1))+1) ?_).to (by lia) (by lia)
  have e9:tSort (8 - as.length)=[forkW (W 5::W 3::tSort (7 - as.length)) (tGone as.length)]:=by
   rw [show 8 - as.length=(7 - as.length)+1 by lia,tSort,show 7 - (7 - as.length)=as.length by lia]
  rw [e9]
  refine w_no rfl ?_
  rw [tGone,if_neg h0,if_neg (by lia)]
  exact g3
 rw [if_neg h6] at g
 by_cases h7:as.length=7
 ·rw [if_pos h7] at g
  have e8:tSort 8=tSort (as.length+1):=by rw [h7]
  have e9:tSort 1=[forkW (W 5::W 3::tSort 0) (tGone 7)]:=rfl
  by_cases ht:(ats st 0).kids≠[]
  ·rw [if_pos ht] at g
   have g1:=w_shut (w_shut (w_shut (w_shuts as.length g)))
   refine⟨3 * as.length+1+(as.length+1)+5+1+7+3+as.length,3 * as.length+1+(as.length+1)+5+1+7+3+as.length,by lia,fun _ _=>by lia,by rw [if_neg (by lia),if_neg (by lia)]; lia,?_⟩
   rw [e8,show T.node as=T.node (as++[]) by rw [List.append_nil]]
   refine (w_desc (n:=(n+as.length+3+7+1+5+(as.length+1))+1) (c:=(c+as.length+3+7+1+5+(as.length+1))+1) ?_).to (by lia) (by lia)
   rw [e9]
   refine w_no rfl ?_
   rw [tGone,if_neg (by decide),if_pos rfl]
   exact (w_drops (as:=.node []::as.reverse) (w_top (w_yes ht (w_front (w_swap (w_turn (w_part (w_swap (w_drop (w_front g1))))))))) (k:=7+1) (by rw [List.length_cons,List.length_reverse,h7])).to (by lia) (by lia)
  ·rw [if_neg ht] at g
   have g1:=w_shut (w_shut (w_shut (w_shuts as.length g)))
   refine⟨3 * as.length+1+(as.length+1)+5+1+6+3+as.length,3 * as.length+1+(as.length+1)+5+1+6+3+as.length,by lia,fun _ _=>by lia,by rw [if_neg (by lia),if_neg (by lia)]; lia,?_⟩
   rw [e8,show T.node as=T.node (as++[]) by rw [List.append_nil]]
   refine (w_desc (n:=(n+as.length+3+6+1+5+(as.length+1))+1) (c:=(c+as.length+3+6+1+5+(as.length+1))+1) ?_).to (by lia) (by lia)
   rw [e9]
   refine w_no rfl ?_
   rw [tGone,if_neg (by decide),if_pos rfl]
   exact (w_drops (as:=.node []::as.reverse) (w_top (w_no (Classical.not_not.mp ht) (w_front (w_swap (w_turn (w_part (w_drop (w_front g1)))))))) (k:=7+1) (by rw [List.length_cons,List.length_reverse,h7])).to (by lia) (by lia)
 rw [if_neg h7] at g
 by_cases h8:as.length=8
 ·rw [if_pos h8] at g
  have e8:tSort 8=tSort (as.length+0):=by rw [h8]
  have eb:tWhile=tBack as.reverse.length (W 4::tTop [forkW tBody tPast]):=by rw [List.length_reverse,h8]; rfl
  by_cases ht:(ats st 0).kids≠[]
  ·rw [if_pos ht] at g
   have g1:=w_shut (w_shut (w_shut (w_shuts as.length g)))
   refine⟨3 * as.length+1+2 * as.length+1+5+1+15+3+as.length,3 * as.length+1+2 * as.length+1+5+1+14+3+as.length+(T.node l).parts,by lia,fun _ _=>by lia,by rw [if_neg (by lia),if_pos ⟨h8,ht⟩]; lia,?_⟩
   rw [e8,show T.node as=T.node (as++[]) by rw [List.append_nil]]
   refine (w_desc (n:=(n+as.length+3+15+1+5+1+2 * as.length)+1) (c:=(c+as.length+3+14+(T.node l).parts+1+5+1+2 * as.length)+1) ?_).to (by lia) (by lia)
   refine w_no rfl ?_
   rw [eb]
   refine (w_back (n:=n+as.length+3+15+1+5+1) (c:=c+as.length+3+14+(T.node l).parts+1+5+1) ?_).to (by rw [List.length_reverse]) (by rw [List.length_reverse])
   rw [List.reverse_reverse,List.append_nil]
   exact (w_front (w_top (w_yes ht (w_front (w_swap (w_turn (w_partc (w_swap (w_twin (w_turn (w_front (w_turn (w_partc (w_turn (w_front (w_front (w_swap (w_front g1)))))))))))))))))).to (by lia) (by lia)
  ·rw [if_neg ht] at g
   have g1:=w_shut (w_shut (w_shut (w_shuts as.length g)))
   refine⟨3 * as.length+1+2 * as.length+1+5+1+4+3+as.length,3 * as.length+1+2 * as.length+1+5+1+4+3+as.length,by lia,fun _ _=>by lia,by rw [if_neg (by lia),if_neg (fun z=>ht z.2)]; lia,?_⟩
   rw [e8,show T.node as=T.node (as++[]) by rw [List.append_nil]]
   refine (w_desc (n:=(n+as.length+3+4+1+5+1+2 * as.length)+1) (c:=(c+as.length+3+4+1+5+1+2 * as.length)+1) ?_).to (by lia) (by lia)
   refine w_no rfl ?_
   rw [eb]
   refine (w_back (n:=n+as.length+3+4+1+5+1) (c:=c+as.length+3+4+1+5+1) ?_).to (by rw [List.length_reverse]) (by rw [List.length_reverse])
   rw [List.reverse_reverse,List.append_nil]
   exact w_front (w_top (w_no (Classical.not_not.mp ht) (w_front (w_turn (w_drop (w_swap g1))))))
 ·rw [if_neg h8] at g
  have hl:(as.take 8).length=8:=by rw [List.length_take]; lia
  have g1:=w_shut (w_shut (w_shuts 8 g))
  refine⟨3 * 8+1+10+1+2+8,3 * 8+1+10+1+2+8,by lia,fun _ _=>by lia,by lia,?_⟩
  have e8:tSort 8=tSort ((as.take 8).length+0):=by rw [hl]
  rw [e8,show T.node as=T.node (as.take 8++as.drop 8) by rw [List.take_append_drop]]
  refine (w_desc (n:=(n+8+2+1+10)+1) (c:=(c+8+2+1+10)+1) ?_).to (by lia) (by lia)
  rw [hl]
  refine w_yes ?_ ?_
  ·show as.drop 8≠[]
   intro z
   have:=congrArg List.length z
   rw [List.length_drop,List.length_nil] at this
   lia
  ·have:=w_drops (as:=.node (as.drop 8)::((as.take 8).reverse++[.node l])) (w_front g1) (k:=10) (by rw [List.length_cons,List.length_append,List.length_reverse,hl]; rfl)
   rw [List.cons_append,List.append_assoc] at this
   exact this
def extraT (tx s:List T):Nat:=match (ats tx 0).kids with
 | []=>0
 | w::_=>if sortT w=2 then (ats s 0).parts else if sortT w=8∧(ats s 0).kids≠[] then (loadT w).parts else 0
theorem pad1 (s:List T):pad s 1=ats s 0::s.drop 1:=by
 cases s with
 | nil=>rfl
 | cons a s=>rw [pad_of (by simp)]; rfl
theorem did_is {w:T}{k:Nat} (h1:1≤k) (h6:k≤6) (h:sortT w=k):behind w s=didW k s:=by
 rcases (by lia:k=1∨k=2∨k=3∨k=4∨k=5∨k=6) with rfl | rfl | rfl | rfl | rfl | rfl
 ·rw [beh1 h,pad1]; rfl
 ·rw [beh2 h,pad1]; rfl
 ·rw [beh3 h]
  match s with
  | []=>rfl
  | [a]=>rfl
  | a::b::s=>rw [pad_of (by simp)]; rfl
 ·rw [beh4 h]
  match s with
  | []=>rfl
  | [a]=>rfl
  | a::b::s=>rw [pad_of (by simp)]; rfl
 ·rw [beh5 h,pad1]; rfl
 ·rw [beh6 h]
  match s with
  | []=>rfl
  | [a]=>rfl
  | [a,b]=>rfl
  | a::b::d::s=>rw [pad_of (by simp)]; rfl
theorem onward_word {w:T}{ws ts:List T}:onward (.node (w::ws)::ts) s =
  if sortT w=7 then
   if (ats s 0).kids≠[] then (ats (w.kids.drop 1) 0::.node ws::ts,behind w s,7) else (.node (w.kids.drop 2)::.node ws::ts,behind w s,8)
  else if sortT w=8 then
   if (ats s 0).kids≠[] then (loadT w::.node (w::ws)::ts,behind w s,9) else (.node ws::ts,behind w s,10)
  else if sortT w=9 then (.node ws::ts,behind w s,11)
  else (.node ws::ts,behind w s,sortT w):=rfl
theorem res_is {as l xs ts:List T}:((onward (.node (.node (.node as::l)::xs)::ts) s).1,(onward (.node (.node (.node as::l)::xs)::ts) s).2.1)=resT as l xs ts s:=by
 have hs:sortT (.node (.node as::l))=min 9 as.length:=rfl
 rw [onward_word]
 unfold resT
 rw [hs]
 by_cases h0:as.length=0
 ·rw [if_neg (by lia),if_neg (by lia),if_neg (by lia),if_pos h0,beh0 (by rw [hs]; lia)]; rfl
 rw [if_neg h0]
 by_cases h6:as.length≤6
 ·rw [if_neg (by lia),if_neg (by lia),if_neg (by lia),if_pos h6,did_is (k:=as.length) (by lia) h6 (by rw [hs]; lia)]
 rw [if_neg h6]
 by_cases h7:as.length=7
 ·rw [if_pos (by lia),if_pos h7,beh7 (by rw [hs]; lia),hs,show min 9 as.length=7 by lia,show many 7=1 from rfl,pad1]
  split <;> rfl
 rw [if_neg h7]
 by_cases h8:as.length=8
 ·rw [if_neg (by lia),if_pos (by lia),if_pos h8,beh7 (by rw [hs]; lia),hs,show min 9 as.length=8 by lia,show many 8=1 from rfl,pad1]
  split <;> rfl
 ·rw [if_neg (by lia),if_neg (by lia),if_pos (by lia),if_neg h8,beh7 (by rw [hs]; lia),hs,show min 9 as.length=9 by lia,show many 9=0 from rfl,pad_of (Nat.zero_le _)]
theorem res_none {xs ts:List T}:((onward (.node (.node []::xs)::ts) s).1,(onward (.node (.node []::xs)::ts) s).2.1)=resT [] [] xs ts s:=by
 unfold onward
 simp only [ats,T.kids,List.getElem?_cons_zero,Option.getD_some,List.drop_succ_cons,List.drop_zero]
 rw [beh0 rfl]
 rfl
theorem hd_in {tx:List T} (h:tx≠[]):nx (.node tHead::cs,.node tx::s)=(.node tStep::.node tHead::cs,.node tx::s):=by
 unfold nx
 rw [show tHead=wordT 8 tStep::[W 1,W 5,W 3,W 1] from rfl,onward_word,if_neg (by show 8≠7; decide),if_pos (by rfl),if_pos (by exact h),beh7 (by show 6<8; decide),pad_of (by show 1≤_; simp)]
 rfl
theorem hd_past:nx (.node tHead::cs,.node []::s)=(.node [W 1,W 5,W 3,W 1]::cs,.node []::s):=by
 unfold nx
 rw [show tHead=wordT 8 tStep::[W 1,W 5,W 3,W 1] from rfl,onward_word,if_neg (by show 8≠7; decide),if_pos (by rfl),if_neg (by exact fun z=>z rfl),beh7 (by show 6<8; decide),pad_of (by show 1≤_; simp)]
end
end Sw
namespace Sw
def wt (st:Std):Nat:=T.partsL st.1+T.partsL st.2
theorem pL_drop (k:Nat) (s:List T):T.partsL (s.drop k)≤T.partsL s:=by
 have e:=T.partsL_append (s.take k) (s.drop k)
 rw [List.take_append_drop] at e
 lia
theorem p_ats (s:List T) (k:Nat):(ats s k).parts≤T.partsL s+1:=by
 induction s generalizing k with
 | nil=>unfold ats leaf; rw [List.getElem?_nil,Option.getD_none,T.parts_node,T.partsL_nil]; lia
 | cons a s ih =>
  rw [T.partsL_cons]
  cases k with
  | zero=>show a.parts≤_; lia
  | succ k=>have:=ih k; have:=T.parts_pos a; show (ats s k).parts≤_; lia
theorem p_load (w:T):(loadT w).parts≤w.parts:=by
 have:=pL_drop 1 w.kids
 unfold loadT
 rw [T.parts_node,T.parts_kids w]
 lia
theorem p_did {k:Nat} (h1:1≤k) (h6:k≤6) (s:List T):T.partsL (didW k s)≤T.partsL s+(if k=2 then (ats s 0).parts+1 else 3):=by
 have hl:leaf.parts=1:=by unfold leaf; rw [T.parts_node,T.partsL_nil]
 have hk:leaf.kids=[]:=rfl
 have hn:(T.node []).parts=1:=by rw [T.parts_node,T.partsL_nil]
 have e0:∀ s:List T,ats s 0=match s with | []=>leaf | a::_=>a:=fun s=>by cases s <;> rfl
 rcases (by lia:k=1∨k=2∨k=3∨k=4∨k=5∨k=6) with rfl | rfl | rfl | rfl | rfl | rfl
 ·have:=pL_drop 1 s; rw [if_neg (by decide)]; show T.partsL (s.drop 1)≤_; lia
 ·rw [if_pos rfl]
  match s with
  | []=>simp only [didW,e0,List.drop_nil,T.partsL_cons,T.partsL_nil,hl]; lia
  | a::s=>simp only [didW,e0,List.drop_succ_cons,List.drop_zero,T.partsL_cons]; lia
 ·rw [if_neg (by decide)]
  match s with
  | []=>simp only [didW,e0,List.drop_nil,T.partsL_cons,T.partsL_nil,hl]; lia
  | [a]=>simp only [didW,e0,List.drop_succ_cons,List.drop_zero,List.drop_nil,T.partsL_cons,T.partsL_nil,hl]; lia
  | a::b::s=>simp only [didW,e0,List.drop_succ_cons,List.drop_zero,T.partsL_cons]; lia
 ·rw [if_neg (by decide)]
  match s with
  | []=>simp only [didW,e0,List.drop_nil,T.partsL_cons,T.partsL_nil,hl,hk,T.parts_node]; lia
  | [a]=>simp only [didW,e0,List.drop_succ_cons,List.drop_zero,List.drop_nil,T.partsL_cons,T.partsL_nil,hk,T.parts_node]; lia
  | a::b::s=>simp only [didW,e0,List.drop_succ_cons,List.drop_zero,T.partsL_cons,T.parts_node]; have:=T.parts_kids b; lia
 ·rw [if_neg (by decide)]
  match s with
  | []=>simp only [didW,e0,List.drop_nil,T.partsL_cons,T.partsL_nil,hl,hk,T.parts_node]; lia
  | .node []::s=>simp only [didW,e0,T.kids,List.drop_succ_cons,List.drop_zero,List.drop_nil,T.partsL_cons,T.partsL_nil,hl,T.parts_node]; lia
  | .node (a::b)::s=>simp only [didW,e0,T.kids,List.drop_succ_cons,List.drop_zero,T.partsL_cons,T.parts_node]; lia
 ·rw [if_neg (by decide)]
  match s with
  | []=>simp only [didW,e0,List.drop_nil,T.partsL_cons,T.partsL_nil,hl]; lia
  | [a]=>simp only [didW,e0,List.drop_succ_cons,List.drop_zero,List.drop_nil,T.partsL_cons,T.partsL_nil,hl]; lia
  | [a,b]=>simp only [didW,e0,List.drop_succ_cons,List.drop_zero,List.drop_nil,T.partsL_cons,T.partsL_nil,hl]; lia
  | a::b::d::s=>simp only [didW,e0,List.drop_succ_cons,List.drop_zero,T.partsL_cons]; lia
theorem p_pad (s:List T) (n:Nat):T.partsL (pad s n)≤T.partsL s+n:=by
 have:∀ k,T.partsL (List.replicate k leaf)=k:=fun k=>by
  induction k with
  | zero=>rw [List.replicate_zero,T.partsL_nil]
  | succ k ih=>rw [List.replicate_succ,T.partsL_cons,ih,leaf,T.parts_node,T.partsL_nil]; lia
 unfold pad
 rw [T.partsL_append,this]
 lia
theorem p_behind (w:T) (s:List T):T.partsL (behind w s)≤T.partsL s+(if sortT w=2 then (ats s 0).parts+1 else 3)+(if sortT w=0 then (loadT w).parts else 0):=by
 by_cases h0:sortT w=0
 ·rw [beh0 h0,T.partsL_cons,if_pos h0,if_neg (by lia)]; lia
 by_cases h6:sortT w≤6
 ·rw [did_is (k:=sortT w) (by lia) h6 rfl]
  have:=p_did (k:=sortT w) (by lia) h6 s
  lia
 ·have h9:=sort_le w
  have h3:∀ k,k≤9→many k≤3:=by decide
  have:=h3 _ h9
  rw [beh7 (by lia),if_neg (by lia)]
  have:=p_pad s (many (sortT w))
  lia
theorem on_bounds (w:T) (ws ts s:List T) :
  T.partsL (onward (.node (w::ws)::ts) s).1≤T.partsL (.node (w::ws)::ts)+(if sortT w=8 then (loadT w).parts else 0) ∧
  (sortT w=0→T.partsL (onward (.node (w::ws)::ts) s).1+w.parts≤T.partsL (.node (w::ws)::ts))∧(onward (.node (w::ws)::ts) s).2.1=behind w s:=by
 have hw:=T.parts_pos w
 have hl:=p_load w
 rw [onward_word]
 by_cases h7:sortT w=7
 ·rw [if_pos h7,if_neg (show ¬ sortT w=8 by lia)]
  refine⟨?_,fun z=>absurd z (by lia),by split <;> rfl⟩
  split
  ·have:=p_ats (w.kids.drop 1) 0
   have:=pL_drop 1 w.kids
   have:=T.parts_kids w
   show T.partsL (_::_::_)≤_
   simp only [T.partsL_cons,T.parts_node]
   lia
  ·have:=pL_drop 2 w.kids
   have:=T.parts_kids w
   show T.partsL (_::_::_)≤_
   simp only [T.partsL_cons,T.parts_node]
   lia
 rw [if_neg h7]
 by_cases h8:sortT w=8
 ·rw [if_pos h8,if_pos h8]
  refine⟨?_,fun z=>absurd z (by lia),by split <;> rfl⟩
  split
  ·show T.partsL (_::_::_)≤_
   simp only [T.partsL_cons,T.parts_node]
   lia
  ·show T.partsL (_::_)≤_
   simp only [T.partsL_cons,T.parts_node]
   lia
 rw [if_neg h8,if_neg h8]
 have e:T.partsL (.node ws::ts)+w.parts=T.partsL (.node (w::ws)::ts):=by simp only [T.partsL_cons,T.parts_node]; lia
 split
 ·exact⟨by show T.partsL (.node ws::ts)≤_; lia,fun _=>by show T.partsL (.node ws::ts)+_≤_; lia,rfl⟩
 ·exact⟨by show T.partsL (.node ws::ts)≤_; lia,fun _=>by show T.partsL (.node ws::ts)+_≤_; lia,rfl⟩
theorem wt_nx {st:Std} (h:noHead st):wt (nx st)≤wt st+3 * costS st:=by
 obtain⟨tx,s⟩:=st
 match tx with
 | [] =>
  show T.partsL []+T.partsL s≤T.partsL []+T.partsL s+_
  lia
 | .node []::ts =>
  show T.partsL ts+T.partsL s≤T.partsL (.node []::ts)+T.partsL s+_
  rw [T.partsL_cons]
  lia
 | .node (w::ws)::ts =>
  have h8:sortT w≠8:=h
  obtain⟨b1,b2,b3⟩:=on_bounds w ws ts s
  have b4:=p_behind w s
  have hl:=p_load w
  rw [if_neg h8] at b1
  have hc:costS (.node (w::ws)::ts,s)=if sortT w=2 then (ats s 0).parts else 1:=rfl
  have hp:=T.parts_pos (ats s 0)
  show T.partsL (onward (.node (w::ws)::ts) s).1+T.partsL (onward (.node (w::ws)::ts) s).2.1≤T.partsL (.node (w::ws)::ts)+T.partsL s+3 * costS (.node (w::ws)::ts,s)
  rw [hc,b3]
  by_cases h2:sortT w=2
  ·rw [if_pos h2,if_neg (by lia)] at b4
   rw [if_pos h2]
   lia
  ·rw [if_neg h2] at b4
   rw [if_neg h2]
   by_cases h0:sortT w=0
   ·have:=b2 h0
    rw [if_pos h0] at b4
    lia
   ·rw [if_neg h0] at b4
    lia
end Sw
namespace Sw
def stN:Nat→Std→Std
 | 0,s=>s
 | n+1,s=>nx (stN n s)
theorem stN_succ (n:Nat) (s:Std):stN (n+1) s=stN n (nx s):=by
 induction n with
 | zero=>rfl
 | succ n ih=>show nx (stN (n+1) s)=nx (stN n (nx s)); rw [ih]
theorem stN_add (m n:Nat) (s:Std):stN (m+n) s=stN n (stN m s):=by
 induction n with
 | zero=>rfl
 | succ n ih=>show nx (stN (m+n) s)=nx (stN n (stN m s)); rw [ih]
def dpLe (a:Nat) (st:Std):Prop:=(T.node st.1).deep≤a∧(T.node st.2).deep≤a
theorem dpLe.le {a b:Nat}{st:Std} (h:dpLe a st) (hab:a≤b):dpLe b st:=⟨Nat.le_trans h.1 hab,Nat.le_trans h.2 hab⟩
theorem extra_le (tx s:List T):extraT tx s≤wt (tx,s)+1:=by
 have h1:=p_ats s 0
 unfold extraT
 show _≤T.partsL tx+T.partsL s+1
 split
 ·lia
 ·rename_i w ws e
  split
  ·lia
  split
  ·have h2:=p_load w
   have h3:w.parts≤T.partsL tx+1:=by
    have h4:=p_ats tx 0
    rw [T.parts_kids,e,T.partsL_cons] at h4
    lia
   lia
  ·lia
theorem hd_parts:(T.node tStep).parts+(T.node tHead).parts≤4000:=by decide +kernel
theorem hd_deep:(T.node tStep).deep≤90∧(T.node tHead).deep≤90:=by decide +kernel
end Sw
namespace Sw
def okSt (st:Std):Prop:=(T.node st.1).deep≤390∧(T.node st.2).deep≤390∧wt st≤7900000
end Sw
namespace Sw
theorem d_drop (k:Nat) (ts:List T):T.deepL (ts.drop k)≤T.deepL ts:=by
 have e:=T.deepL_append (ts.take k) (ts.drop k)
 rw [List.take_append_drop] at e
 lia
theorem d_ats (ts:List T) (k:Nat) {a:Nat} (h:T.deepL ts≤a):(ats ts k).deep≤a - 1:=by
 by_cases hk:k<ts.length
 ·have:=T.mem_deep (ats_in hk)
  lia
 ·unfold ats leaf
  rw [List.getElem?_eq_none (by lia),Option.getD_none,T.deep_node,T.deepL_nil]
  lia
theorem d_pad (s:List T) (n:Nat) {a:Nat} (ha:1≤a) (h:T.deepL s≤a):T.deepL (pad s n)≤a:=by
 unfold pad
 rw [T.deepL_append]
 have:∀ k,T.deepL (List.replicate k leaf)≤1:=fun k=>by
  induction k with
  | zero=>rw [List.replicate_zero,T.deepL_nil]; lia
  | succ k ih=>have hl:leaf.deep=0:=by { unfold leaf; rw [T.deep_node,T.deepL_nil] };rw [List.replicate_succ,T.deepL_cons]; lia
 have:=this (n - s.length)
 lia
theorem d_behind {a:Nat}{w:T}{s:List T} (ha:2≤a) (hw:w.deep+1≤a) (hs:T.deepL s≤a):T.deepL (behind w s)≤a+1:=by
 have hk:∀ t:T,T.deepL t.kids=t.deep:=fun t=>(T.deep_kids t).symm
 have hl:(loadT w).deep≤w.deep:=by unfold loadT; rw [T.deep_node,T.deep_kids w]; exact d_drop 1 _
 unfold behind
 have p1:=d_pad s 1 (by lia) hs
 have p2:=d_pad s 2 (by lia) hs
 have p3:=d_pad s 3 (by lia) hs
 split
 ·rw [T.deepL_cons]; lia
 split
 ·have:=d_pad s (many (sortT w)) (by lia) hs; lia
 split
 ·have:=d_drop 1 (pad s 1); lia
 split
 ·have:=d_drop 1 (pad s 1); have:=d_ats _ 0 p1; rw [T.deepL_cons,T.deepL_cons]; lia
 split
 ·have:=d_drop 2 (pad s 2); have:=d_ats _ 0 p2; have:=d_ats _ 1 p2; rw [T.deepL_cons,T.deepL_cons]; lia
 split
 ·have:=d_drop 2 (pad s 2)
  have:=d_ats _ 0 p2
  have:=d_ats _ 1 p2
  have:=hk (ats (pad s 2) 1)
  rw [T.deepL_cons,T.deep_node,T.deepL_cons]
  lia
 split
 ·have:=d_drop 1 (pad s 1)
  have h0:=d_ats _ 0 p1
  have:=hk (ats (pad s 1) 0)
  have h1:=d_ats (ats (pad s 1) 0).kids 0 (a:=a - 1) (by lia)
  have:=d_drop 1 (ats (pad s 1) 0).kids
  rw [T.deepL_cons,T.deepL_cons,T.deep_node]
  lia
 ·have:=d_drop 3 (pad s 3)
  have:=d_ats _ 0 p3
  have:=d_ats _ 1 p3
  have:=d_ats _ 2 p3
  rw [T.deepL_cons,T.deepL_cons,T.deepL_cons]
  lia
theorem dp1_nx {a:Nat}{st:Std} (ha:4≤a) (h:dpLe a st):dpLe (a+1) (nx st):=by
 obtain⟨tx,s⟩:=st
 obtain⟨h1,h2⟩:=h
 have h1:(T.node tx).deep≤a:=h1
 have h2:(T.node s).deep≤a:=h2
 rw [T.deep_node] at h1 h2
 have goal:T.deepL (onward tx s).1≤a+1∧T.deepL (onward tx s).2.1≤a+1:=by
  match tx with
  | []=>exact⟨by show T.deepL []≤_; rw [T.deepL_nil]; lia,by show T.deepL s≤_; lia⟩
  | .node []::ts=>exact⟨by show T.deepL ts≤_; rw [T.deepL_cons] at h1; lia,by show T.deepL s≤_; lia⟩
  | .node (w::ws)::ts =>
   rw [T.deepL_cons,T.deep_node,T.deepL_cons] at h1
   have hb:T.deepL (behind w s)≤a+1:=d_behind (by lia) (by lia) h2
   have hk:=T.deep_kids w
   have k1:=d_drop 1 w.kids
   have k2:=d_drop 2 w.kids
   have k3:=d_ats (w.kids.drop 1) 0 (a:=a) (by lia)
   have hr:T.deepL (.node ws::ts)≤a:=by rw [T.deepL_cons,T.deep_node]; lia
   rw [onward_word]
   split
   ·split
    ·exact⟨by show T.deepL (_::.node ws::ts)≤_; rw [T.deepL_cons]; lia,hb⟩
    ·exact⟨by show T.deepL (_::.node ws::ts)≤_; rw [T.deepL_cons,T.deep_node]; lia,hb⟩
   split
   ·split
    ·refine⟨?_,hb⟩
     show T.deepL (loadT w::.node (w::ws)::ts)≤_
     unfold loadT
     rw [T.deepL_cons,T.deep_node,T.deepL_cons,T.deep_node,T.deepL_cons]; lia
    ·exact⟨Nat.le_succ_of_le hr,hb⟩
   split
   ·exact⟨Nat.le_succ_of_le hr,hb⟩
   ·exact⟨Nat.le_succ_of_le hr,hb⟩
 exact⟨by show (T.node (onward tx s).1).deep≤_; rw [T.deep_node]; exact goal.1,by show (T.node (onward tx s).2.1).deep≤_; rw [T.deep_node]; exact goal.2⟩
def Way (D W:Nat) (st:Std) (n:Nat) (e:Std):Prop:=∃ c,Wlk st n c e∧n≤110∧dpLe (D+(110 - n)) st∧wt st+3 * c≤W
theorem Way.ok {D W n:Nat}{st e:Std} (h:Way D W st n e) (hD:D≤280) (hW:W≤7900000):okSt st:=by
 obtain⟨c,_,_,hd,hw⟩:=h
 exact⟨by have:=hd.1; lia,by have:=hd.2; lia,by lia⟩
theorem Way.step {D W n:Nat}{st e:Std} (h:Way D W st (n+1) e) (hD:4≤D):st.1≠[]∧noHead st∧Way D W (nx st) n e:=by
 obtain⟨c,g,hn,hd,hw⟩:=h
 cases g with
 | @cons _ _ n2 c2 h1 h2 g =>
  have w2:=wt_nx h2
  have d:=dp1_nx (by lia) hd
  exact⟨h1,h2,c2,g,by lia,d.le (by lia),by lia⟩
theorem Way.at {D W:Nat}{st e:Std} (h:Way D W st 0 e):st=e:=by
 obtain⟨c,g,_⟩:=h
 cases g
 rfl
end Sw
namespace PySem
open Builtin Builtin.Str
section
variable {prog:Program}{w:World}{A:Around}{E:Value→Shared→Prop}{s:Shared}{x:Str}{t:Tok}{Q:Value→Shared→Prop}
theorem split_ws (q:∀ (l:List (Str×Tok)) (k:Nat),l.map (·.1)=Txt.words x→Q (.ref s.heap.objs.size) { s with toks:=k,heap:=s.heap.push { cls:=.type "list",data:=.seq (strValues l).toArray } })
  (z1:x.length≤sizeLine) (z2:(spaceWords x (x.length+1)).length≤sizeLine):wpAny (model prog w) A (call (.builtin "str.split") [.str x t]) Q E s:=by
 refine call_meets F.slot_str_split (typeIs_str _ _ _) F.entry_str_split (F.args_str_split_1 _) (meets_str_split_space x t z1 z2) ?_
 cases hw:spaceWords x (x.length+1) == [(0,x.length)]
 ·simp only [Bool.false_eq_true,if_false]; rw [strsFrom_eq]
  exact q (numbered s.toks (wordsOf x)) _ ((numbered_texts _ _).trans (if_neg (ne_true_of_eq_false hw)).symm)
 ·simp only [if_true]; exact q [(x,t)] s.toks (if_pos hw).symm
end
section
variable {prog:Program}{w:World}{A:Around}{E:Value→Shared→Prop}{s:Shared}
theorem sub_ri_rev:isSubtype (.type "range_iterator") (.type "reversed")=pure false:=by rw [isSubtype_type]; kernel_rfl
def downObj:Obj:={ cls:=.type "range_iterator",data:=.fields #[rawInt 7,rawInt 8,rawInt (-1)] }
theorem down_meets (r:Addr) (t u v:Tok):Meets (Builtin.«range.__reversed__» ⟨[.ref r],[]⟩) (fun _ R s=>IsRange s.heap r 0 8 1 t u v∧R (.ok (.ret (.ref s.heap.objs.size))) { s with heap:=s.heap.push downObj }) :=
 .of_wp fun prog w A R s h=>by obtain⟨hp,g,d,tk,os⟩:=s; obtain⟨hl,h⟩:=h; wp_walk; exact⟨_,rfl,h⟩
theorem code_rev_range {r:Addr}{t u v:Tok}{Q₁:Value→Shared→Prop} (hr:IsRange s.heap r 0 8 1 t u v) (h:Q₁ (.ref s.heap.objs.size) { s with heap:=s.heap.push downObj }) :
  codeAny (model prog w) A (.call (.builtin "reversed.__new__") ⟨[.type "reversed",.ref r],[]⟩) (wants Q₁ E) s:=by
 have hT:s.TypeIs (.ref r) "range":=⟨_,hr,rfl⟩
 refine codeAny_of_tree (show wpAny _ A.in1 (do checkBuiltinCall "reversed.__new__" ⟨[.type "reversed",.ref r],[]⟩; again (.builtin "reversed.__new__" ⟨[.type "reversed",.ref r],[]⟩)) _ _ s from ?_)
 refine wpAny_bind (wpAny_of_eq (F.newCall_reversed_1 _) (wpAny_pure ⟨plainId_quiet F.plain_reversed_new _,codeAny_builtin F.entry_reversed_new ?_⟩)); rw [Around.under_plainId F.plain_reversed_new _]; unfold Builtin.«reversed.__new__»
 refine wpAny_bind (wpAny_of_eq (newClass_reversed _) ?_); try dsimp only
 refine wpAny_bind (wpAny_of_eq (a:=()) (by first | rfl | kernel_rfl) ?_); refine wpAny_bind (wpAny_of_eq (a:=()) (by first | rfl | kernel_rfl) ?_); try dsimp only
 refine wpAny_bind (wpAny_specialOf hT F.slot_range_reversed.lookup ?_); try dsimp only
 refine wpAny_bind (wpAny_of_eq (F.slot_range_reversed.bind _) ?_); try dsimp only
 first
 | rw [if_neg (show ¬ ((Value.builtin "range.__reversed__" == Value.none)=true) from Bool.false_ne_true)]
 | (show wpAny _ _ (if (Value.builtin "range.__reversed__" == Value.none)=true then _ else _) _ _ _; rw [if_neg (show ¬ ((Value.builtin "range.__reversed__" == Value.none)=true) from Bool.false_ne_true)])
 refine wpAny_bind (wpAny_rule ?_); refine wpAny_bind (m:=runValue (.call (.builtin "range.__reversed__") ⟨[.ref r],[]⟩)) (show wpAny _ _ (call (.builtin "range.__reversed__") [.ref r]) _ _ _ from call_meets F.slot_range_reversed hT F.entry_range_reversed (F.args_range_reversed_1 _) (down_meets r t u v) ⟨hr,?_⟩)
 first
 | exact wpAny_pure h
 | exact wpAny_bind (wpAny_pure (wpAny_pure h))
theorem call_rev_range {r:Addr}{t u v:Tok}{Q:Value→Shared→Prop} (hr:IsRange s.heap r 0 8 1 t u v) (h:Q (.ref s.heap.objs.size) { s with heap:=s.heap.push downObj }) :
  wpAny (model prog w) A (call (.type "reversed") [.ref r]) Q E s:=by
 refine callType_other (U:="range_iterator") (Q₁:=fun obj s₁=>obj=.ref s.heap.objs.size∧s₁={ s with heap:=s.heap.push downObj }) (by decide +kernel) F.create_reversed ⟨_,_,F.mro_reversed⟩ F.made_reversed sub_ri_rev (F.typeCall_reversed_1 _) (code_rev_range hr ⟨rfl,rfl⟩) ?_
 rintro obj s₁ ⟨rfl,rfl⟩
 exact⟨⟨_,Heap.get?_push_size _ rfl,rfl⟩,h⟩
end
end PySem
namespace Sw
open PySem PySem.Spec PyProof.Rows L2 SwR
section
variable {X:Cx}
theorem vals_wd:∀ {l:List (Str×Tok)}{zs:List Str},l.map (·.1)=zs→Vals (zs.map V.str) (strValues l)
 | [],_,h=>by cases h; exact .nil
 | (z,t)::l,_,h=>by cases h; exact .cons ⟨t,rfl⟩ (vals_wd rfl)
def rSplit0:V→List V→Hp→VK→Prop:=fun x vs H Q=>∃ z:Str,x=.str z∧vs=[]∧z.length≤1000∧(Builtin.Str.spaceWords z (z.length+1)).length≤1000∧(Txt.words z).length≤1000 ∧
 ∀ D,H D=none→Q (.ref D) (upd H D (.lst ((Txt.words z).map V.str)))
theorem mt_split0:MtM X "str.split" rSplit0:=by
 intro pins s σ H x vs v us Q I rx rv h
 obtain⟨z,rfl,rfl,hl,hw,hw2,q⟩:=h
 obtain⟨t,rfl⟩:=rx
 cases rv
 refine split_ws (fun ll k e=>?_) (Nat.le_trans hl (by decide)) (Nat.le_trans hw (by decide))
 have hn:H s.heap.objs.size=none:=I.hok.fresh (Nat.le_refl _)
 have I2:=I.lnew (ys:=(Txt.words z).map V.str) (its:=strValues ll) (t':=k) (vals_wd e) (by rw [List.length_map]; exact Nat.le_trans hw2 (by decide))
 exact⟨.ref s.heap.objs.size,_,I2,rfl,q _ hn⟩
def Itd:It:=⟨fun i _=>i<8,fun i H x H'=>H'=H∧x=.int (7 - i),fun i _=>8≤i⟩
theorem turn_down {P:Program}{w:World}{K:PySem.W.Frag}{tg:Expr} (it:Addr):Turn P w K tg Itd [it] it (fun i h=>IsRangeIter h it (7+(i:Nat) * (-1)) ((8:Nat) - (i:Nat)) (-1)) where
 mem:=by simp
 obj:=fun i h st b hb=>by
  have e:b=it:=by simpa using hb
  subst e
  exact⟨_,st,fun v z=>by have z':Data.fields _=Data.cell v:=z; cases z'⟩
 keep:=fun i h h' st k=>k it (by simp) _ st
 item:=by
  intro X hP hw hK hc i pins s σ H E I hf st hg
  subst hP hw hK
  obtain⟨f0,f1,f2,f3,f4,f5⟩:=hf it (by simp)
  have W:=Walks.range (prog:=X.prog) (w:=X.w) (I.ok.hd hc) it 7 (-1) 8
  refine W.item i s _ _ hg st fun v h' tk hv st' kk=>?_
  obtain⟨t,rfl⟩:=hv
  have I1:Inv X pins σ H { s with heap:=h',toks:=tk }:=I.turned (fun b o hb e=>kk b o (by simpa using hb) e) f0 f1 f3 f4 f5
  refine⟨_,rfl,go_of (s:={ s with heap:=h',toks:=tk }) (n:="range_iterator") st' rfl rfl (by decide) ⟨.int (7 - i),H,I1,⟨t,by rw [show (7:Int)+(i:Int) * -1=7 - i by lia]⟩,⟨rfl,rfl⟩,st',fun b hb=>(hf b hb).1⟩⟩
 done:=by
  intro X hP hw hK hc i pins s σ H E I hf st hg
  subst hP hw hK
  obtain⟨f0,f1,f2,f3,f4,f5⟩:=hf it (by simp)
  exact wpAny_pyNext_range_end (I.ok.hd hc) st (by have:8≤i:=hg; lia) fun h' eb=>⟨rfl,I.turned (t':=s.toks) (fun b o hb e=>eb b o hb e) f0 f1 f3 f4 f5⟩
 self:=fun _ _ _ _ _ st h=>wpAny_pyIter_rangeiter st h
def iDown (ta:TA):TI:=fun σ H R=>ta σ H fun vs H1=>vs=[.int 8]∧R Itd H1
theorem pi_down {tg a:Expr}{ta:TA}{p p2 pos pos2:Pos} (hg:Gl X "range") (hm:X.mg "range"=none) (hg2:Gl X "reversed") (hm2:X.mg "reversed"=none) (ha:PA X [a] ta) (hs:starEach [a] X.env=[(false,eval a X.env)]:=by rfl)
  (hs2:starEach [.Call (.Name "range" p) [a] [] pos] X.env=[(false,eval (.Call (.Name "range" p) [a] [] pos) X.env)]:=by rfl) :
  PI X tg (.Call (.Name "reversed" p2) [.Call (.Name "range" p) [a] [] pos] [] pos2) (iDown ta):=by
 intro pins s σ H R I h
 refine wpAny_Call_Name_kw (ld_blt I hg2 hm2 bt_reversed ?_)
 refine PyProof.Rows.callWith_type1 ?_ (by rw [hs2]; rfl) (by rfl)
 rw [hs2]
 refine Calls.spliced_cons ?_
 refine Call_ (ld_blt I hg hm boot_range (PyProof.Rows.callWith_type1 (thn (ha pos pins s σ H _ I h) fun us s1 ⟨vs,H1,I1,r1,q1⟩=>?_) hs rfl))
 obtain⟨rfl,q⟩:=q1
 cases r1 with
 | cons r rr =>
  cases rr
  obtain⟨t,rfl⟩:=r
  refine call_range_1 (Calls.spliced_nil ?_)
  generalize hs2':({ s1 with heap:=s1.heap.push { cls:=.type "range",data:=.fields #[.int 0 s1.toks,.int 8 t,.int 1 (s1.toks+1)] },toks:=s1.toks+1+1 }:Shared)=s2
  have I2:Inv X pins σ H1 s2:=by rw [← hs2']; exact I1.kept fun b o e=>Heap.get?_push_of_some _ e
  have hr:IsRange s2.heap s1.heap.objs.size 0 8 1 s1.toks t (s1.toks+1):=by rw [← hs2']; exact Heap.get?_push_size _ rfl
  refine call_rev_range hr ?_
  have hit:IsRangeIter (s2.heap.push downObj) s2.heap.objs.size 7 8 (-1):=Heap.get?_push_size _ rfl
  have I3:Inv X pins σ H1 { s2 with heap:=s2.heap.push downObj }:=I2.kept (t':=s2.toks) fun b o e=>Heap.get?_push_of_some _ e
  refine wpAny_pyIter_rangeiter (s:={ s2 with heap:=s2.heap.push downObj }) hit ?_
  refine⟨s2.heap.objs.size,[s2.heap.objs.size],_,Itd,H1,rfl,I3,turn_down _,hit,fun b hb=>?_,q⟩
  have e:b=s2.heap.objs.size:=by simpa using hb
  subst e
  exact I2.fpOk (Nat.le_refl _) (I2.hok.fresh (Nat.le_refl _))
theorem qi_down {tg a:Expr}{ta:TA}{p p2 pos pos2:Pos} (hg:Gl X "range") (hm:X.mg "range"=none) (hg2:Gl X "reversed") (hm2:X.mg "reversed"=none) (ha:QA X [a] ta) (hs:starEach [a] X.env=[(false,eval a X.env)]:=by rfl)
  (hs2:starEach [.Call (.Name "range" p) [a] [] pos] X.env=[(false,eval (.Call (.Name "range" p) [a] [] pos) X.env)]:=by rfl) :
  QI X tg (.Call (.Name "reversed" p2) [.Call (.Name "range" p) [a] [] pos] [] pos2) (iDown ta):=⟨pi_down hg hm hg2 hm2 ha.run hs hs2⟩
theorem for_down {g:TG}{tb:TS}{D:Ends}{σ:Sg}{H:Hp} (Pv:Nat→Sg→Hp→Prop) (h0:Pv 0 σ H)
  (hs:∀ i σ H,i<8→Pv i σ H→g (.int (7 - i)) σ H fun σ2 H2=>tb { D with nx:=Pv (i+1),ct:=Pv (i+1),bk:=D.nx } σ2 H2) (hd:∀ σ H,Pv 8 σ H→D.nx σ H) :
  ∃ W:Nat→Nat→Sg→Hp→Prop,(∃ m,W 0 m σ H)∧∀ i m σ H,W i m σ H →
   (Itd.stop i H∧D.nx σ H)∨(Itd.go i H∧∃ N:Sg→Hp→Prop,(∀ σ' H',N σ' H'→∃ m',m'<m∧W (i+1) m' σ' H')∧∀ x H',Itd.yld i H x H'→g x σ H' fun σ2 H2=>tb { D with nx:=N,ct:=N,bk:=D.nx } σ2 H2):=by
 refine⟨fun i m σ H=>m=8 - i∧i≤8∧Pv i σ H,⟨8,rfl,Nat.zero_le _,h0⟩,?_⟩
 rintro i m σ H ⟨rfl,hi,p⟩
 by_cases hlt:i<8
 ·refine .inr ⟨hlt,Pv (i+1),fun σ' H' p'=>⟨8 - (i+1),by lia,rfl,hlt,p'⟩,fun x H' y=>?_⟩
  obtain⟨rfl,rfl⟩:=y
  exact hs i σ _ hlt p
 ·have e:i=8:=by lia
  subst e
  exact .inl ⟨Nat.le_refl _,hd σ H p⟩
def rIndexZ (K:PySem.W.Frag):V→List V→Hp→VK→Prop:=fun x vs H Q=>∃ (a:Addr) (cs:List Str) (p:Str) (j:Nat),x=.ref a∧vs=[.str p]∧SqT K H a (cs.map V.str)∧cs[j]?=some p∧(∀ m,m<j→cs[m]?≠some p)∧Q (.int (j:Nat)) H
theorem mt_indexZ:MtM X "tuple.index" (rIndexZ X.K):=by
 intro pins s σ H x vs v us Q I rx rv h
 obtain⟨a,cs,p,j,rfl,rfl,hq,hj,hn,q⟩:=h
 cases rx
 obtain⟨u,rfl,ru⟩:=rv.one
 obtain⟨its,r,ht,hz⟩:=I.tuple hq
 obtain⟨⟨cls,dd,data,sl⟩,ho,hc,n,hd⟩:=id ht
 simp only at hc hd
 subst hc hd
 have flat:∀ l:List Str,(l.map V.str).all flatV=true:=fun l=>by
  rw [List.all_eq_true]; intro y hy
  obtain⟨c,_,rfl⟩:=List.mem_map.mp hy
  rfl
 have hlen:=r.length
 rw [List.length_map] at hlen
 have hjl:j<cs.length:=(List.getElem?_eq_some_iff.mp hj).1
 have at_:∀ m (hm:m<its.toArray.size),eqU (.str p) its.toArray[m]=decide (cs[m]?=some p):=fun m hm=>by
  have hm':m<cs.length:=by rw [List.size_toArray] at hm; lia
  obtain⟨u',e1,ru'⟩:=r.get (i:=m) (x:=.str cs[m]) (by rw [List.getElem?_map,List.getElem?_eq_getElem hm']; rfl)
  have e2:its.toArray[m]=u':=by
   have:=List.getElem?_eq_some_iff.mp e1
   simpa using this.2
  rw [e2,eqU_of ru' rfl,List.getElem?_eq_getElem hm']
  show (cs[m] == p)=_
  by_cases z:cs[m]=p
  ·rw [decide_eq_true (congrArg some z),z]; exact beq_self_eq_true _
  ·rw [decide_eq_false (fun y=>z (Option.some.inj y))]; exact beq_eq_false_iff_ne.mpr z
 have hjs:j<its.toArray.size:=by rw [List.size_toArray]; lia
 refine call_meets F.slot_tuple_index ⟨_,ho,rfl⟩ F.entry_tuple_index (F.args_tuple_index_2 _ _)
  (tup_indexAt a its.toArray n dd sl u (eqU (.str p)) j hjs (by rw [at_ j hjs,hj]; exact decide_eq_true rfl) (fun m hm hlt=>by rw [at_ m hm]; exact decide_eq_false (hn m hlt))) ⟨ho,fun y hy=>?_,?_⟩
 ·exact mem_eqAt ru rfl r (flat cs) y (by simpa using hy)
 ·exact⟨.int (j:Nat),H,I.tok _,⟨_,rfl⟩,q⟩
theorem qe_bmK {K:PySem.W.Frag}{e:Expr}{T:String}{r:V→List V→Hp→VK→Prop}{to:TE}{t:TA} (hK:X.K=K) (h:QE X e (tBM X.K T r to t)):QE X e (tBM K T r to t):=by subst hK; exact h
theorem mt_indexZK {K:PySem.W.Frag} (hK:X.K=K):MtM X "tuple.index" (rIndexZ K):=by subst hK; exact mt_indexZ
end
theorem op_fdivL {X:Cx}:OpR X (binaryOp .FloorDiv) (rI (fun _ j=>0<j∧j.natAbs.log2<9000) fun i j=>.int (i / j)):=opI fun i j _ _ _ _ _ hc q=>by
 have h1:(0:Int)<j:=hc.1
 exact floordiv_int (by lia) (by rw [Int.fdiv_eq_ediv_of_nonneg i (by lia)]; exact q) (.inl (PyProof.noPylong_of_log2 hc.2))
end Sw
namespace Sw
end Sw
namespace Sw
theorem okSt_of {st:Std}{a:Nat} (hd:dpLe a st) (ha:a≤390) (hw:wt st≤7900000):BX st.1∧B 390 8000000 (.node st.2):=by
 obtain⟨h1,h2⟩:=hd
 have h3:T.partsL st.1+T.partsL st.2≤7900000:=hw
 exact⟨BX.of (a:=390) (b:=8000000) ⟨by lia,by rw [T.parts_node]; lia⟩ (by lia) (by lia),⟨by lia,by rw [T.parts_node]; lia⟩⟩
theorem okSt_bx {tx s:List T} (h:okSt (tx,s)):BX tx∧B 390 8000000 (.node s):=by
 obtain⟨h1,h2,h3⟩:=h
 have h3:T.partsL tx+T.partsL s≤7900000:=h3
 exact⟨BX.of (a:=390) (b:=8000000) ⟨h1,by rw [T.parts_node]; lia⟩ (by lia) (by lia),⟨h2,by rw [T.parts_node]; lia⟩⟩
def tLayMade (t:List T):List T:=wordT 0 []::W 4::t
def tMaker (t:List T):List T:=W 2::tLayMade (W 4::t)
def tBoth:List T:=W 3::tMaker (W 3::W 4::(tSelf++(W 4::tSelf)))
def bodyK (f:List T):List T:=wordT 0 f::tBoth
def knotT (f:List T):List T:=wordT 0 (bodyK f)::bodyK f
theorem w_layMade {t cs us x:List T}{n c:Nat}{e:Std} (g:Wlk (.node t::cs,wordT 0 x::us) n c e):Wlk (.node (tLayMade t)::cs,.node x::us) (n+2) (c+2) e:=w_lay (w_front g)
theorem w_maker {t cs us x:List T}{n c:Nat}{e:Std} (g:Wlk (.node t::cs,.node (wordT 0 x::x)::us) n c e):Wlk (.node (tMaker t)::cs,.node x::us) (n+4) (c+3+(T.node x).parts) e :=
 w_twin (w_layMade (w_front g))
theorem both_parts:T.partsL tBoth≤6000∧T.deepL tBoth≤90:=by decide +kernel
theorem body_parts (f:List T):(T.node (bodyK f)).parts=3+T.partsL f+T.partsL tBoth:=by
 unfold bodyK wordT leavesT
 rw [T.parts_node,T.partsL_cons,T.parts_node,T.partsL_cons,List.replicate_zero,T.parts_node,T.partsL_nil]
 lia
end Sw
namespace Sw
def evW (ω:Nat→Nat) (st:Std):Nat:=ω (stepT st.1 st.2)+(if stepT st.1 st.2=2 then (ats st.2 0).parts * ω 13 else 0)+(if stepT st.1 st.2=9 then (loadT (ats (ats st.1 0).kids 0)).parts * ω 14 else 0)
inductive Wo (ω:Nat→Nat):Std→Nat→Std→Prop where
 | nil {st:Std}:Wo ω st 0 st
 | cons {st e:Std}{τ:Nat}:st.1≠[]→Wo ω (nx st) τ e→Wo ω st (τ+evW ω st) e
theorem Wo.to {ω:Nat→Nat}{st e:Std}{τ τ':Nat} (h:Wo ω st τ e) (e1:τ=τ'):Wo ω st τ' e:=by subst e1; exact h
theorem Wo.one {ω:Nat→Nat}{st e u:Std}{τ k:Nat} (h1:st.1≠[]) (h3:nx st=u) (h4:evW ω st=k) (g:Wo ω u τ e):Wo ω st (τ+k) e:=by
 subst h3; subst h4; exact .cons h1 g
theorem step_word {w:T}{ws ts s:List T}:stepT (.node (w::ws)::ts) s=if sortT w=7 then (if (ats s 0).kids≠[] then 7 else 8) else if sortT w=8 then (if (ats s 0).kids≠[] then 9 else 10) else if sortT w=9 then 11 else sortT w:=by
 unfold stepT
 rw [onward_word]
 by_cases h7:sortT w=7
 ·rw [if_pos h7,if_pos h7]; split <;> rfl
 rw [if_neg h7,if_neg h7]
 by_cases h8:sortT w=8
 ·rw [if_pos h8,if_pos h8]; split <;> rfl
 rw [if_neg h8,if_neg h8]
 split <;> rfl
theorem ev_word {ω:Nat→Nat}{w:T}{ws ts s:List T}{k:Nat} (h:stepT (.node (w::ws)::ts) s=k):evW ω (.node (w::ws)::ts,s)=ω k+(if k=2 then (ats s 0).parts * ω 13 else 0)+(if k=9 then (loadT w).parts * ω 14 else 0):=by
 subst h; rfl
section
variable {ω:Nat→Nat}{t cs s:List T}{e:Std}{τ:Nat}
theorem o_lay {us:List T} (g:Wo ω (.node t::cs,.node us::s) τ e):Wo ω (.node (wordT 0 us::t)::cs,s) (τ+ω 0) e :=
 .one (by simp) (by rw [nx_plain (by show 0≤6; decide),beh0 rfl]; rfl) ((ev_word (k:=0) (by rw [step_word]; rfl)).trans rfl) g
theorem o_drop {a:T} (g:Wo ω (.node t::cs,s) τ e):Wo ω (.node (W 1::t)::cs,a::s) (τ+ω 1) e :=
 .one (by simp) (by rw [nx_plain (by decide),beh1 rfl,pad_of (by simp)]; rfl) ((ev_word (k:=1) (by rw [step_word]; rfl)).trans rfl) g
theorem o_twin {a:T} (g:Wo ω (.node t::cs,a::a::s) τ e):Wo ω (.node (W 2::t)::cs,a::s) (τ+(ω 2+a.parts * ω 13)) e :=
 .one (by simp) (by rw [nx_plain (by decide),beh2 rfl,pad_of (by simp)]; rfl) ((ev_word (k:=2) (by rw [step_word]; rfl)).trans rfl) g
theorem o_swap {a b:T} (g:Wo ω (.node t::cs,b::a::s) τ e):Wo ω (.node (W 3::t)::cs,a::b::s) (τ+ω 3) e :=
 .one (by simp) (by rw [nx_plain (by decide),beh3 rfl,pad_of (by simp)]; rfl) ((ev_word (k:=3) (by rw [step_word]; rfl)).trans rfl) g
theorem o_front {a:T}{b:List T} (g:Wo ω (.node t::cs,.node (a::b)::s) τ e):Wo ω (.node (W 4::t)::cs,a::.node b::s) (τ+ω 4) e :=
 .one (by simp) (by rw [nx_plain (by decide),beh4 rfl,pad_of (by simp)]; rfl) ((ev_word (k:=4) (by rw [step_word]; rfl)).trans rfl) g
theorem o_part {a:List T} (g:Wo ω (.node t::cs,ats a 0::.node (a.drop 1)::s) τ e):Wo ω (.node (W 5::t)::cs,.node a::s) (τ+ω 5) e :=
 .one (by simp) (by rw [nx_plain (by decide),beh5 rfl,pad_of (by simp)]; rfl) ((ev_word (k:=5) (by rw [step_word]; rfl)).trans rfl) g
theorem o_partc {a:T}{b:List T} (g:Wo ω (.node t::cs,a::.node b::s) τ e):Wo ω (.node (W 5::t)::cs,.node (a::b)::s) (τ+ω 5) e:=o_part g
theorem o_turn {a b d:T} (g:Wo ω (.node t::cs,d::a::b::s) τ e):Wo ω (.node (W 6::t)::cs,a::b::d::s) (τ+ω 6) e :=
 .one (by simp) (by rw [nx_plain (by decide),beh6 rfl,pad_of (by simp)]; rfl) ((ev_word (k:=6) (by rw [step_word]; rfl)).trans rfl) g
theorem o_shut (g:Wo ω (cs,s) τ e):Wo ω (.node []::cs,s) (τ+ω 12) e :=
 .one (by simp) rfl rfl g
theorem o_yes {yes no:List T}{a:T} (ha:a.kids≠[]) (g:Wo ω (.node yes::.node t::cs,a::s) τ e):Wo ω (.node (forkW yes no::t)::cs,a::s) (τ+ω 7) e :=
 .one (by simp) (by
  unfold nx onward
  simp only [ats,T.kids,List.getElem?_cons_zero,Option.getD_some,List.drop_succ_cons,List.drop_zero]
  rw [if_pos (by rfl),if_pos (by exact ha),beh7 (by show 6<7; decide),pad_of (by show 1≤_; simp)]; rfl) ((ev_word (k:=7) (by rw [step_word,if_pos (by rfl),if_pos (by exact ha)])).trans rfl) g
theorem o_no {yes no:List T}{a:T} (ha:a.kids=[]) (g:Wo ω (.node no::.node t::cs,a::s) τ e):Wo ω (.node (forkW yes no::t)::cs,a::s) (τ+ω 8) e :=
 .one (by simp) (by
  unfold nx onward
  simp only [ats,T.kids,List.getElem?_cons_zero,Option.getD_some,List.drop_succ_cons,List.drop_zero]
  rw [if_pos (by rfl),if_neg (by exact fun z=>z ha),beh7 (by show 6<7; decide),pad_of (by show 1≤_; simp)]; rfl) ((ev_word (k:=8) (by rw [step_word,if_pos (by rfl),if_neg (by exact fun z=>z ha)])).trans rfl) g
theorem o_drops {as:List T} (g:Wo ω (.node t::cs,s) τ e):∀ {k:Nat},as.length=k→Wo ω (.node (tDrops k t)::cs,as++s) (τ+k * ω 1) e:=by
 intro k hk
 induction as generalizing k with
 | nil=>cases hk; exact g.to (by simp)
 | cons a as ih=>cases hk; exact (o_drop (ih rfl)).to (by rw [List.length_cons,Nat.succ_mul]; lia)
theorem o_laid {us:List T}{l:T}{w:T}{ts st:List T} (g:Wo ω (.node t::cs,.node (w::ts)::.node (l::st)::us) τ e):Wo ω (.node (tLaid t)::cs,l::w::.node ts::.node st::us) (τ+(4 * ω 6+2 * ω 4+ω 3)) e :=
 (o_turn (o_turn (o_front (o_turn (o_turn (o_front (o_swap g))))))).to (by lia)
theorem o_parted {us:List T}{l w:T}{ts st:List T} (g:Wo ω (.node t::cs,ats st 0::.node (st.drop 1)::.node (w::ts)::us) τ e):Wo ω (.node (tParted t)::cs,l::w::.node ts::.node st::us) (τ+(ω 1+ω 4+ω 3+ω 5)) e :=
 (o_drop (o_front (o_swap (o_part g)))).to (by lia)
theorem o_top {us:List T}{l w:T}{ts st:List T} (g:Wo ω (.node t::cs,ats st 0::.node (st.drop 1)::.node (w::ts)::l::us) τ e):Wo ω (.node (tTop t)::cs,l::w::.node ts::.node st::us) (τ+(3 * ω 6+ω 4+ω 5)) e :=
 (o_turn (o_turn (o_front (o_turn (o_part g))))).to (by lia)
def wkW (ω:Nat→Nat) (p:Nat):Nat→Nat
 | 1=>ω 1
 | 2=>ω 2+p * ω 13+ω 6+2 * ω 3+2 * ω 4
 | 3=>3 * ω 3+ω 5+ω 6+2 * ω 4
 | 4=>ω 3+ω 5+ω 6+2 * ω 4
 | 5=>ω 5+2 * ω 6+2 * ω 4+ω 3
 | 6=>4 * ω 3+2 * ω 5+2 * ω 6+3 * ω 4
 | _=>0
theorem o_worked {us:List T}{x:T}{st:List T}:∀ {k:Nat},1≤k→k≤6→Wo ω (.node t::cs,.node (didW k st)::x::us) τ e →
  Wo ω (.node (tWorked k++t)::cs,ats st 0::.node (st.drop 1)::x::us) (τ+wkW ω (ats st 0).parts k) e:=by
 intro k h1 h6 g
 rcases (by lia:k=1∨k=2∨k=3∨k=4∨k=5∨k=6) with rfl | rfl | rfl | rfl | rfl | rfl
 ·exact o_drop g
 ·exact (o_twin (o_turn (o_swap (o_front (o_swap (o_front g)))))).to (by show _=τ+(ω 2+(ats st 0).parts * ω 13+ω 6+2 * ω 3+2 * ω 4); lia)
 ·exact (o_swap (o_part (o_swap (o_turn (o_front (o_swap (o_front (by rw [List.drop_drop]; exact g)))))))).to (by show _=τ+(3 * ω 3+ω 5+ω 6+2 * ω 4); lia)
 ·refine (o_swap (o_part (o_turn (τ:=τ+ω 4+ω 4) ?_))).to (by show _=τ+(ω 3+ω 5+ω 6+2 * ω 4); lia)
  rw [show ats (st.drop 1) 0=.node (ats (st.drop 1) 0).kids from (kids_node _).symm]
  exact o_front (o_front (by rw [List.drop_drop]; exact g))
 ·rw [show ats st 0=.node (ats st 0).kids from (kids_node _).symm]
  exact (o_part (o_turn (o_turn (o_front (o_swap (o_front g)))))).to (by show _=τ+(ω 5+2 * ω 6+2 * ω 4+ω 3); lia)
 ·exact (o_swap (o_part (o_swap (o_part (o_swap (o_turn (o_front (o_turn (o_front (o_swap (o_front (by rw [List.drop_drop,List.drop_drop]; exact g)))))))))))).to (by show _=τ+(4 * ω 3+2 * ω 5+2 * ω 6+3 * ω 4); lia)
theorem o_shuts (k:Nat) (g:Wo ω (cs,s) τ e):Wo ω (List.replicate k (.node [])++cs,s) (τ+k * ω 12) e:=by
 induction k with
 | zero=>exact g.to (by simp)
 | succ k ih=>exact (o_shut ih).to (by rw [Nat.succ_mul]; lia)
theorem o_desc {fs:List T}{d:Nat}:∀ {as cs s:List T},Wo ω (.node (tSort d)::(List.replicate as.length (.node [])++cs),.node fs::(as.reverse++s)) τ e →
  Wo ω (.node (tSort (as.length+d))::cs,.node (as++fs)::s) (τ+as.length * (ω 7+ω 5+ω 3)) e:=by
 intro as
 induction as with
 | nil=>intro cs s g; rw [List.length_nil,Nat.zero_add,Nat.zero_mul]; exact g
 | cons a as ih =>
  intro cs s g
  have g':Wo ω (.node (tSort d)::(List.replicate as.length (.node [])++.node []::cs),.node fs::(as.reverse++a::s)) τ e:=by
   rw [rep_mid]
   rw [List.reverse_cons,List.append_assoc] at g
   exact g
  rw [List.length_cons,show as.length+1+d=as.length+d+1 by lia]
  exact (o_yes (yes:=W 5::W 3::tSort (as.length+d)) (a:=.node (a::(as++fs))) (by simp [T.kids]) (o_partc (o_swap (ih g')))).to (by rw [Nat.succ_mul]; lia)
theorem o_back:∀ {as fs s:List T},Wo ω (.node t::cs,.node (as.reverse++fs)::s) τ e→Wo ω (.node (tBack as.length t)::cs,.node fs::(as++s)) (τ+as.length * (ω 3+ω 4)) e:=by
 intro as
 induction as with
 | nil=>intro fs s g; exact g.to (by simp)
 | cons a as ih =>
  intro fs s g
  rw [List.reverse_cons,List.append_assoc] at g
  exact (o_swap (o_front (ih g))).to (by rw [List.length_cons,Nat.succ_mul]; lia)
def sortW (ω:Nat→Nat) (k p b:Nat) (full:Bool):Nat :=
 if k=0 then ω 8+ω 1+(4 * ω 6+2 * ω 4+ω 3)+2 * ω 12
 else if k≤6 then k * (ω 7+ω 5+ω 3)+ω 8+(k+1) * ω 1+(ω 1+ω 4+ω 3+ω 5)+wkW ω p k+ω 3+k * ω 12+2 * ω 12
 else if k=7 then 7 * (ω 7+ω 5+ω 3)+ω 8+8 * ω 1+(3 * ω 6+ω 4+ω 5)+(if full then ω 7+(2 * ω 4+2 * ω 3+ω 6+ω 5+ω 1) else ω 8+(2 * ω 4+ω 3+ω 6+ω 5+ω 1))+10 * ω 12
 else if k=8 then 8 * (ω 7+ω 5+ω 3)+ω 8+8 * (ω 3+ω 4)+ω 4+(3 * ω 6+ω 4+ω 5)+(if full then ω 7+(5 * ω 4+3 * ω 3+4 * ω 6+2 * ω 5+ω 2+b * ω 13) else ω 8+(ω 4+ω 6+ω 1+ω 3))+11 * ω 12
 else 8 * (ω 7+ω 5+ω 3)+ω 7+10 * ω 1+ω 4+10 * ω 12
theorem o_sort {us as l xs ts st:List T} (g:Wo ω (cs,.node (resT as l xs ts st).1::.node (resT as l xs ts st).2::us) τ e) :
  Wo ω (.node (tSort 8)::cs,.node as::.node l::.node xs::.node ts::.node st::us) (τ+sortW ω as.length (ats st 0).parts (T.node l).parts (decide ((ats st 0).kids≠[]))) e:=by
 unfold sortW
 by_cases h0:as.length=0
 ·have:as=[]:=List.length_eq_zero_iff.mp h0
  subst this
  rw [if_pos h0]
  have g:Wo ω (cs,.node (.node xs::ts)::.node (.node l::st)::us) τ e:=g
  exact (o_no rfl (o_drop (o_laid (o_shut (o_shut g))))).to (by lia)
 rw [resT,if_neg h0] at g
 rw [if_neg h0]
 by_cases h6:as.length≤6
 ·rw [if_pos h6] at g ⊢
  have g1:=o_shut (o_shut (o_shuts as.length g))
  have g2:=o_worked (k:=as.length) (by lia) h6 (o_swap g1)
  have g3:=o_drops (as:=.node []::as.reverse) (o_parted (l:=.node l) g2) (k:=as.length+1) (by rw [List.length_cons,List.length_reverse])
  have e8:tSort 8=tSort (as.length+(8 - as.length)):=by rw [show as.length+(8 - as.length)=8 by lia]
  rw [e8,show T.node as=T.node (as++[]) by rw [List.append_nil]]
  refine (o_desc (τ:=(τ+as.length * ω 12+ω 12+ω 12+ω 3+wkW ω (ats st 0).parts as.length+(ω 1+ω 4+ω 3+ω 5)+(as.length+1) * ω 1)+ω 8) ?_).to (by lia)
  have e9:tSort (8 - as.length)=[forkW (W 5::W 3::tSort (7 - as.length)) (tGone as.length)]:=by
   rw [show 8 - as.length=(7 - as.length)+1 by lia,tSort,show 7 - (7 - as.length)=as.length by lia]
  rw [e9]
  refine o_no rfl ?_
  rw [tGone,if_neg h0,if_neg (by lia)]
  exact g3
 rw [if_neg h6] at g ⊢
 by_cases h7:as.length=7
 ·rw [if_pos h7] at g ⊢
  have e8:tSort 8=tSort (as.length+1):=by rw [h7]
  have e9:tSort 1=[forkW (W 5::W 3::tSort 0) (tGone 7)]:=rfl
  by_cases ht:(ats st 0).kids≠[]
  ·rw [if_pos ht] at g
   rw [if_pos (decide_eq_true ht)]
   have g1:=o_shut (o_shut (o_shut (o_shuts as.length g)))
   rw [e8,show T.node as=T.node (as++[]) by rw [List.append_nil]]
   refine (o_desc (τ:=(τ+as.length * ω 12+ω 12+ω 12+ω 12+(2 * ω 4+2 * ω 3+ω 6+ω 5+ω 1)+ω 7+(3 * ω 6+ω 4+ω 5)+(7+1) * ω 1)+ω 8) ?_).to (by rw [h7]; lia)
   rw [e9]
   refine o_no rfl ?_
   rw [tGone,if_neg (by decide),if_pos rfl]
   exact (o_drops (as:=.node []::as.reverse) (o_top (o_yes ht (o_front (o_swap (o_turn (o_part (o_swap (o_drop (o_front g1))))))))) (k:=7+1) (by rw [List.length_cons,List.length_reverse,h7])).to (by lia)
  ·rw [if_neg ht] at g
   rw [if_neg (by rw [decide_eq_true_eq]; exact ht)]
   have g1:=o_shut (o_shut (o_shut (o_shuts as.length g)))
   rw [e8,show T.node as=T.node (as++[]) by rw [List.append_nil]]
   refine (o_desc (τ:=(τ+as.length * ω 12+ω 12+ω 12+ω 12+(2 * ω 4+ω 3+ω 6+ω 5+ω 1)+ω 8+(3 * ω 6+ω 4+ω 5)+(7+1) * ω 1)+ω 8) ?_).to (by rw [h7]; lia)
   rw [e9]
   refine o_no rfl ?_
   rw [tGone,if_neg (by decide),if_pos rfl]
   exact (o_drops (as:=.node []::as.reverse) (o_top (o_no (Classical.not_not.mp ht) (o_front (o_swap (o_turn (o_part (o_drop (o_front g1)))))))) (k:=7+1) (by rw [List.length_cons,List.length_reverse,h7])).to (by lia)
 rw [if_neg h7] at g ⊢
 by_cases h8:as.length=8
 ·rw [if_pos h8] at g ⊢
  have e8:tSort 8=tSort (as.length+0):=by rw [h8]
  have eb:tWhile=tBack as.reverse.length (W 4::tTop [forkW tBody tPast]):=by rw [List.length_reverse,h8]; rfl
  by_cases ht:(ats st 0).kids≠[]
  ·rw [if_pos ht] at g
   rw [if_pos (decide_eq_true ht)]
   have g1:=o_shut (o_shut (o_shut (o_shuts as.length g)))
   rw [e8,show T.node as=T.node (as++[]) by rw [List.append_nil]]
   refine (o_desc (τ:=(τ+as.length * ω 12+ω 12+ω 12+ω 12+(5 * ω 4+3 * ω 3+4 * ω 6+2 * ω 5+ω 2+(T.node l).parts * ω 13)+ω 7+(3 * ω 6+ω 4+ω 5)+ω 4+as.length * (ω 3+ω 4))+ω 8) ?_).to (by rw [h8]; lia)
   refine o_no rfl ?_
   rw [eb]
   refine (o_back (τ:=τ+as.length * ω 12+ω 12+ω 12+ω 12+(5 * ω 4+3 * ω 3+4 * ω 6+2 * ω 5+ω 2+(T.node l).parts * ω 13)+ω 7+(3 * ω 6+ω 4+ω 5)+ω 4) ?_).to (by rw [List.length_reverse])
   rw [List.reverse_reverse,List.append_nil]
   exact (o_front (o_top (o_yes ht (o_front (o_swap (o_turn (o_partc (o_swap (o_twin (o_turn (o_front (o_turn (o_partc (o_turn (o_front (o_front (o_swap (o_front g1)))))))))))))))))).to (by lia)
  ·rw [if_neg ht] at g
   rw [if_neg (by rw [decide_eq_true_eq]; exact ht)]
   have g1:=o_shut (o_shut (o_shut (o_shuts as.length g)))
   rw [e8,show T.node as=T.node (as++[]) by rw [List.append_nil]]
   refine (o_desc (τ:=(τ+as.length * ω 12+ω 12+ω 12+ω 12+(ω 4+ω 6+ω 1+ω 3)+ω 8+(3 * ω 6+ω 4+ω 5)+ω 4+as.length * (ω 3+ω 4))+ω 8) ?_).to (by rw [h8]; lia)
   refine o_no rfl ?_
   rw [eb]
   refine (o_back (τ:=τ+as.length * ω 12+ω 12+ω 12+ω 12+(ω 4+ω 6+ω 1+ω 3)+ω 8+(3 * ω 6+ω 4+ω 5)+ω 4) ?_).to (by rw [List.length_reverse])
   rw [List.reverse_reverse,List.append_nil]
   exact (o_front (o_top (o_no (Classical.not_not.mp ht) (o_front (o_turn (o_drop (o_swap g1))))))).to (by lia)
 ·rw [if_neg h8] at g ⊢
  have hl:(as.take 8).length=8:=by rw [List.length_take]; lia
  have g1:=o_shut (o_shut (o_shuts 8 g))
  have e8:tSort 8=tSort ((as.take 8).length+0):=by rw [hl]
  rw [e8,show T.node as=T.node (as.take 8++as.drop 8) by rw [List.take_append_drop]]
  refine (o_desc (τ:=(τ+8 * ω 12+ω 12+ω 12+ω 4+10 * ω 1)+ω 7) ?_).to (by rw [hl]; lia)
  rw [hl]
  refine o_yes ?_ ?_
  ·show as.drop 8≠[]
   intro z
   have:=congrArg List.length z
   rw [List.length_drop,List.length_nil] at this
   lia
  ·have:=o_drops (as:=.node (as.drop 8)::((as.take 8).reverse++[.node l])) (o_front g1) (k:=10) (by rw [List.length_cons,List.length_append,List.length_reverse,hl]; rfl)
   rw [List.cons_append,List.append_assoc] at this
   exact this
def turnW (ω:Nat→Nat):Nat→Nat
 | 0=>ω 1+ω 3+2 * ω 4+3 * ω 5+4 * ω 6+ω 7+ω 8+ω 9+3 * ω 12+1169 * ω 14
 | 1=>4 * ω 1+3 * ω 3+ω 4+5 * ω 5+2 * ω 7+ω 8+ω 9+4 * ω 12+1169 * ω 14
 | 2=>4 * ω 1+ω 2+6 * ω 3+3 * ω 4+6 * ω 5+ω 6+3 * ω 7+ω 8+ω 9+5 * ω 12+1169 * ω 14
 | 3=>5 * ω 1+8 * ω 3+3 * ω 4+8 * ω 5+ω 6+4 * ω 7+ω 8+ω 9+6 * ω 12+1169 * ω 14
 | 4=>6 * ω 1+7 * ω 3+3 * ω 4+9 * ω 5+ω 6+5 * ω 7+ω 8+ω 9+7 * ω 12+1169 * ω 14
 | 5=>7 * ω 1+8 * ω 3+3 * ω 4+10 * ω 5+2 * ω 6+6 * ω 7+ω 8+ω 9+8 * ω 12+1169 * ω 14
 | 6=>8 * ω 1+12 * ω 3+4 * ω 4+12 * ω 5+2 * ω 6+7 * ω 7+ω 8+ω 9+9 * ω 12+1169 * ω 14
 | 7=>9 * ω 1+9 * ω 3+3 * ω 4+12 * ω 5+4 * ω 6+9 * ω 7+ω 8+ω 9+11 * ω 12+1169 * ω 14
 | 8=>9 * ω 1+8 * ω 3+3 * ω 4+12 * ω 5+4 * ω 6+8 * ω 7+2 * ω 8+ω 9+11 * ω 12+1169 * ω 14
 | 9=>ω 2+19 * ω 3+15 * ω 4+14 * ω 5+7 * ω 6+10 * ω 7+ω 8+ω 9+12 * ω 12+1169 * ω 14
 | 10=>ω 1+17 * ω 3+11 * ω 4+12 * ω 5+4 * ω 6+9 * ω 7+2 * ω 8+ω 9+12 * ω 12+1169 * ω 14
 | 11=>10 * ω 1+8 * ω 3+ω 4+11 * ω 5+10 * ω 7+ω 9+11 * ω 12+1169 * ω 14
 | 12=>ω 1+ω 5+ω 8+ω 9+2 * ω 12+1169 * ω 14
 | 13=>ω 13
 | 14=>ω 13
 | _=>0
theorem step_parts:(T.node tStep).parts=1169:=by decide +kernel
theorem ev_hd {tx s:List T} (h:tx≠[]):evW ω (.node tHead::cs,.node tx::s)=ω 9+1169 * ω 14:=by
 rw [show tHead=wordT 8 tStep::[W 1,W 5,W 3,W 1] from rfl,ev_word (k:=9) (by rw [step_word,if_neg (by show 8≠7; decide),if_pos (by rfl),if_pos (by exact h)]),if_neg (by decide),if_pos rfl,show loadT (wordT 8 tStep)=.node tStep from rfl,step_parts]
 lia
theorem ev_past {s:List T}:evW ω (.node tHead::cs,.node []::s)=ω 10:=by
 rw [show tHead=wordT 8 tStep::[W 1,W 5,W 3,W 1] from rfl,ev_word (k:=10) (by rw [step_word,if_neg (by show 8≠7; decide),if_pos (by rfl),if_neg (by exact fun z=>z rfl)])]
 rfl
theorem ev_sort {as l xs ts st:List T}:evW (turnW ω) (.node (.node (.node as::l)::xs)::ts,st)=3 * ω 5+ω 7+sortW ω as.length (ats st 0).parts (T.node l).parts (decide ((ats st 0).kids≠[]))+ω 12+ω 9+1169 * ω 14:=by
 have hs:sortT (.node (.node as::l))=min 9 as.length:=rfl
 have hld:loadT (.node (.node as::l))=.node l:=rfl
 unfold sortW
 by_cases h0:as.length=0
 ·rw [if_pos h0,ev_word (k:=0) (by rw [step_word,hs,if_neg (by lia),if_neg (by lia),if_neg (by lia)]; lia)]
  show turnW ω 0+0+0=_
  simp only [turnW]; lia
 rw [if_neg h0]
 by_cases h6:as.length≤6
 ·rw [if_pos h6]
  rcases (by lia:as.length=1∨as.length=2∨as.length=3∨as.length=4∨as.length=5∨as.length=6) with hk | hk | hk | hk | hk | hk
  ·rw [hk,ev_word (k:=1) (by rw [step_word,hs,if_neg (by lia),if_neg (by lia),if_neg (by lia)]; lia)]
   show turnW ω 1+0+0=_
   simp only [turnW,wkW]; lia
  ·rw [hk,ev_word (k:=2) (by rw [step_word,hs,if_neg (by lia),if_neg (by lia),if_neg (by lia)]; lia)]
   show turnW ω 2+(ats st 0).parts * turnW ω 13+0=_
   rw [show turnW ω 13=ω 13 from rfl]
   simp only [turnW,wkW]; lia
  ·rw [hk,ev_word (k:=3) (by rw [step_word,hs,if_neg (by lia),if_neg (by lia),if_neg (by lia)]; lia)]
   show turnW ω 3+0+0=_
   simp only [turnW,wkW]; lia
  ·rw [hk,ev_word (k:=4) (by rw [step_word,hs,if_neg (by lia),if_neg (by lia),if_neg (by lia)]; lia)]
   show turnW ω 4+0+0=_
   simp only [turnW,wkW]; lia
  ·rw [hk,ev_word (k:=5) (by rw [step_word,hs,if_neg (by lia),if_neg (by lia),if_neg (by lia)]; lia)]
   show turnW ω 5+0+0=_
   simp only [turnW,wkW]; lia
  ·rw [hk,ev_word (k:=6) (by rw [step_word,hs,if_neg (by lia),if_neg (by lia),if_neg (by lia)]; lia)]
   show turnW ω 6+0+0=_
   simp only [turnW,wkW]; lia
 rw [if_neg h6]
 by_cases h7:as.length=7
 ·rw [if_pos h7]
  by_cases ht:(ats st 0).kids≠[]
  ·rw [if_pos (decide_eq_true ht),ev_word (k:=7) (by rw [step_word,hs,if_pos (by lia),if_pos ht])]
   show turnW ω 7+0+0=_
   simp only [turnW]; lia
  ·rw [if_neg (by rw [decide_eq_true_eq]; exact ht),ev_word (k:=8) (by rw [step_word,hs,if_pos (by lia),if_neg ht])]
   show turnW ω 8+0+0=_
   simp only [turnW]; lia
 rw [if_neg h7]
 by_cases h8:as.length=8
 ·rw [if_pos h8]
  by_cases ht:(ats st 0).kids≠[]
  ·rw [if_pos (decide_eq_true ht),ev_word (k:=9) (by rw [step_word,hs,if_neg (by lia),if_pos (by lia),if_pos ht]),hld]
   show turnW ω 9+0+(T.node l).parts * turnW ω 14=_
   rw [show turnW ω 14=ω 13 from rfl]
   simp only [turnW]; lia
  ·rw [if_neg (by rw [decide_eq_true_eq]; exact ht),ev_word (k:=10) (by rw [step_word,hs,if_neg (by lia),if_pos (by lia),if_neg ht])]
   show turnW ω 10+0+0=_
   simp only [turnW]; lia
 ·rw [if_neg h8,ev_word (k:=11) (by rw [step_word,hs,if_neg (by lia),if_neg (by lia),if_pos (by lia)])]
  show turnW ω 11+0+0=_
  simp only [turnW]; lia
theorem o_head {us tx st:List T} (h:tx≠[]) (g:Wo ω (.node tHead::cs,.node (onward tx st).1::.node (onward tx st).2.1::us) τ e) :
  Wo ω (.node tHead::cs,.node tx::.node st::us) (τ+evW (turnW ω) (tx,st)) e:=by
 match tx,h with
 | .node []::ts,h =>
  refine (Wo.one (by simp) (hd_in h) (ev_hd h) (o_partc (o_no rfl (o_drop (o_shut (o_shut g)))))).to ?_
  rw [show evW (turnW ω) (.node []::ts,st)=turnW ω 12 from rfl]
  simp only [turnW]; lia
 | .node (.node []::xs)::ts,h =>
  have hr:=res_none (s:=st) (xs:=xs) (ts:=ts)
  have g2:Wo ω (.node tHead::cs,.node (resT [] [] xs ts st).1::.node (resT [] [] xs ts st).2::us) τ e:=by rw [← hr]; exact g
  have g3:=o_sort (as:=[]) (l:=[]) (xs:=xs) (ts:=ts) (st:=st) (us:=us) (o_shut g2)
  refine (Wo.one (by simp) (hd_in h) (ev_hd h) (o_partc (o_yes (by simp [T.kids]) (o_partc (o_part g3))))).to ?_
  rw [ev_word (k:=0) (by rw [step_word]; rfl)]
  show _=τ+(turnW ω 0+0+0)
  unfold sortW
  rw [if_pos (by rfl)]
  simp only [turnW]
  lia
 | .node (.node (.node as::l)::xs)::ts,h =>
  have hr:=res_is (s:=st) (as:=as) (l:=l) (xs:=xs) (ts:=ts)
  have g2:Wo ω (.node tHead::cs,.node (resT as l xs ts st).1::.node (resT as l xs ts st).2::us) τ e:=by rw [← hr]; exact g
  have g3:=o_sort (as:=as) (l:=l) (xs:=xs) (ts:=ts) (st:=st) (us:=us) (o_shut g2)
  refine (Wo.one (by simp) (hd_in h) (ev_hd h) (o_partc (o_yes (by simp [T.kids]) (o_partc (o_partc g3))))).to ?_
  rw [ev_sort]
  lia
theorem o_heads {st e:Std} (h:Wo (turnW ω) st τ e):∀ {us cs:List T},e.1=[]→Wo ω (.node tHead::cs,.node st.1::.node st.2::us) (τ+(ω 10+2 * ω 1+ω 5+ω 3+ω 12)) (cs,ats e.2 0::us):=by
 induction h with
 | @nil st =>
  intro us cs he
  rw [he]
  exact (Wo.one (by simp) hd_past ev_past (o_drop (o_part (o_swap (o_drop (o_shut .nil)))))).to (by lia)
 | @cons st e τ h1 _ ih =>
  intro us cs he
  exact (o_head h1 (ih he)).to (by show _=τ+evW (turnW ω) (st.1,st.2)+_; lia)
def alwaysW (ω:Nat→Nat):Nat:=2 * ω 0+2 * ω 1+ω 3+2 * ω 4+2 * ω 5+2 * ω 6+ω 10+ω 12
theorem o_self {x:T}{its us cs s:List T} (h:Wo (turnW ω) ([x],[.node its]) τ ([],s)):Wo ω (.node tSelf::cs,.node (x::its)::us) (τ+alwaysW ω) (cs,ats s 0::us):=by
 have g:=o_heads (us:=us) (cs:=cs) h rfl
 exact (o_partc (o_lay (o_turn (o_front (o_lay (o_turn (o_front g))))))).to (by unfold alwaysW; lia)
end
def dotW (ω:Nat→Nat):Nat→List Nat→Nat
 | _,[]=>0
 | i,n::ns=>n * ω i+dotW ω (i+1) ns
theorem dot_add (ω:Nat→Nat):∀ (ns ms:List Nat) (i:Nat),ns.length=ms.length→dotW ω i (addT ns ms)=dotW ω i ns+dotW ω i ms
 | [],[],_,_=>rfl
 | n::ns,m::ms,i,h=>by
  have ih:=dot_add ω ns ms (i+1) (by simpa using h)
  show (n+m) * ω i+dotW ω (i+1) (addT ns ms)=n * ω i+dotW ω (i+1) ns+(m * ω i+dotW ω (i+1) ms)
  rw [ih,Nat.add_mul]
  lia
 | [],_::_,_,h=>by simp at h
 | _::_,[],_,h=>by simp at h
theorem dot_zero (ω:Nat→Nat):dotW ω 0 zero15=0:=by
 unfold zero15
 simp [dotW,List.replicate]
theorem dot_ev {ω:Nat→Nat}{tx s:List T}:dotW ω 0 (eventT tx s)=evW ω (tx,s):=by
 have h12:=step_le (tx:=tx) (s:=s)
 unfold eventT evW
 show _=ω (stepT tx s)+(if stepT tx s=2 then (ats s 0).parts * ω 13 else 0)+(if stepT tx s=9 then (loadT (ats (ats tx 0).kids 0)).parts * ω 14 else 0)
 generalize stepT tx s=k at *
 generalize (ats s 0).parts=p
 generalize (loadT (ats (ats tx 0).kids 0)).parts=b
 by_cases h2:k=2
 ·subst h2
  rw [if_pos rfl,if_pos rfl,if_neg (by decide)]
  simp [ev0,dotW,List.replicate,List.set]
 rw [if_neg h2,if_neg h2]
 by_cases h9:k=9
 ·subst h9
  rw [if_pos rfl,if_pos rfl]
  simp [ev0,dotW,List.replicate,List.set]
 rw [if_neg h9,if_neg h9]
 rcases (by lia:k=0∨k=1∨k=3∨k=4∨k=5∨k=6∨k=7∨k=8∨k=10∨k=11∨k=12) with rfl | rfl | rfl | rfl | rfl | rfl | rfl | rfl | rfl | rfl | rfl <;> simp [ev0,dotW,List.replicate,List.set]
theorem wo_tally {ω:Nat→Nat}{st e:Std}{τ:Nat} (g:Wo ω st τ e) (he:e.1=[]):∀ b,(goT b st.1 st.2).1=[]→dotW ω 0 (goT b st.1 st.2).2.2=τ∧(goT b st.1 st.2).2.1=e.2:=by
 induction g with
 | nil =>
  intro b _
  rw [go_stop (.inl he)]
  exact⟨dot_zero ω,rfl⟩
 | @cons st e τ h1 g ih =>
  intro b hb
  by_cases hc:costT st.1 st.2≤b
  ·rw [go_step h1 hc] at hb ⊢
   obtain⟨i1,i2⟩:=ih he (b - costT st.1 st.2) hb
   refine⟨?_,i2⟩
   show dotW ω 0 (addT _ _)=_
   rw [dot_add _ _ _ _ (by rw [ev_len,go_len]),dot_ev]
   have i1:dotW ω 0 (goT (b - costT st.1 st.2) (onward st.1 st.2).1 (onward st.1 st.2).2.1).2.2=τ:=i1
   rw [i1]
   show evW ω st+τ=τ+evW ω st
   lia
  ·rw [go_stop (.inr (by lia))] at hb
   exact absurd hb h1
def costW:Nat→Nat:=fun i=>if i=2∨i=14 then 0 else 1
theorem ev_costW {st:Std}:evW costW st=costT st.1 st.2:=by
 have h12:=step_le (tx:=st.1) (s:=st.2)
 unfold evW costT
 generalize stepT st.1 st.2=k at *
 by_cases h2:k=2
 ·subst h2
  rw [if_pos rfl,if_neg (by decide),if_pos rfl]
  show 0+_ * 1+0=_
  lia
 ·rw [if_neg h2,if_neg h2,show costW k=1 from if_neg (by lia)]
  split
  ·show 1+0+_ * 0=1; lia
  ·rfl
theorem wo_ends {st e:Std}{c:Nat} (g:Wo costW st c e) (he:e.1=[]):∀ b,c≤b→(goT b st.1 st.2).1=[]∧spT b st.1 st.2=c:=by
 induction g with
 | nil =>
  intro b _
  rw [go_stop (.inl he),sp_stop (.inl he)]
  exact⟨he,rfl⟩
 | @cons st e τ h1 g ih =>
  intro b hb
  rw [ev_costW] at hb ⊢
  rw [go_step h1 (by lia),sp_step h1 (by lia)]
  obtain⟨i1,i2⟩:=ih he (b - costT st.1 st.2) (by lia)
  exact⟨i1,by rw [show (onward st.1 st.2).1=(nx st).1 from rfl,show (onward st.1 st.2).2.1=(nx st).2 from rfl,i2]; lia⟩
end Sw
namespace Sw
theorem way_sane {D W n:Nat}{e:Std} (h4:4≤D) (hD:D≤280) (hW:W≤7900000) (k:∀ b,Sane b e.1 e.2):∀ {st:Std},Way D W st n e→∀ b,Sane b st.1 st.2:=by
 induction n with
 | zero=>intro st h b; rw [h.at]; exact k b
 | succ n ih =>
  intro st h b
  obtain⟨_,_,h'⟩:=h.step h4
  obtain⟨b1,b2⟩:=okSt_bx (tx:=st.1) (s:=st.2) (h.ok hD hW)
  exact .mk b1 b2 fun _ _=>ih h' _
end Sw
namespace Sw
end Sw
namespace Sw
end Sw
namespace Sw
section
variable {ω:Nat→Nat}{r cs us:List T}{e:Std}{τ:Nat}
theorem hd_form (r:List T):tHead++r=wordT 8 tStep::([W 1,W 5,W 3,W 1]++r):=rfl
theorem hd_inR {tx s:List T} (h:tx≠[]):nx (.node (tHead++r)::cs,.node tx::s)=(.node tStep::.node (tHead++r)::cs,.node tx::s):=by
 unfold nx
 rw [hd_form,onward_word,if_neg (by show 8≠7; decide),if_pos (by rfl),if_pos (by exact h),beh7 (by show 6<8; decide),pad_of (by show 1≤_; simp)]
 rfl
theorem hd_pastR {s:List T}:nx (.node (tHead++r)::cs,.node []::s)=(.node ([W 1,W 5,W 3,W 1]++r)::cs,.node []::s):=by
 unfold nx
 rw [hd_form,onward_word,if_neg (by show 8≠7; decide),if_pos (by rfl),if_neg (by exact fun z=>z rfl),beh7 (by show 6<8; decide),pad_of (by show 1≤_; simp)]
theorem ev_hdR {tx s:List T} (h:tx≠[]):evW ω (.node (tHead++r)::cs,.node tx::s)=ω 9+1169 * ω 14:=by
 rw [hd_form,ev_word (k:=9) (by rw [step_word,if_neg (by show 8≠7; decide),if_pos (by rfl),if_pos (by exact h)]),if_neg (by decide),if_pos rfl,show loadT (wordT 8 tStep)=.node tStep from rfl,step_parts]
 lia
theorem ev_pastR {s:List T}:evW ω (.node (tHead++r)::cs,.node []::s)=ω 10:=by
 rw [hd_form,ev_word (k:=10) (by rw [step_word,if_neg (by show 8≠7; decide),if_pos (by rfl),if_neg (by exact fun z=>z rfl)])]
 rfl
theorem o_headR {tx st:List T} (h:tx≠[]) (g:Wo ω (.node (tHead++r)::cs,.node (onward tx st).1::.node (onward tx st).2.1::us) τ e) :
  Wo ω (.node (tHead++r)::cs,.node tx::.node st::us) (τ+evW (turnW ω) (tx,st)) e:=by
 match tx,h with
 | .node []::ts,h =>
  refine (Wo.one (by simp) (hd_inR h) (ev_hdR h) (o_partc (o_no rfl (o_drop (o_shut (o_shut g)))))).to ?_
  rw [show evW (turnW ω) (.node []::ts,st)=turnW ω 12 from rfl]
  simp only [turnW]; lia
 | .node (.node []::xs)::ts,h =>
  have hr:=res_none (s:=st) (xs:=xs) (ts:=ts)
  have g2:Wo ω (.node (tHead++r)::cs,.node (resT [] [] xs ts st).1::.node (resT [] [] xs ts st).2::us) τ e:=by rw [← hr]; exact g
  have g3:=o_sort (as:=[]) (l:=[]) (xs:=xs) (ts:=ts) (st:=st) (us:=us) (o_shut g2)
  refine (Wo.one (by simp) (hd_inR h) (ev_hdR h) (o_partc (o_yes (by simp [T.kids]) (o_partc (o_part g3))))).to ?_
  rw [ev_word (k:=0) (by rw [step_word]; rfl)]
  show _=τ+(turnW ω 0+0+0)
  unfold sortW
  rw [if_pos (by rfl)]
  simp only [turnW]
  lia
 | .node (.node (.node as::l)::xs)::ts,h =>
  have hr:=res_is (s:=st) (as:=as) (l:=l) (xs:=xs) (ts:=ts)
  have g2:Wo ω (.node (tHead++r)::cs,.node (resT as l xs ts st).1::.node (resT as l xs ts st).2::us) τ e:=by rw [← hr]; exact g
  have g3:=o_sort (as:=as) (l:=l) (xs:=xs) (ts:=ts) (st:=st) (us:=us) (o_shut g2)
  refine (Wo.one (by simp) (hd_inR h) (ev_hdR h) (o_partc (o_yes (by simp [T.kids]) (o_partc (o_partc g3))))).to ?_
  rw [ev_sort]
  lia
theorem o_headsR {st e':Std}{υ:Nat} (h:Wo (turnW ω) st τ e'):∀ {us cs:List T},e'.1=[]→Wo ω (.node r::cs,ats e'.2 0::us) υ e→Wo ω (.node (tHead++r)::cs,.node st.1::.node st.2::us) (υ+(τ+(ω 10+2 * ω 1+ω 5+ω 3))) e:=by
 induction h with
 | @nil st =>
  intro us cs he g
  rw [he]
  exact (Wo.one (by simp) hd_pastR ev_pastR (o_drop (o_part (o_swap (o_drop g))))).to (by lia)
 | @cons st e' τ h1 _ ih =>
  intro us cs he g
  exact (o_headR h1 (ih he g)).to (by show _=υ+(τ+evW (turnW ω) (st.1,st.2)+_); lia)
theorem o_selfR {x:T}{its s:List T}{υ:Nat} (h:Wo (turnW ω) ([x],[.node its]) τ ([],s)) (g:Wo ω (.node r::cs,ats s 0::us) υ e) :
  Wo ω (.node (tSelf++r)::cs,.node (x::its)::us) (υ+(τ+(2 * ω 0+2 * ω 1+ω 3+2 * ω 4+2 * ω 5+2 * ω 6+ω 10))) e:=by
 have g':=o_headsR (us:=us) (cs:=cs) h rfl g
 exact (o_partc (o_lay (o_turn (o_front (o_lay (o_turn (o_front g'))))))).to (by lia)
end
def In (a w:Nat) (st:Std):Prop:=dpLe a st∧wt st≤w
def headR (r cs us:List T) (d:Std):Std:=(.node (tHead++r)::cs,.node d.1::.node d.2::us)
theorem step_way {top:T}{cs us tx st:List T} (h:tx≠[]):∃ n c,n≤110∧c≤110+extraT tx st ∧
  Wlk (.node tStep::top::cs,.node tx::.node st::us) n c (top::cs,.node (onward tx st).1::.node (onward tx st).2.1::us):=by
 match tx,h with
 | .node []::ts,_=>exact⟨5,5,by decide,by show 5≤110+0; decide,w_partc (w_no rfl (w_drop (w_shut (w_shut .nil))))⟩
 | .node (.node []::xs)::ts,_ =>
  have hr:=res_none (s:=st) (xs:=xs) (ts:=ts)
  obtain⟨m,d,hm,_,hd,g⟩:=w_sort (as:=[]) (l:=[]) (xs:=xs) (ts:=ts) (st:=st) (us:=us) (w_shut (Wlk.nil (st:=(top::cs,.node (resT [] [] xs ts st).1::.node (resT [] [] xs ts st).2::us))))
  rw [← hr] at g
  refine⟨0+1+m+4,0+1+d+4,by lia,by rw [if_neg (by decide),if_neg (by simp)] at hd; lia,?_⟩
  exact w_partc (w_yes (by simp [T.kids]) (w_partc (w_part g)))
 | .node (.node (.node as::l)::xs)::ts,_ =>
  have hr:=res_is (s:=st) (as:=as) (l:=l) (xs:=xs) (ts:=ts)
  obtain⟨m,d,hm,hlow,hd,g⟩:=w_sort (as:=as) (l:=l) (xs:=xs) (ts:=ts) (st:=st) (us:=us) (w_shut (Wlk.nil (st:=(top::cs,.node (resT as l xs ts st).1::.node (resT as l xs ts st).2::us))))
  rw [← hr] at g
  refine⟨0+1+m+4,0+1+d+4,by lia,?_,w_partc (w_yes (by simp [T.kids]) (w_partc (w_partc g)))⟩
  have hx:extraT (.node (.node (.node as::l)::xs)::ts) st=if as.length=2 then (ats st 0).parts else if as.length=8∧(ats st 0).kids≠[] then (T.node l).parts else 0:=by
   have hs:sortT (.node (.node as::l))=min 9 as.length:=rfl
   rw [show extraT (.node (.node (.node as::l)::xs)::ts) st=if sortT (.node (.node as::l))=2 then (ats st 0).parts else if sortT (.node (.node as::l))=8∧(ats st 0).kids≠[] then (loadT (.node (.node as::l))).parts else 0 from rfl,hs]
   by_cases h2:as.length=2
   ·rw [if_pos h2,if_pos (by lia)]
   ·rw [if_neg h2,if_neg (by lia)]
    by_cases h8:as.length=8
    ·by_cases ht:(ats st 0).kids≠[]
     ·rw [if_pos ⟨by lia,ht⟩,if_pos ⟨by lia,ht⟩]; rfl
     ·rw [if_neg (fun z=>ht z.2),if_neg (fun z=>ht z.2)]
    ·rw [if_neg (fun z=>h8 (by have:=z.1; lia)),if_neg (fun z=>h8 (by have:=z.1; lia))]
  rw [hx]
  by_cases h2:as.length=2
  ·rw [if_pos h2,if_neg (by lia)] at hd
   rw [if_pos h2]
   lia
  ·rw [if_neg h2] at hd
   rw [if_neg h2]
   lia
theorem wlk_sane {st e:Std}{n c a w:Nat} (g:Wlk st n c e) (h:In a w st) (h4:4≤a) (hn:n≤110) (ha:a≤280) (hw:w+3 * c≤7900000) (k:∀ b,Sane b e.1 e.2):∀ b,Sane b st.1 st.2 :=
 way_sane (D:=a) (W:=w+3 * c) h4 ha hw k ⟨c,g,hn,h.1.le (by lia),by have:=h.2; lia⟩
theorem okIn {st:Std}{a w:Nat} (h:In a w st) (ha:a≤390) (hw:w≤7900000):BX st.1∧B 390 8000000 (.node st.2):=okSt_of h.1 ha (Nat.le_trans h.2 hw)
theorem in_head {a w w1:Nat}{r cs us:List T}{d:Std} (hd:In a w d) (hc:In a w1 (.node (tHead++r)::cs,us)):In (a+1) (w+w1+2) (headR r cs us d):=by
 obtain⟨⟨h1,h2⟩,h3⟩:=hd
 obtain⟨⟨h4,h5⟩,h6⟩:=hc
 have h3:T.partsL d.1+T.partsL d.2≤w:=h3
 have h4:(T.node (.node (tHead++r)::cs)).deep≤a:=h4
 have h5:(T.node us).deep≤a:=h5
 have h6:T.partsL (.node (tHead++r)::cs)+T.partsL us≤w1:=h6
 rw [T.deep_node] at h5
 refine⟨⟨by show (T.node (.node (tHead++r)::cs)).deep≤a+1; lia,?_⟩,?_⟩
 ·show (T.node (.node d.1::.node d.2::us)).deep≤a+1
  rw [T.deep_node,T.deepL_cons,T.deepL_cons]; lia
 ·show T.partsL (.node (tHead++r)::cs)+T.partsL (.node d.1::.node d.2::us)≤_
  rw [T.partsL_cons (.node d.1),T.partsL_cons (.node d.2),T.parts_node,T.parts_node]; lia
theorem headsR_sane {r cs us:List T}{a w w1 X:Nat} (ha:a≤270) (h92:92≤a) (hX:w+w1+3 * X+3000≤7900000) (hc:In a w1 (.node (tHead++r)::cs,us)):∀ {N:Nat}{d:Std},(∀ i,i≤N→In a w (stN i d)∧extraT (stN i d).1 (stN i d).2≤X)→(stN N d).1=[] →
  (∀ i,i≤N→(stN i d).1=[]→∀ b,Sane b (.node r::cs) (ats (stN i d).2 0::us))→∀ b,Sane b (headR r cs us d).1 (headR r cs us d).2:=by
 have hsp:(T.node tStep).deep≤90:=hd_deep.1
 have hr:(T.node r).deep≤a:=by
  have:=hc.1.1
  have:(T.node (.node (tHead++r)::cs)).deep≤a:=this
  rw [T.deep_node,T.deepL_cons,T.deep_node,T.deepL_append] at this
  rw [T.deep_node]; lia
 have endw:∀ {d:Std},In a w d→d.1=[]→(∀ b,Sane b (.node r::cs) (ats d.2 0::us))→∀ b,Sane b (headR r cs us d).1 (headR r cs us d).2:=by
  intro d hd he k b
  have hi:=in_head hd hc
  obtain⟨b1,b2⟩:=okIn hi (by lia) (by lia)
  refine .mk b1 b2 fun _ _=>?_
  have en:nx (headR r cs us d)=(.node ([W 1,W 5,W 3,W 1]++r)::cs,.node []::.node d.2::us):=by
   show nx (.node (tHead++r)::cs,.node d.1::.node d.2::us)=_
   rw [he]; exact hd_pastR
  have g:Wlk (nx (headR r cs us d)) 4 4 (.node r::cs,ats d.2 0::us):=by
   rw [en]; exact w_drop (w_part (w_swap (w_drop .nil)))
  refine wlk_sane (a:=a+2) (w:=w+w1+200) g ?_ (by lia) (by lia) (by lia) (by lia) k _
  obtain⟨⟨q1,q2⟩,q3⟩:=hi
  have q1:(T.node (.node (tHead++r)::cs)).deep≤a+1:=q1
  have q2:(T.node (.node d.1::.node d.2::us)).deep≤a+1:=q2
  have q3:T.partsL (.node (tHead++r)::cs)+T.partsL (.node d.1::.node d.2::us)≤w+w1+2:=q3
  rw [he] at q2 q3
  have p4:T.partsL [W 1,W 5,W 3,W 1]≤20:=by decide +kernel
  have d4:T.deepL [W 1,W 5,W 3,W 1]≤10:=by decide +kernel
  rw [en]
  refine⟨⟨?_,by show (T.node (.node []::.node d.2::us)).deep≤a+2; lia⟩,?_⟩
  ·show (T.node (.node ([W 1,W 5,W 3,W 1]++r)::cs)).deep≤a+2
   rw [T.deep_node,T.deepL_cons,T.deep_node,T.deepL_append]
   rw [T.deep_node,T.deepL_cons,T.deep_node,T.deepL_append] at q1
   lia
  ·show T.partsL (.node ([W 1,W 5,W 3,W 1]++r)::cs)+T.partsL (.node []::.node d.2::us)≤_
   rw [T.partsL_cons (.node (tHead++r)),T.parts_node,T.partsL_append] at q3
   rw [T.partsL_cons (.node ([W 1,W 5,W 3,W 1]++r)),T.parts_node,T.partsL_append]
   lia
 intro N
 induction N with
 | zero =>
  intro d h he k
  exact endw (h 0 (Nat.le_refl _)).1 he (k 0 (Nat.le_refl _) he)
 | succ N ih =>
  intro d h he k b
  by_cases h1:d.1=[]
  ·exact endw (h 0 (Nat.zero_le _)).1 h1 (k 0 (Nat.zero_le _) h1) b
  ·obtain⟨hd,hx⟩:=h 0 (Nat.zero_le _)
   have hd:In a w d:=hd
   have hx:extraT d.1 d.2≤X:=hx
   have hi:=in_head hd hc
   obtain⟨b1,b2⟩:=okIn hi (by lia) (by lia)
   refine .mk b1 b2 fun _ _=>?_
   have en:nx (headR r cs us d)=(.node tStep::.node (tHead++r)::cs,.node d.1::.node d.2::us):=hd_inR h1
   obtain⟨n,c,hn,hcc,g⟩:=step_way (top:=.node (tHead++r)) (cs:=cs) (us:=us) (st:=d.2) h1
   rw [← en] at g
   refine wlk_sane (a:=a+2) (w:=w+w1+1200) g ?_ (by lia) hn (by lia) (by lia) (ih (d:=nx d) (fun i hi=>?_) ?_ (fun i hi=>?_)) _
   ·obtain⟨⟨q1,q2⟩,q3⟩:=hi
    have q1:(T.node (.node (tHead++r)::cs)).deep≤a+1:=q1
    have q2:(T.node (.node d.1::.node d.2::us)).deep≤a+1:=q2
    have q3:T.partsL (.node (tHead++r)::cs)+T.partsL (.node d.1::.node d.2::us)≤w+w1+2:=q3
    rw [en]
    refine⟨⟨?_,by show (T.node (.node d.1::.node d.2::us)).deep≤a+2; lia⟩,?_⟩
    ·show (T.node (.node tStep::.node (tHead++r)::cs)).deep≤a+2
     rw [T.deep_node,T.deepL_cons]
     rw [T.deep_node] at q1
     lia
    ·show T.partsL (.node tStep::.node (tHead++r)::cs)+T.partsL (.node d.1::.node d.2::us)≤_
     rw [T.partsL_cons (.node tStep),step_parts]
     lia
   ·have:=h (i+1) (by lia)
    rw [stN_succ] at this
    exact this
   ·rw [stN_succ] at he
    exact he
   ·have:=k (i+1) (by lia)
    rw [stN_succ] at this
    exact this
end Sw
namespace Sw
section
variable {ω:Nat→Nat}{t cs us:List T}{e:Std}{τ:Nat}
theorem o_maker {x:List T} (g:Wo ω (.node t::cs,.node (wordT 0 x::x)::us) τ e):Wo ω (.node (tMaker t)::cs,.node x::us) (τ+(ω 0+(ω 2+(T.node x).parts * ω 13)+2 * ω 4)) e :=
 (o_twin (o_lay (o_front (o_front g)))).to (by lia)
def knotW (ω:Nat→Nat):Nat:=3 * ω 0+ω 2+2 * ω 3+4 * ω 4
theorem o_knot {f s1 s2:List T}{x:T}{τ1 τ2:Nat} (h1:Wo (turnW ω) ([.node f],[.node (knotT f)]) τ1 ([],s1)) (h2:Wo (turnW ω) ([ats s1 0],[x]) τ2 ([],s2)) :
  ∃ υ,υ+ω 12=τ1+alwaysW ω+(τ2+alwaysW ω)+knotW ω+(T.node (bodyK f)).parts * ω 13∧Wo ω ([.node (knotT f)],[x]) υ ([],[ats s2 0]):=by
 rw [← kids_node x] at h2 ⊢
 have g2:=o_self (cs:=[]) (us:=[]) h2
 have g4:=o_selfR (r:=W 4::tSelf) (cs:=[]) (us:=[.node x.kids]) h1 (o_front g2)
 have g5:=o_lay (us:=bodyK f) (o_lay (us:=f) (o_swap (o_maker (o_swap (o_front g4)))))
 refine⟨_,?_,g5⟩
 unfold alwaysW knotW
 lia
end
theorem stN_end:∀ (k:Nat) {st:Std},st.1=[]→stN k st=st
 | 0,_,_=>rfl
 | k+1,st,h=>by
  rw [stN_succ,show nx st=st from ?_]
  ·exact stN_end k h
  ·obtain⟨tx,s⟩:=st
   have h:tx=[]:=h
   subst h
   rfl
theorem w_selfR {r cs us:List T}{x:T}{its:List T}:Wlk (.node (tSelf++r)::cs,.node (x::its)::us) 7 7 (headR r cs us ([x],[.node its])) :=
 w_partc (w_lay (w_turn (w_front (w_lay (w_turn (w_front .nil))))))
theorem self_small:(T.node (tSelf++(W 4::tSelf))).deep≤90∧(T.node (tSelf++(W 4::tSelf))).parts≤6000∧(T.node (tHead++(W 4::tSelf))).deep≤90∧(T.node (tHead++(W 4::tSelf))).parts≤6000∧(T.node (W 4::tSelf)).deep≤90∧(T.node (W 4::tSelf)).parts≤6000:=by decide +kernel
theorem In.mk1 {a w:Nat}{c s:List T} (h1:T.deepL c≤a) (h2:T.deepL s≤a) (h3:T.partsL c+T.partsL s≤w):In a w (c,s):=⟨⟨by show (T.node c).deep≤a; rw [T.deep_node]; exact h1,by show (T.node s).deep≤a; rw [T.deep_node]; exact h2⟩,h3⟩
end Sw
namespace Sw
section
variable {ω:Nat→Nat}{t cs us:List T}{e:Std}{τ:Nat}
theorem knot_saneD {f s1 s2:List T}{x:T}{N1 N2:Nat} (hk:B 200 200000 (.node (knotT f))) (hx:B 200 200000 x) (ht:B 259 1000000 (ats s1 0))
  (e1:stN N1 ([.node f],[.node (knotT f)])=([],s1)) (h1:∀ i,i≤N1→In 260 3900000 (stN i ([.node f],[.node (knotT f)]))∧extraT (stN i ([.node f],[.node (knotT f)])).1 (stN i ([.node f],[.node (knotT f)])).2≤1000000)
  (e2:stN N2 ([ats s1 0],[x])=([],s2)) (h2:∀ i,i≤N2→In 260 7000000 (stN i ([ats s1 0],[x]))∧extraT (stN i ([ats s1 0],[x])).1 (stN i ([ats s1 0],[x])).2≤250000) (hs2:B 259 3900000 (ats s2 0)):∀ b,Sane b [.node (knotT f)] [x]:=by
 obtain⟨u1,u2,u3,u4,u5,u6⟩:=self_small
 have hxd:=hx.1
 have hxp:=hx.2
 have htd:=ht.1
 have htp:=ht.2
 have hs2d:=hs2.1
 have hs2p:=hs2.2
 have k4:∀ b,Sane b [.node []] [ats s2 0]:=by
  intro b
  refine wlk_sane (a:=260) (w:=3900010) (w_shut .nil:Wlk ([.node []],[ats s2 0]) 1 1 ([],[ats s2 0])) ?_ (by decide) (by decide) (by decide) (by decide) ?_ b
  ·exact In.mk1 (by rw [T.deepL_cons,T.deepL_nil,T.deep_node,T.deepL_nil]; lia) (by rw [T.deepL_cons,T.deepL_nil]; lia) (by rw [T.partsL_cons,T.partsL_nil,T.parts_node,T.partsL_nil,T.partsL_cons,T.partsL_nil]; lia)
  ·intro b
   obtain⟨b1,b2⟩:=okIn (st:=([],[ats s2 0])) (a:=260) (w:=3900010) (In.mk1 (by rw [T.deepL_nil]; lia) (by rw [T.deepL_cons,T.deepL_nil]; lia) (by rw [T.partsL_nil,T.partsL_cons,T.partsL_nil]; lia)) (by decide) (by decide)
   exact .mk b1 b2 fun z=>absurd rfl z
 have stop:∀ {i N:Nat}{d:Std}{s:List T},i≤N→stN N d=([],s)→(stN i d).1=[]→(stN i d).2=s:=fun {i N d s} hi hN h0=>by
  have e:=stN_add i (N - i) d
  rw [show i+(N - i)=N by lia,hN,stN_end _ h0] at e
  rw [← e]
 have k3:∀ b,Sane b [.node (tHead++[])] [.node [ats s1 0],.node [x]]:=by
  refine headsR_sane (r:=[]) (cs:=[]) (us:=[]) (a:=260) (w:=7000000) (w1:=10000) (X:=250000) (by decide) (by decide) (by decide) ?_ (N:=N2) (d:=([ats s1 0],[x])) h2 (by rw [e2]) (fun i hi h0 b=>?_)
  ·have v1:(T.node tHead).deep≤90:=hd_deep.2
   have v2:=hd_parts
   rw [List.append_nil]
   exact In.mk1 (by rw [T.deepL_cons,T.deepL_nil]; lia) (by rw [T.deepL_nil]; lia) (by rw [T.partsL_cons,T.partsL_nil]; lia)
  ·rw [stop hi e2 h0]; exact k4 b
 have k2:∀ b,Sane b [.node (W 4::tSelf)] [ats s1 0,x]:=by
  intro b
  have g:Wlk ([.node (W 4::tSelf)],[ats s1 0,.node x.kids]) 8 8 (headR [] [] [] ([ats s1 0],[.node x.kids])):=by
   have:=w_selfR (r:=[]) (cs:=[]) (us:=[]) (x:=ats s1 0) (its:=x.kids)
   rw [List.append_nil] at this
   exact w_front this
  rw [kids_node] at g
  refine wlk_sane (a:=261) (w:=1300000) g ?_ (by decide) (by decide) (by decide) (by decide) k3 b
  exact In.mk1 (by rw [T.deepL_cons,T.deepL_nil]; lia) (by rw [T.deepL_cons,T.deepL_cons,T.deepL_nil]; lia) (by rw [T.partsL_cons,T.partsL_nil,T.partsL_cons,T.partsL_cons,T.partsL_nil]; lia)
 have k1:∀ b,Sane b [.node (tHead++(W 4::tSelf))] [.node [.node f],.node [.node (knotT f)],x]:=by
  refine headsR_sane (r:=W 4::tSelf) (cs:=[]) (us:=[x]) (a:=260) (w:=3900000) (w1:=300000) (X:=1000000) (by decide) (by decide) (by decide) ?_ (N:=N1) (d:=([.node f],[.node (knotT f)])) h1 (by rw [e1]) (fun i hi h0 b=>?_)
  ·exact In.mk1 (by rw [T.deepL_cons,T.deepL_nil]; lia) (by rw [T.deepL_cons,T.deepL_nil]; lia) (by rw [T.partsL_cons,T.partsL_nil,T.partsL_cons,T.partsL_nil]; lia)
  ·rw [stop hi e1 h0]; exact k2 b
 intro b
 have hkd:=hk.1
 have hkp:=hk.2
 have hb:(T.node (bodyK f)).parts≤200000:=by
  have e:(T.node (knotT f)).parts=1+(wordT 0 (bodyK f)).parts+T.partsL (bodyK f):=by unfold knotT; rw [T.parts_node,T.partsL_cons]; lia
  rw [T.parts_node (bodyK f)]
  have:=T.parts_pos (wordT 0 (bodyK f))
  lia
 have g:Wlk ([.node (knotT f)],[x]) 16 (15+(T.node (bodyK f)).parts) (headR (W 4::tSelf) [] [x] ([.node f],[.node (knotT f)])) :=
  (w_lay (us:=bodyK f) (w_lay (us:=f) (w_swap (w_maker (w_swap (w_front (w_selfR (r:=W 4::tSelf) (cs:=[]) (us:=[x]) (x:=.node f) (its:=knotT f)))))))).to rfl (by lia)
 refine wlk_sane (a:=260) (w:=500000) g ?_ (by decide) (by decide) (by decide) (by lia) k1 b
 exact In.mk1 (by rw [T.deepL_cons,T.deepL_nil]; lia) (by rw [T.deepL_cons,T.deepL_nil]; lia) (by rw [T.partsL_cons,T.partsL_nil,T.partsL_cons,T.partsL_nil]; lia)
end
end Sw
namespace Sw
end Sw
namespace Sw
theorem both_partsJ:T.partsL tBoth≤2600∧T.deepL tBoth≤90:=by decide +kernel
theorem B_knotJ {f:List T} (h:B 60 4400 (.node f)):B 99 15000 (.node (knotT f))∧(T.node (bodyK f)).parts≤7200:=by
 obtain⟨h1,h2⟩:=h
 obtain⟨p1,p2⟩:=both_partsJ
 have e:=body_parts f
 rw [T.deep_node] at h1
 rw [T.parts_node] at h2 e
 have hd:T.deepL (bodyK f)≤91:=by
  unfold bodyK wordT leavesT
  rw [T.deepL_cons,T.deep_node,T.deepL_cons,List.replicate_zero,T.deep_node,T.deepL_nil]
  lia
 refine⟨⟨?_,?_⟩,by rw [T.parts_node]; lia⟩
 ·unfold knotT wordT leavesT
  rw [T.deep_node,T.deepL_cons,T.deep_node,T.deepL_cons,List.replicate_zero,T.deep_node,T.deepL_nil]
  lia
 ·unfold knotT wordT leavesT
  rw [T.parts_node,T.partsL_cons,T.parts_node,T.partsL_cons,List.replicate_zero,T.parts_node,T.partsL_nil]
  lia
end Sw
namespace Sw
end Sw
namespace Sw
section
variable {t cs us:List T}{n c:Nat}{e:Std}
end
end Sw
namespace Sw
section
variable {g f h:List T}{x:T}
end
end Sw
namespace Sw
def Rch (a w N:Nat) (st e:Std):Prop:=stN N st=e∧∀ i,i≤N→In a w (stN i st)
theorem Rch.trans {a w N M:Nat}{st e f:Std} (h:Rch a w N st e) (g:Rch a w M e f):Rch a w (N+M) st f:=by
 refine⟨by rw [stN_add,h.1,g.1],fun i hi=>?_⟩
 by_cases c:i≤N
 ·exact h.2 i c
 ·have:=g.2 (i - N) (by lia)
  rw [← h.1,← stN_add,show N+(i - N)=i by lia] at this
  exact this
theorem Rch.one {a w:Nat}{st e:Std} (h:In a w st) (g:In a w e) (hn:nx st=e):Rch a w 1 st e:=⟨by show nx st=e; exact hn,fun i hi=>by
 rcases (by lia:i=0∨i=1) with rfl | rfl
 ·exact h
 ·show In a w (nx st); rw [hn]; exact g⟩
theorem rch_wlk {a' w':Nat}{st e:Std}{n c:Nat} (g:Wlk st n c e):∀ a w,In a w st→4≤a→a+n≤a'→w+3 * c≤w'→Rch a' w' n st e:=by
 induction g with
 | nil=>intro a w h _ h1 h2; exact⟨rfl,fun i hi=>by rw [show i=0 by lia]; exact⟨h.1.le (by lia),Nat.le_trans h.2 (by lia)⟩⟩
 | @cons st e n c h1 h2 g ih =>
  intro a w hi h4 ha hw
  have w2:=wt_nx h2
  have d:=dp1_nx h4 hi.1
  have hw2:=hi.2
  obtain⟨q1,q2⟩:=ih (a+1) (w+3 * costS st) ⟨d,by lia⟩ (by lia) (by lia) (by lia)
  refine⟨by rw [stN_succ]; exact q1,fun i hi'=>?_⟩
  cases i with
  | zero=>exact⟨hi.1.le (by lia),Nat.le_trans hi.2 (by lia)⟩
  | succ i=>rw [stN_succ]; exact q2 i (by lia)
theorem rch_le {a w a' w' N:Nat}{st e:Std} (h:Rch a w N st e) (ha:a≤a') (hw:w≤w'):Rch a' w' N st e:=⟨h.1,fun i hi=>⟨(h.2 i hi).1.le ha,Nat.le_trans (h.2 i hi).2 hw⟩⟩
end Sw
namespace Sw
inductive MT where
 | mark | node (ms:List MT)
namespace MT
mutual
def fill (q:T):MT→T
 | .mark=>q
 | .node ms=>.node (fillL q ms)
def fillL (q:T):List MT→List T
 | []=>[]
 | m::ms=>fill q m::fillL q ms
end
mutual
def free:MT→Bool
 | .mark=>false
 | .node ms=>freeL ms
def freeL:List MT→Bool
 | []=>true
 | m::ms=>free m && freeL ms
end
mutual
def bld:MT→List T
 | .mark=>[W 2]
 | .node ms=>if freeL ms then [wordT 0 (fillL leaf ms),W 3] else wordT 0 []::W 3::bldR ms
def bldR:List MT→List T
 | []=>[]
 | m::ms=>bldR ms++(bld m++[W 6,W 6,W 4,W 3])
end
mutual
theorem fill_free (q q':T):∀ m:MT,free m=true→fill q m=fill q' m
 | .mark,h=>by rw [free] at h; cases h
 | .node ms,h=>by rw [fill,fill,fill_freeL q q' ms (by rw [free] at h; exact h)]
theorem fill_freeL (q q':T):∀ ms:List MT,freeL ms=true→fillL q ms=fillL q' ms
 | [],_=>by rw [fillL,fillL]
 | m::ms,h=>by
  rw [freeL,Bool.and_eq_true] at h
  rw [fillL,fillL,fill_free q q' m h.1,fill_freeL q q' ms h.2]
end
def step4 (ω:Nat→Nat):Nat:=2 * ω 6+ω 4+ω 3
mutual
def bldW (ω:Nat→Nat) (q:T):MT→Nat
 | .mark=>ω 2+q.parts * ω 13
 | .node ms=>if freeL ms then ω 0+ω 3 else ω 0+ω 3+bldWR ω q ms
def bldWR (ω:Nat→Nat) (q:T):List MT→Nat
 | []=>0
 | m::ms=>bldWR ω q ms+(bldW ω q m+step4 ω)
end
mutual
theorem o_bld {ω:Nat→Nat} (q:T):∀ (m:MT) (r cs s:List T) (τ:Nat) (e:Std),Wo ω (.node r::cs,q::fill q m::s) τ e→Wo ω (.node (bld m++r)::cs,q::s) (τ+bldW ω q m) e
 | .mark,r,cs,s,τ,e,g=>by
  rw [bld,bldW]
  rw [fill] at g
  exact o_twin g
 | .node ms,r,cs,s,τ,e,g=>by
  rw [bld,bldW]
  rw [fill] at g
  by_cases h:freeL ms=true
  ·rw [if_pos h,if_pos h]
   rw [fill_freeL q leaf ms h] at g
   exact (o_lay (us:=fillL leaf ms) (o_swap g)).to (by lia)
  ·rw [if_neg h,if_neg h]
   have g':=o_bldR q ms r cs s [] τ e (by rw [List.append_nil]; exact g)
   exact (o_lay (us:=[]) (o_swap g')).to (by lia)
theorem o_bldR {ω:Nat→Nat} (q:T):∀ (ms:List MT) (r cs s acc:List T) (τ:Nat) (e:Std),Wo ω (.node r::cs,q::.node (fillL q ms++acc)::s) τ e→Wo ω (.node (bldR ms++r)::cs,q::.node acc::s) (τ+bldWR ω q ms) e
 | [],r,cs,s,acc,τ,e,g=>by
  rw [bldR,bldWR]
  rw [fillL] at g
  exact g
 | m::ms,r,cs,s,acc,τ,e,g=>by
  rw [bldR,bldWR,List.append_assoc]
  rw [fillL] at g
  have g1:Wo ω (.node ([W 6,W 6,W 4,W 3]++r)::cs,q::fill q m::.node (fillL q ms++acc)::s) (τ+step4 ω) e:=(o_turn (o_turn (o_front (o_swap g)))).to (by unfold step4; lia)
  have g2:=o_bld q m ([W 6,W 6,W 4,W 3]++r) cs (.node (fillL q ms++acc)::s) (τ+step4 ω) e g1
  exact (o_bldR q ms (bld m++[W 6,W 6,W 4,W 3]++r) cs s acc _ e (by rw [List.append_assoc]; exact g2)).to (by lia)
end
def mkr (m:MT):List T:=bld m++[W 1,wordT 0 [],W 4,wordT 0 [],W 3,W 4,wordT 0 [leavesT 1],W 4]
theorem o_mkr {ω:Nat→Nat} (q:T) (ms:List MT):Wo ω ([.node (mkr (.node ms))],[q]) (bldW ω q (.node ms)+(ω 1+3 * ω 0+ω 3+3 * ω 4+ω 12)) ([],[.node [W 1,wordT 0 (fillL q ms)]]):=by
 have g:Wo ω ([.node [W 1,wordT 0 [],W 4,wordT 0 [],W 3,W 4,wordT 0 [leavesT 1],W 4]],[q,.node (fillL q ms)]) (ω 1+3 * ω 0+ω 3+3 * ω 4+ω 12) ([],[.node [W 1,wordT 0 (fillL q ms)]]) :=
  (o_drop (o_lay (us:=[]) (o_front (a:=.node []) (b:=fillL q ms) (o_lay (us:=[]) (o_swap (o_front (a:=wordT 0 (fillL q ms)) (b:=[]) (o_lay (us:=[leavesT 1]) (o_front (a:=W 1) (b:=[wordT 0 (fillL q ms)]) (o_shut .nil))))))))).to (by lia)
 have g':=o_bld q (.node ms) [W 1,wordT 0 [],W 4,wordT 0 [],W 3,W 4,wordT 0 [leavesT 1],W 4] [] [] _ _ (by rw [fill]; exact g)
 exact g'.to (by lia)
theorem o_made {ω:Nat→Nat}{x:T}{F:List T}:Wo ω ([.node [W 1,wordT 0 F]],[x]) (ω 1+ω 0+ω 12) ([],[.node F]):=(o_drop (o_lay (us:=F) (o_shut .nil))).to (by lia)
end MT
end Sw
namespace Sw
namespace MT
mutual
def cnt:MT→Nat
 | .mark=>1
 | .node ms=>1+cntL ms
def cntL:List MT→Nat
 | []=>0
 | m::ms=>cnt m+cntL ms
end
mutual
def mks:MT→Nat
 | .mark=>1
 | .node ms=>mksL ms
def mksL:List MT→Nat
 | []=>0
 | m::ms=>mks m+mksL ms
end
mutual
def dep:MT→Nat
 | .mark=>0
 | .node ms=>depL ms
def depL:List MT→Nat
 | []=>0
 | m::ms=>max (dep m+1) (depL ms)
end
mutual
theorem fill_parts (q:T):∀ m:MT,(fill q m).parts≤cnt m+mks m * q.parts
 | .mark=>by rw [fill,cnt,mks]; lia
 | .node ms=>by rw [fill,cnt,mks,T.parts_node]; have:=fillL_parts q ms; lia
theorem fillL_parts (q:T):∀ ms:List MT,T.partsL (fillL q ms)≤cntL ms+mksL ms * q.parts
 | []=>by rw [fillL,T.partsL_nil]; lia
 | m::ms=>by rw [fillL,cntL,mksL,T.partsL_cons,Nat.add_mul]; have:=fill_parts q m; have:=fillL_parts q ms; lia
end
mutual
theorem fill_deep (q:T):∀ m:MT,(fill q m).deep≤dep m+q.deep
 | .mark=>by rw [fill,dep]; lia
 | .node ms=>by rw [fill,dep,T.deep_node]; exact fillL_deep q ms
theorem fillL_deep (q:T):∀ ms:List MT,T.deepL (fillL q ms)≤depL ms+q.deep
 | []=>by rw [fillL,T.deepL_nil]; lia
 | m::ms=>by rw [fillL,depL,T.deepL_cons]; have:=fill_deep q m; have:=fillL_deep q ms; lia
end
mutual
theorem leaf_parts:∀ m:MT,(fill leaf m).parts=cnt m
 | .mark=>by rw [fill,cnt]; rfl
 | .node ms=>by rw [fill,cnt,T.parts_node,leafL_parts ms]
theorem leafL_parts:∀ ms:List MT,T.partsL (fillL leaf ms)=cntL ms
 | []=>by rw [fillL,cntL,T.partsL_nil]
 | m::ms=>by rw [fillL,cntL,T.partsL_cons,leaf_parts m,leafL_parts ms]
end
theorem lay_parts (us:List T):(wordT 0 us).parts=2+T.partsL us:=by
 unfold wordT leavesT
 rw [T.parts_node,T.partsL_cons,List.replicate_zero,T.parts_node,T.partsL_nil]
 lia
theorem lay_deep (us:List T):(wordT 0 us).deep=max 1 (T.deepL us):=by
 unfold wordT leavesT
 rw [T.deep_node,T.deepL_cons,List.replicate_zero,T.deep_node,T.deepL_nil]
theorem wn_parts:(W 1).parts=3∧(W 2).parts=4∧(W 3).parts=5∧(W 4).parts=6∧(W 6).parts=8∧(wordT 0 [leavesT 1]).parts=4:=by decide
theorem wn_deep:(W 1).deep=2∧(W 2).deep=2∧(W 3).deep=2∧(W 4).deep=2∧(W 6).deep=2∧(wordT 0 [leavesT 1]).deep=2:=by decide
mutual
theorem bld_parts:∀ m:MT,T.partsL (bld m)+27≤40 * cnt m
 | .mark=>by
  obtain⟨_,w2,_⟩:=wn_parts
  rw [bld,cnt,T.partsL_cons,T.partsL_nil]
  lia
 | .node ms=>by
  obtain⟨_,_,w3,_⟩:=wn_parts
  have h1:=leafL_parts ms
  have h2:=bldR_parts ms
  rw [bld,cnt]
  by_cases h:freeL ms=true
  ·rw [if_pos h,T.partsL_cons,T.partsL_cons,T.partsL_nil,lay_parts]
   lia
  ·rw [if_neg h,T.partsL_cons,T.partsL_cons,lay_parts,T.partsL_nil]
   lia
theorem bldR_parts:∀ ms:List MT,T.partsL (bldR ms)≤40 * cntL ms
 | []=>by rw [bldR,T.partsL_nil]; lia
 | m::ms=>by
  obtain⟨_,_,w3,w4,w6,_⟩:=wn_parts
  have h1:=bld_parts m
  have h2:=bldR_parts ms
  rw [bldR,cntL,T.partsL_append,T.partsL_append,T.partsL_cons,T.partsL_cons,T.partsL_cons,T.partsL_cons,T.partsL_nil]
  lia
end
mutual
theorem bld_deep:∀ m:MT,T.deepL (bld m)≤dep m+4
 | .mark=>by
  obtain⟨_,w2,_⟩:=wn_deep
  rw [bld,dep,T.deepL_cons,T.deepL_nil]
  lia
 | .node ms=>by
  obtain⟨_,_,w3,_⟩:=wn_deep
  have h1:=fillL_deep leaf ms
  have h2:=bldR_deep ms
  have h3:leaf.deep=0:=by decide
  rw [bld,dep]
  by_cases h:freeL ms=true
  ·rw [if_pos h,T.deepL_cons,T.deepL_cons,T.deepL_nil,lay_deep]
   lia
  ·rw [if_neg h,T.deepL_cons,T.deepL_cons,lay_deep,T.deepL_nil]
   lia
theorem bldR_deep:∀ ms:List MT,T.deepL (bldR ms)≤depL ms+3
 | []=>by rw [bldR,T.deepL_nil]; lia
 | m::ms=>by
  obtain⟨_,_,w3,w4,w6,_⟩:=wn_deep
  have h1:=bld_deep m
  have h2:=bldR_deep ms
  rw [bldR,depL,T.deepL_append,T.deepL_append,T.deepL_cons,T.deepL_cons,T.deepL_cons,T.deepL_cons,T.deepL_nil]
  lia
end
section
variable {ω:Nat→Nat} (h0:ω 0≤120) (h2:ω 2≤120) (h3:ω 3≤120) (h4:ω 4≤120) (h6:ω 6≤120) (q:T)
include h0 h2 h3 h4 h6
mutual
theorem bldW_le:∀ m:MT,bldW ω q m+480≤720 * cnt m+mks m * (q.parts * ω 13)
 | .mark=>by rw [bldW,cnt,mks]; lia
 | .node ms=>by
  have:=bldWR_le ms
  rw [bldW,cnt,mks]
  split <;> lia
theorem bldWR_le:∀ ms:List MT,bldWR ω q ms≤720 * cntL ms+mksL ms * (q.parts * ω 13)
 | []=>by rw [bldWR]; lia
 | m::ms=>by
  have:=bldWR_le ms
  have:=bldW_le m
  rw [bldWR,cntL,mksL,Nat.add_mul]
  unfold step4
  lia
end
end
def Fit (a w:Nat) (r s:List T):Prop:=T.deepL r+1≤a∧T.deepL s≤a∧T.partsL r+1+T.partsL s≤w
theorem Fit.into {a w:Nat}{r s:List T} (h:Fit a w r s):In a w ([.node r],s):=by
 obtain⟨h1,h2,h3⟩:=h
 exact In.mk1 (by rw [T.deepL_cons,T.deepL_nil,T.deep_node]; lia) h2 (by rw [T.partsL_cons,T.partsL_nil,T.parts_node]; lia)
theorem wlk_stH {st e:Std}{n c:Nat} (g:Wlk st n c e):stN n st=e:=by
 induction g with
 | nil=>rfl
 | cons _ _ _ ih=>rw [stN_succ]; exact ih
theorem r_one {a w c:Nat}{r r' s s':List T} (g:Wlk ([.node r],s) 1 c ([.node r'],s')) (h:Fit a w r s) (h':Fit a w r' s'):Rch a w 1 ([.node r],s) ([.node r'],s') :=
 Rch.one h.into h'.into (wlk_stH g)
theorem r_four {a w:Nat}{q u:T}{acc r s:List T} (h:Fit a w (W 6::W 6::W 4::W 3::r) (q::.node (u::acc)::s)):Rch a w 4 ([.node (W 6::W 6::W 4::W 3::r)],q::u::.node acc::s) ([.node r],q::.node (u::acc)::s):=by
 obtain⟨h1,h2,h3⟩:=h
 simp only [T.deepL_cons,T.deep_node] at h1 h2
 simp only [T.partsL_cons,T.parts_node] at h3
 have f0:Fit a w (W 6::W 6::W 4::W 3::r) (q::u::.node acc::s):=⟨by simp only [T.deepL_cons]; lia,by simp only [T.deepL_cons,T.deep_node]; lia,by simp only [T.partsL_cons,T.parts_node]; lia⟩
 have f1:Fit a w (W 6::W 4::W 3::r) (.node acc::q::u::s):=⟨by simp only [T.deepL_cons]; lia,by simp only [T.deepL_cons,T.deep_node]; lia,by simp only [T.partsL_cons,T.parts_node]; lia⟩
 have f2:Fit a w (W 4::W 3::r) (u::.node acc::q::s):=⟨by simp only [T.deepL_cons]; lia,by simp only [T.deepL_cons,T.deep_node]; lia,by simp only [T.partsL_cons,T.parts_node]; lia⟩
 have f3:Fit a w (W 3::r) (.node (u::acc)::q::s):=⟨by simp only [T.deepL_cons]; lia,by simp only [T.deepL_cons,T.deep_node]; lia,by simp only [T.partsL_cons,T.parts_node]; lia⟩
 have f4:Fit a w r (q::.node (u::acc)::s):=⟨by lia,by simp only [T.deepL_cons,T.deep_node]; lia,by simp only [T.partsL_cons,T.parts_node]; lia⟩
 exact (((r_one (w_turn .nil) f0 f1).trans (r_one (w_turn .nil) f1 f2)).trans (r_one (w_front .nil) f2 f3)).trans (r_one (w_swap .nil) f3 f4)
section
variable {a w:Nat} (q:T)
mutual
theorem r_bld:∀ (m:MT) (r s:List T),Fit a w (bld m++r) (q::fill q m::s)→∃ N,Rch a w N ([.node (bld m++r)],q::s) ([.node r],q::fill q m::s)
 | .mark,r,s,h=>by
  rw [bld,fill] at h ⊢
  obtain⟨h1,h2,h3⟩:=h
  simp only [List.cons_append,List.nil_append,T.deepL_cons,T.deepL_nil,T.partsL_cons,T.partsL_nil] at h1 h2 h3
  exact⟨1,r_one (w_twin .nil) ⟨by simp only [List.cons_append,List.nil_append,T.deepL_cons]; lia,by simp only [T.deepL_cons]; lia,by simp only [List.cons_append,List.nil_append,T.partsL_cons]; lia⟩ ⟨by lia,by simp only [T.deepL_cons]; lia,by simp only [T.partsL_cons]; lia⟩⟩
 | .node ms,r,s,h=>by
  rw [bld,fill] at h ⊢
  by_cases hf:freeL ms=true
  ·rw [if_pos hf] at h ⊢
   obtain⟨h1,h2,h3⟩:=h
   rw [fill_freeL q leaf ms hf] at h2 h3 ⊢
   have l1:=lay_parts (fillL leaf ms)
   have l2:=lay_deep (fillL leaf ms)
   simp only [List.cons_append,List.nil_append,T.deepL_cons,T.deepL_nil,T.partsL_cons,T.partsL_nil,T.deep_node,T.parts_node] at h1 h2 h3
   refine⟨_,(r_one (r':=W 3::r) (s':=.node (fillL leaf ms)::q::s) (w_lay .nil) ?_ ?_).trans (r_one (w_swap .nil) ?_ ?_)⟩ <;>
   exact⟨by (try simp only [List.cons_append,List.nil_append,T.deepL_cons]); lia,by simp only [T.deepL_cons,T.deep_node]; lia,by simp only [List.cons_append,List.nil_append,T.partsL_cons,T.parts_node]; lia⟩
  ·rw [if_neg hf] at h ⊢
   obtain⟨h1,h2,h3⟩:=h
   have l1:=lay_parts []
   have l2:=lay_deep []
   rw [T.partsL_nil] at l1
   rw [T.deepL_nil] at l2
   have hr:=r_bldR ms r s [] ⟨by simp only [List.cons_append,List.nil_append,T.deepL_cons] at h1; lia,by rw [List.append_nil]; exact h2,by simp only [List.cons_append,List.nil_append,T.partsL_cons] at h3; rw [List.append_nil]; simp only [T.partsL_cons]; lia⟩
   obtain⟨N,hr⟩:=hr
   rw [List.append_nil] at hr
   simp only [List.cons_append,List.nil_append,T.deepL_cons,T.deepL_nil,T.partsL_cons,T.partsL_nil,T.deep_node,T.parts_node] at h1 h2 h3
   refine⟨_,((r_one (r':=W 3::(bldR ms++r)) (s':=.node []::q::s) (w_lay .nil) ?_ ?_).trans (r_one (w_swap .nil) ?_ ?_)).trans hr⟩ <;>
   exact⟨by (try simp only [List.cons_append,List.nil_append,T.deepL_cons]); lia,by simp only [T.deepL_cons,T.deep_node,T.deepL_nil]; lia,by simp only [List.cons_append,List.nil_append,T.partsL_cons,T.parts_node,T.partsL_nil]; lia⟩
theorem r_bldR:∀ (ms:List MT) (r s acc:List T),Fit a w (bldR ms++r) (q::.node (fillL q ms++acc)::s)→∃ N,Rch a w N ([.node (bldR ms++r)],q::.node acc::s) ([.node r],q::.node (fillL q ms++acc)::s)
 | [],r,s,acc,h=>by
  rw [bldR,fillL] at h ⊢
  exact⟨0,rfl,fun i hi=>by rw [show i=0 by lia]; exact h.into⟩
 | m::ms,r,s,acc,h=>by
  rw [bldR,fillL] at h ⊢
  rw [List.append_assoc,List.append_assoc] at h ⊢
  obtain⟨h1,h2,h3⟩:=h
  simp only [List.cons_append,List.nil_append,T.deepL_cons,T.deepL_append,T.deepL_nil,T.partsL_cons,T.partsL_append,T.partsL_nil,T.deep_node,T.parts_node] at h1 h2 h3
  obtain⟨N1,g1⟩:=r_bldR ms (bld m++([W 6,W 6,W 4,W 3]++r)) s acc ⟨by simp only [List.cons_append,List.nil_append,T.deepL_cons,T.deepL_append]; lia,by simp only [T.deepL_cons,T.deep_node,T.deepL_append]; lia,by simp only [List.cons_append,List.nil_append,T.partsL_cons,T.parts_node,T.partsL_append]; lia⟩
  obtain⟨N2,g2⟩:=r_bld m ([W 6,W 6,W 4,W 3]++r) (.node (fillL q ms++acc)::s) ⟨by simp only [List.cons_append,List.nil_append,T.deepL_cons,T.deepL_append]; lia,by simp only [T.deepL_cons,T.deep_node,T.deepL_append]; lia,by simp only [List.cons_append,List.nil_append,T.partsL_cons,T.parts_node,T.partsL_append]; lia⟩
  have g3:Rch a w 4 ([.node ([W 6,W 6,W 4,W 3]++r)],q::fill q m::.node (fillL q ms++acc)::s) ([.node r],q::.node (fill q m::fillL q ms++acc)::s):=r_four (r:=r) (acc:=fillL q ms++acc) ⟨by simp only [T.deepL_cons]; lia,by simp only [T.deepL_cons,T.deep_node,T.deepL_append]; lia,by simp only [T.partsL_cons,T.parts_node,T.partsL_append]; lia⟩
  exact⟨_,(g1.trans g2).trans g3⟩
end
end
def Shp (ms:List MT):Prop:=cntL ms≤39∧mksL ms≤2∧depL ms≤3
theorem mkr_B {ms:List MT} (h:Shp ms):B 60 4400 (.node (mkr (.node ms))):=by
 obtain⟨h1,h2,h3⟩:=h
 have b1:=bld_parts (.node ms)
 have b2:=bld_deep (.node ms)
 rw [cnt] at b1
 rw [dep] at b2
 obtain⟨w1,w2,w3,w4,w6,w7⟩:=wn_parts
 obtain⟨v1,v2,v3,v4,v6,v7⟩:=wn_deep
 have l1:=lay_parts []
 have l2:=lay_deep []
 rw [T.partsL_nil] at l1
 rw [T.deepL_nil] at l2
 unfold mkr
 refine⟨?_,?_⟩
 ·simp only [T.deep_node,T.deepL_append,T.deepL_cons,T.deepL_nil]; lia
 ·simp only [T.parts_node,T.partsL_append,T.partsL_cons,T.partsL_nil]; lia
theorem w_tail {q:T}{F:List T}:Wlk ([.node [W 1,wordT 0 [],W 4,wordT 0 [],W 3,W 4,wordT 0 [leavesT 1],W 4]],[q,.node F]) 9 9 ([],[.node [W 1,wordT 0 F]]) :=
 w_drop (w_lay (us:=[]) (w_front (a:=.node []) (b:=F) (w_lay (us:=[]) (w_swap (w_front (a:=wordT 0 F) (b:=[]) (w_lay (us:=[leavesT 1]) (w_front (a:=W 1) (b:=[wordT 0 F]) (w_shut .nil))))))))
theorem w_made {x:T}{F:List T}:Wlk ([.node [W 1,wordT 0 F]],[x]) 3 3 ([],[.node F]):=w_drop (w_lay (us:=F) (w_shut .nil))
section
variable {ms:List MT}{x:T}
theorem F_size (h:Shp ms):T.partsL (fillL (.node (knotT (mkr (.node ms)))) ms)≤30039∧T.deepL (fillL (.node (knotT (mkr (.node ms)))) ms)≤102:=by
 obtain⟨⟨k1,k2⟩,_⟩:=B_knotJ (mkr_B h)
 obtain⟨h1,h2,h3⟩:=h
 generalize T.node (knotT (mkr (.node ms)))=q at *
 have a1:=fillL_parts q ms
 have a2:=fillL_deep q ms
 have a3:mksL ms * q.parts≤2 * q.parts:=Nat.mul_le_mul_right _ h2
 lia
theorem first_rch (h:Shp ms):∃ N,Rch 200 100000 N ([.node (mkr (.node ms))],[.node (knotT (mkr (.node ms)))]) ([],[.node [W 1,wordT 0 (fillL (.node (knotT (mkr (.node ms)))) ms)]]):=by
 obtain⟨f1,f2⟩:=F_size h
 have bm:=mkr_B h
 obtain⟨⟨k1,k2⟩,_⟩:=B_knotJ bm
 obtain⟨m1,m2⟩:=bm
 rw [T.deep_node] at m1
 rw [T.parts_node] at m2
 generalize T.node (knotT (mkr (.node ms)))=q at *
 unfold mkr at m1 m2 ⊢
 obtain⟨N,g⟩:=r_bld (a:=150) (w:=60000) q (.node ms) [W 1,wordT 0 [],W 4,wordT 0 [],W 3,W 4,wordT 0 [leavesT 1],W 4] [] ⟨by lia,by rw [fill]; simp only [T.deepL_cons,T.deepL_nil,T.deep_node]; lia,by rw [fill]; simp only [T.partsL_cons,T.partsL_nil,T.parts_node]; lia⟩
 have e:=g.2 N (Nat.le_refl _)
 rw [g.1] at e
 rw [fill] at e g
 exact⟨_,(rch_le g (by decide) (by decide)).trans (rch_wlk w_tail 150 60000 e (by decide) (by decide) (by decide))⟩
theorem rch_big {a w N:Nat}{st e:Std} (h:Rch a w N st e):∀ i,i≤N→extraT (stN i st).1 (stN i st).2≤w+1:=fun i hi=>by
 have hx:=extra_le (stN i st).1 (stN i st).2
 have hw:=(h.2 i hi).2
 have hx:extraT (stN i st).1 (stN i st).2≤wt (stN i st)+1:=hx
 lia
theorem sane92 (h:Shp ms) (hx:B 41 41 x):∀ b,Sane b [.node (knotT (mkr (.node ms)))] [x]:=by
 obtain⟨f1,f2⟩:=F_size h
 obtain⟨N,g⟩:=first_rch h
 have bm:=mkr_B h
 have bk:=(B_knotJ bm).1
 have hxd:=hx.1
 have hxp:=hx.2
 have w1:(W 1).parts=3:=wn_parts.1
 have v1:(W 1).deep=2:=wn_deep.1
 generalize fillL (.node (knotT (mkr (.node ms)))) ms=F at *
 have l1:=lay_parts F
 have l2:=lay_deep F
 have bt:B 150 31000 (.node [W 1,wordT 0 F]):=⟨by simp only [T.deep_node,T.deepL_cons,T.deepL_nil]; lia,by simp only [T.parts_node,T.partsL_cons,T.partsL_nil]; lia⟩
 have i2:In 150 50000 ([.node [W 1,wordT 0 F]],[x]):=Fit.into ⟨by simp only [T.deepL_cons,T.deepL_nil]; lia,by simp only [T.deepL_cons,T.deepL_nil]; lia,by simp only [T.partsL_cons,T.partsL_nil]; lia⟩
 have g2:Rch 200 100000 3 ([.node [W 1,wordT 0 F]],[x]) ([],[.node F]):=rch_wlk w_made 150 50000 i2 (by decide) (by decide) (by decide)
 refine knot_saneD (s1:=[.node [W 1,wordT 0 F]]) (s2:=[.node F]) (bk.le (by lia) (by lia)) (hx.le (by lia) (by lia)) (bt.le (by lia) (by lia)) g.1 (fun i hi=>⟨⟨(g.2 i hi).1.le (by lia),Nat.le_trans (g.2 i hi).2 (by lia)⟩,Nat.le_trans (rch_big g i hi) (by lia)⟩) g2.1 (fun i hi=>⟨⟨(g2.2 i hi).1.le (by lia),Nat.le_trans (g2.2 i hi).2 (by lia)⟩,Nat.le_trans (rch_big g2 i hi) (by lia)⟩) ⟨?_,?_⟩
 ·show (T.node F).deep≤_
  rw [T.deep_node]; lia
 ·show (T.node F).parts≤_
  rw [T.parts_node]; lia
theorem turn_small:turnW costW 0≤120∧turnW costW 1≤120∧turnW costW 2≤120∧turnW costW 3≤120∧turnW costW 4≤120∧turnW costW 6≤120∧turnW costW 12≤120∧turnW costW 13≤5∧alwaysW costW=13∧knotW costW=9∧costW 13=1:=by decide
theorem run92 (h:Shp ms):(goT 400000 [.node (knotT (mkr (.node ms)))] [x]).1=[]∧(goT 400000 [.node (knotT (mkr (.node ms)))] [x]).2.1=[.node (fillL (.node (knotT (mkr (.node ms)))) ms)]:=by
 have bm:=mkr_B h
 obtain⟨⟨k1,k2⟩,k3⟩:=B_knotJ bm
 obtain⟨t0,t1,t2,t3,t4,t6,t12,t13,ta,tk,tc⟩:=turn_small
 obtain⟨υ,e,g⟩:=o_knot (x:=x) (o_mkr (ω:=turnW costW) (.node (knotT (mkr (.node ms)))) ms) (o_made (ω:=turnW costW))
 have hb:=bldW_le t0 t2 t3 t4 t6 (.node (knotT (mkr (.node ms)))) (.node ms)
 obtain⟨h1,h2,h3⟩:=h
 rw [cnt,mks] at hb
 have hm:mksL ms * ((T.node (knotT (mkr (.node ms)))).parts * turnW costW 13)≤2 * (15000 * 5):=Nat.mul_le_mul h2 (Nat.mul_le_mul k2 t13)
 rw [ta,tk,tc] at e
 obtain⟨r1,_⟩:=wo_ends g rfl 400000 (by lia)
 exact⟨r1,(wo_tally g rfl 400000 r1).2⟩
end
end MT
end Sw
namespace Sw
open PySem PySem.Spec PyProof.Rows L2
end Sw
namespace Sw
open PySem PySem.Spec PyProof.Rows L2
section
variable {X:Cx}{o e value:Expr}{f:Str}{pos pos':Pos}{ta tv:TE}
theorem qe_fld (he:QE X e ta) (hb:attributeBase e f X.env (eval e X.env)=eval e X.env):QE X (.Attribute e f pos) (tFld X.K ta f):=⟨pe_fld he.run hb⟩
theorem qs_fld (ha:QE X o ta) (hv:QE X value tv) (hs:swapsWith value (some (.Attribute o f pos')) pos.line X.env=pure false):QS X (.Assign [.Attribute o f pos'] value pos) (sFld X.K ta tv f):=⟨ps_fld ha.run hv.run hs⟩
end
section
variable {X:Cx}{CX:CXT}{k:Nat}{f C:Addr}{fd:FuncData}{ps:List Str}{sp:Sp}{dvs:List V}{ds:List Value}{E:XK}{m x:Str}{p apos pos:Pos}{o e:Expr}{es:List Expr}{ta:TE}{t:TA}
theorem qe_meth {pl:Sem Bool} (he:QE X o ta) (c:Cls X.K C) (hm:Meth X.K C m f) (F:FnOk X.prog X.w X.K X.mg X.base CX k f fd ps sp) (hr:Room k X.A) (hb:Binds X.K fd ps ds) (hd:Vals dvs ds) (hx:Passes CX X E) (ha:QA X (e::es) t)
  (hst:starEach (e::es) X.env=(false,eval e X.env)::starEach es X.env:=by rfl) (hpl:(backTo pos (starEach es X.env)).any (·.1)=false:=by rfl)
  (ht:eval (.Call (.Attribute o m apos) (e::es) [] pos) X.env=(do
   let ov ← eval o X.env
   standAt apos.atName
   let (f,first) ← holding [ov] (getMethod ov m pl)
   callWith pos f first (backTo pos (starEach (e::es) X.env)) (backToKw pos (keywordEach [] X.env))):=by rfl):QE X (.Call (.Attribute o m apos) (e::es) [] pos) (tMeth C m sp dvs E ta t):=⟨pe_meth (pl:=pl) he.run c hm F hr hb hd hx ha.run hst hpl ht⟩
theorem qe_meth0 {pl:Sem Bool} (he:QE X o ta) (c:Cls X.K C) (hm:Meth X.K C m f) (F:FnOk X.prog X.w X.K X.mg X.base CX k f fd ps sp) (hr:Room k X.A) (hb:Binds X.K fd ps ds) (hd:Vals dvs ds) (hx:Passes CX X E)
  (ht:eval (.Call (.Attribute o m apos) [] [] pos) X.env=(do
   let ov ← eval o X.env
   standAt apos.atName
   let (f,first) ← holding [ov] (getMethod ov m pl)
   callWith pos f first (backTo pos (starEach [] X.env)) (backToKw pos (keywordEach [] X.env))):=by rfl):QE X (.Call (.Attribute o m apos) [] [] pos) (tMeth C m sp dvs E ta tNil):=⟨pe_meth0 (pl:=pl) he.run c hm F hr hb hd hx ht⟩
end
section
variable {R P:Addr}{nm:List Nat}
end
section
variable {K:PySem.W.Frag}{C:Addr}{H₀ H:Hp}{o dx R P:Addr}{ys:List V}{st:List (List T)}{pl:List (List Nat)}{nm:List Nat}
theorem rows_same {H':Hp}{p:Addr} (h:RowsR K H₀ H p st ys) (S:Same H H'):RowsR K H₀ H' p st ys :=
 ⟨h.new,h.same.trans S,S _ _ h.at_,h.rows.imp fun _ _ ⟨a,xs,e,h1,h2,h3⟩=>⟨a,xs,e,h1,S _ _ h2,h3.mono (.of S)⟩,h.nd⟩
theorem rows_else {p q:Addr}{x:HO} (h:RowsR K H₀ H p st ys) (k:Kt H (upd H q x)) (h0:H₀ q=none) (hn:(.ref q:V) ∉ (.ref p:V)::ys):RowsR K H₀ (upd H q x) p st ys :=
 ⟨h.new,same_upd h.same h0,by rw [upd_ne (fun z=>hn (by rw [z]; exact List.mem_cons_self))]; exact h.at_,rows_upd k h.rows fun z=>hn (List.mem_cons_of_mem _ z),h.nd⟩
theorem Kt.ins {C' dx':Addr}{fs:List (Str×V)}{x:HO} (h:H o=some (.ins C' dx' fs)):Kt H (upd H o x) :=
 ⟨fun b xs e=>by rw [upd_ne (fun z=>by rw [z,h] at e; cases e)]; exact e,fun b _ _ e=>by rw [upd_ne (fun z=>by rw [z,h] at e; cases e)]; exact e⟩
end
end Sw
namespace SwR
open PySem PySem.Spec PyProof.Rows L2 Sw
def ItrT (K:PySem.W.Frag) (a:Addr) (n:Nat):It :=
 ⟨fun i H=>∃ xs x,SqT K H a xs∧xs.length=n∧xs.reverse[i]?=some x,fun i H v H'=>H'=H∧∀ xs,SqT K H a xs→xs.reverse[i]?=some v,fun i H=>∃ xs,SqT K H a xs∧xs.length=n∧n=i⟩
theorem rev_at {α:Type}{xs:List α}{i:Nat}{x:α} (h:xs.reverse[i]?=some x):i<xs.length∧xs[xs.length - 1 - i]?=some x:=by
 have hi:i<xs.length:=by have:=(List.getElem?_eq_some_iff.mp h).1; simpa using this
 exact⟨hi,by rw [List.getElem?_reverse hi] at h; exact h⟩
theorem turn_revT {P:Program}{w:World}{K:PySem.W.Frag}{tg:Expr} (a it:Addr) (n:Nat) (hne:a≠it):Turn P w K tg (ItrT K a n) [it] it (fun i h=>RvO h it a ((n:Int) - 1 - (i:Int))) where
 mem:=by simp
 obj:=fun i h st b hb=>by
  have e:b=it:=by simpa using hb
  subst e
  obtain⟨o,ho,hc,hd⟩:=st
  exact⟨o,ho,fun v z=>by rw [hd] at z; cases z⟩
 keep:=fun i h h' st k=>st.keep fun o e=>k it (by simp) o e
 item:=by
  intro X hP hw hK hc i pins s σ H E I hf st hg
  subst hP hw hK
  obtain⟨xs,x,hq,hn,hx⟩:=hg
  obtain⟨hi,hx'⟩:=rev_at hx
  obtain⟨its,rv,p,hz⟩:=I.tuple hq
  obtain⟨u,hu,ru⟩:=rv.get hx'
  obtain⟨f0,f1,f2,f3,f4,f5⟩:=hf it (by simp)
  have hl:=rv.length
  have e1:(n:Int) - 1 - (i:Int)=((xs.length - 1 - i:Nat):Int):=by lia
  rw [e1] at st
  refine next_item (items:=its.toArray) st p (x:=u) (by simpa using hu) (by rw [List.size_toArray]; lia) hne fun h' tk st' sb=>?_
  have e2:((xs.length - 1 - i:Nat):Int) - 1=(n:Int) - 1 - ((i+1:Nat):Int):=by lia
  rw [e2] at st'
  have I1:Inv X pins σ H { s with heap:=h',toks:=tk }:=I.turned (fun b o hb e=>(sb.2 b hb).trans e) f0 f1 f3 f4 f5
  obtain⟨o,e,c,d⟩:=id st'
  exact⟨u,rfl,go_of (s:={ s with heap:=h',toks:=tk }) e c d (by decide) ⟨x,H,I1,ru,⟨rfl,fun ys hy=>by rw [I.tuple_inj hy hq]; exact hx⟩,st',fun b hb=>(hf b hb).1⟩⟩
 done:=by
  intro X hP hw hK hc i pins s σ H E I hf st hg
  subst hP hw hK
  obtain⟨xs,hq,hn,hx⟩:=hg
  obtain⟨f0,f1,f2,f3,f4,f5⟩:=hf it (by simp)
  have e1:(n:Int) - 1 - (i:Int)=-1:=by lia
  rw [e1] at st
  exact next_end (I.ok.hd hc) st fun h' eb=>⟨rfl,I.turned (t':=s.toks) (fun b o hb e=>eb b o hb e) f0 f1 f3 f4 f5⟩
 self:=fun _ _ _ _ _ st h=>iter_self st h
def iRevT (K:PySem.W.Frag) (tl:TE):TI:=fun σ H R=>tl σ H fun x H1=>∃ a xs,x=.ref a∧SqT K H1 a xs∧R (ItrT K a xs.length) H1
theorem pi_revT {X:Cx}{tg l:Expr}{tl:TE}{p pos:Pos} (hg:Gl X "reversed") (hm:X.mg "reversed"=none) (hl:PE X l tl) (hs:starEach [l] X.env=[(false,eval l X.env)]:=by rfl):PI X tg (.Call (.Name "reversed" p) [l] [] pos) (iRevT X.K tl):=by
 intro pins s σ H R I h
 refine wpAny_Call_Name_kw (ld_blt I hg hm bt_reversed ?_)
 refine PyProof.Rows.callWith_type1 ?_ (by rw [hs]; rfl) (by rfl)
 rw [hs]
 refine Calls.spliced_cons (thn (hl pins s σ H _ I h) fun v s1 ⟨x,H1,I1,r1,q1⟩=>Calls.spliced_nil ?_)
 obtain⟨a,xs,rfl,hq,q⟩:=q1
 cases r1
 obtain⟨its,rv,ht,hz⟩:=I1.tuple hq
 have hlen:=rv.length
 have la:a<s1.heap.objs.size:=let ⟨_,ho,_⟩:=ht; Heap.lt_size ho
 refine call_rev ht (by rw [List.size_toArray]; lia) fun tk=>?_
 have hit:RvO (s1.heap.push { cls:=.type "reversed",data:=.fields #[.ref a,rawInt ((its.toArray.size:Int) - 1)] }) s1.heap.objs.size a ((its.toArray.size:Int) - 1):=⟨_,Heap.get?_push_size _ rfl,rfl,rfl⟩
 refine iter_self (s:={ s1 with heap:=s1.heap.push { cls:=.type "reversed",data:=.fields #[.ref a,rawInt ((its.toArray.size:Int) - 1)] },toks:=tk }) hit ?_
 refine⟨s1.heap.objs.size,[s1.heap.objs.size],_,ItrT X.K a xs.length,H1,rfl,I1.kept fun b o e=>Heap.get?_push_of_some _ e,turn_revT a _ xs.length (Nat.ne_of_lt la),?_,fun b hb=>?_,q⟩
 ·have e1:(xs.length:Int) - 1 - ((0:Nat):Int)=(its.toArray.size:Int) - 1:=by rw [List.size_toArray]; lia
  show RvO _ _ _ ((xs.length:Int) - 1 - ((0:Nat):Int))
  rw [e1]
  exact hit
 ·have e:b=s1.heap.objs.size:=by simpa using hb
  subst e
  exact I1.fpOk (Nat.le_refl _) (I1.hok.fresh (Nat.le_refl _))
section
variable {prog:Program}{w:World}{A:Around}{E:Value→Shared→Prop}{s:Shared}
end
end SwR
namespace Sw
open PySem PySem.Spec PyProof.Rows L2
section
variable {prog:Program}{w:World}{A:Around}{E:Value→Shared→Prop}{s:Shared}{K:PySem.W.Frag}{x y C:Addr}{ox:Obj}{od:Option Obj}{items:Array Value}
theorem call_objEq {Q:Value→Shared→Prop} (kin:K.In s.heap) (J:PySem.W.InstAt s.heap x ox C od) (hm:PySem.W.mroIn K C (.type "object")=some true) (hxy:x≠y) {oy:Obj} (hy:s.heap.get? y=some oy) (h:Q .notImplemented s) :
  wpAny (model prog w) A (call (.builtin "object.__eq__") [.ref x,.ref y]) Q E s:=by
 refine wpAny_call (codeAny_call_builtin (by decide +kernel) F.cmpEntry_eq ?_)
 unfold checkBuiltinCall
 rw [F.cmpKind_eq,F.cmpSplit_eq]
 dsimp only
 refine wpAny_bind ?_
 unfold isInstance
 refine wpAny_bind (J.type _ _ _ s (fun _ _ e=>e) ?_)
 refine PySem.W.looks_mroIn kin hm _ _ _ s (fun _ _ e=>e) ?_
 rw [if_neg (by decide)]
 refine wpAny_of_eq (F.cmpArgs_eq (.ref x) (.ref y)) ?_
 unfold Builtin.«object.__eq__»
 refine wpAny_bind (wpAny_of_eq (a:=(Value.ref x,[Value.ref y])) rfl ?_)
 dsimp only
 refine wpAny_bind (wpAny_isSame_ref_other hxy J.at_ hy (by rw [J.cls]; exact fun z=>nomatch z) ?_)
 rw [if_neg (by decide)]
 exact wpAny_pure h
theorem call_tupEq {Q:Value→Shared→Prop} (kin:K.In s.heap) (J:PySem.W.InstAt s.heap x ox C od) (hm:PySem.W.mroIn K C (.type "tuple")=some false) (ht:s.TypeIs (.ref y) "tuple") (h:Q .notImplemented s) :
  wpAny (model prog w) A (call (.builtin "tuple.__eq__") [.ref y,.ref x]) Q E s:=by
 refine wpAny_call_entry F.slot_tuple_eq ht F.entry_tuple_eq ?_ (F.args_tuple_eq_2 _ _)
 unfold Builtin.«tuple.__eq__»
 wp_delta
 refine wpAny_bind (wpAny_of_eq (a:=(Value.ref y,[Value.ref x])) rfl ?_)
 dsimp only
 refine wpAny_bind ?_
 unfold isInstance
 refine wpAny_bind (J.type _ _ _ s (fun _ _ e=>e) ?_)
 refine PySem.W.looks_mroIn kin hm _ _ _ s (fun _ _ e=>e) ?_
 rw [if_pos (by decide)]
 exact wpAny_pure ⟨_,rfl,h⟩
theorem eq_ins_tup {Q:Value→Shared→Prop} (hu:A.units<cLine) (kin:K.In s.heap) (J:PySem.W.InstAt s.heap x ox C od) (he:PySem.W.findIn K (.ref C) "__eq__"=some (some (.builtin "object.__eq__"))) (hm:PySem.W.mroIn K C (.type "object")=some true)
  (hmt:PySem.W.mroIn K C (.type "tuple")=some false) (hsub:PySem.W.subIn K (.type "tuple") (.ref C)=some false) (hxy:x≠y) {oy:Obj} (hy:s.heap.get? y=some oy) (hc:oy.cls=.type "tuple") (h:Q (.bool false) s) :
  wpAny (model prog w) A (compareOp .Eq (.ref x) (.ref y)) Q E s:=by
 have ht:s.TypeIs (.ref y) "tuple":=⟨oy,hy,hc⟩
 show wpAny _ _ (richCompare .Eq (.ref x) (.ref y)) _ _ _
 unfold richCompare
 refine wpAny_holding (wpAny_bind (wpAny_cRoomFor hu ?_))
 rw [show oneThing? CmpOp.Eq (Value.ref x) (Value.ref y)=none from rfl]
 show wpAny _ _ (typeOf (.ref x) >>= _) _ _ _
 refine wpAny_bind (J.type _ _ _ s (fun _ _ e=>e) ?_)
 refine wpAny_bind (wpAny_typeOf ht ?_)
 rw [if_pos (by rfl)]
 refine wpAny_bind (PySem.W.looks_subIn kin hsub _ _ _ s (fun _ _ e=>e) ?_)
 show wpAny _ _ (tryCompare (.ref x) (Str.ofString "__eq__") (.ref y) >>= _) _ _ _
 have try1:∀ {Q':Option Value→Shared→Prop},Q' none s→wpAny (model prog w) A (tryCompare (.ref x) (Str.ofString "__eq__") (.ref y)) Q' E s:=fun {Q'} q=>by
  unfold tryCompare
  refine wpAny_bind ?_
  unfold callSpecialIfBound?
  refine wpAny_holding (wpAny_bind ?_)
  unfold bindSpecialIfBound?
  refine wpAny_bind ?_
  unfold specialOf
  refine wpAny_bind (J.type _ _ _ s (fun _ _ e=>e) ?_)
  refine PySem.W.looks_findIn kin he _ _ _ s (fun _ _ e=>e) ?_
  dsimp only
  have hb:bindSpecial (.builtin "object.__eq__") (.ref x)=pure (.builtin "object.__eq__",[.ref x]):=F.slot_object_eq.bind _
  rw [hb]
  have fin:wpAny (model prog w) A (call (.builtin "object.__eq__") ([.ref x]++[.ref y])) (fun v s1=>wpAny (model prog w) A (pure (some v)) (fun a s'=>wpAny (model prog w) A (match a with | some .notImplemented=>pure none | none=>pure none | some v=>pure (some v)) Q' E s') E s1) E s :=
   call_objEq kin J hm hxy hy (wpAny_pure (wpAny_pure q))
  refine wpAny_bind (wpAny_askSetting ?_)
  split
  ·exact wpAny_bind (wpAny_pure (wpAny_pure (wpAny_bind fin)))
  ·exact wpAny_tryCatch (wpAny_bind (wpAny_pure (wpAny_pure (wpAny_bind fin))))
 refine wpAny_bind (try1 ?_)
 show wpAny _ _ (tryCompare (.ref y) (Str.ofString "__eq__") (.ref x) >>= _) _ _ _
 refine wpAny_bind (wpAny_tryCompare_declines ht F.slot_tuple_eq (call_tupEq kin J hmt ht ⟨rfl,?_⟩))
 refine wpAny_bind (wpAny_rule ?_)
 exact wpAny_bind (wpAny_isSame_ref_other hxy J.at_ hy (by rw [J.cls]; exact fun z=>nomatch z) (wpAny_pure h))
end
end Sw
namespace SwR
open PySem PySem.Spec PyProof.Rows L2 Sw
end SwR
namespace Sw
open PySem PySem.Spec PyProof.Rows L2
structure Row1 (K:PySem.W.Frag) (C:Addr):Prop where
 cl:Cls K C
 eq:PySem.W.findIn K (.ref C) "__eq__"=some (some (.builtin "object.__eq__"))
 ob:PySem.W.mroIn K C (.type "object")=some true
 tu:PySem.W.mroIn K C (.type "tuple")=some false
 sb:PySem.W.subIn K (.type "tuple") (.ref C)=some false
 ca:PySem.W.findIn K (.ref C) "__class__"=some (some (.builtin "object.__class__"))
 cn:PySem.W.specialIn K (.builtin "object.__class__") "__get__"=some (some (.builtin "getset_descriptor.__get__"))
 ct:PySem.W.takesIn K (.builtin "object.__class__")=some true
theorem Row1.ty {K:PySem.W.Frag}{C a dx:Addr}{fs:List (Str×V)}{H:Hp} (r:Row1 K C) (h:H a=some (.ins C dx fs)):TyOf K H (.ref a) (.ref C):=.ins h r.cl r.ca r.cn r.ct r.ob
section
variable {X:Cx}
def rEqRow (K:PySem.W.Frag) (n:Nat):R2:=fun x y H Q=>(∃ t u,TR K H t x∧TR K H u y∧t.deep≤n∧Q (.bl (T.beq t u)) H)∨∃ a C dx fs b ys,x=.ref a∧H a=some (.ins C dx fs)∧Row1 K C∧y=.ref b∧H b=some (.tup ys)∧Q (.bl false) H
theorem op_eqRow {n:Nat} (hu:X.A.units+n<cLine):OpR X (compareOp .Eq) (rEqRow X.K n):=by
 intro pins s σ H x y v u Q I rx ry h
 rcases h with h | ⟨a,C,dx,fs,b,ys,rfl,ha,r,rfl,hb,q⟩
 ·exact op_eqTr hu pins s σ H x y v u Q I rx ry h
 ·cases (show v=Value.ref a from rx)
  cases (show u=Value.ref b from ry)
  obtain⟨mA,O,_⟩:=ins_get I.hok ha
  obtain⟨od,J,_⟩:=O.look
  obtain⟨_,_,_,p⟩:=(show ObjOk X.prog X.w H s.heap b (.tup ys) from I.hok b _ hb)
  obtain⟨o,h1,h2,_⟩:=p
  exact eq_ins_tup (by lia) I.kIn J r.eq r.ob r.tu r.sb (fun z=>by rw [z,hb] at ha; cases ha) h1 h2 ⟨.bl false,H,I,rfl,q⟩
theorem call_isinstO:CallR X (.builtin "isinstance") (fun xs H Q=>∃ x D b,xs=[x,.ref D]∧((∃ t,TyOf X.K H x t∧PySem.W.kitOne X.K t (.ref D)=some b)∨(∃ a ys,x=.ref a∧SqT X.K H a ys∧PySem.W.kitOne X.K (.type "tuple") (.ref D)=some b))∧Q (.bl b) H):=by
 intro pins s σ H xs us Q I r h
 obtain⟨x,D,b,rfl,h,q⟩:=h
 obtain⟨u,w',rfl,r1,r2⟩:=vals2 r
 cases (show w'=Value.ref D from r2)
 rcases h with⟨t,ty,e⟩ | ⟨a,ys,rfl,hq,e⟩
 ·exact isinst_ok I r1 ty e fun tk=>⟨.bl b,H,I.tok tk,rfl,q⟩
 ·cases r1
  obtain⟨its,_,⟨o,h1,h2,_⟩,_⟩:=I.tuple hq
  exact PySem.W.kia_one PySem.W.kitx_tuple I.kIn ⟨o,h1,h2⟩ e (fun z=>nomatch z) fun tk=>⟨.bl b,H,I.tok tk,rfl,q⟩
def rInsert0:V→List V→Hp→VK→Prop:=fun x vs H Q=>∃ l xs y,x=.ref l∧vs=[.int 0,y]∧H l=some (.lst xs)∧xs.length<sizeLine∧Q .non (upd H l (.lst (y::xs)))
theorem mt_insert0:MtM X "list.insert" rInsert0:=by
 intro pins s σ H x vs v us Q I rx rv h
 obtain⟨l,xs,y,rfl,rfl,hH,hz,q⟩:=h
 cases rx
 obtain⟨u0,u,rfl,r0,ru⟩:=vals2 rv
 obtain⟨t,rfl⟩:=r0
 obtain⟨z,its,n,r,hl,e⟩:=I.lstM hH
 refine call_meets F.slot_list_insert ⟨_,e,rfl⟩ F.entry_list_insert (F.args_list_insert_3 _ _ _) (AutoSeq1.list_insert_list_int_val_1 l its.toArray n 0 t u (by decide) (by rw [List.size_toArray]; lia)) ⟨e,?_⟩
 refine⟨.non,_,I.lset (its':=u::its) hH e (by simp) (.cons ru r) ?_,rfl,q⟩
 rw [List.length_cons]
 lia
theorem get_list:PGet X (rIxL X.K):=by
 intro pins s σ H x y v u Q I rx ry h
 obtain⟨p,xs,i,z,rfl,rfl,hq,he,q⟩:=h
 cases rx
 obtain⟨t,rfl⟩:=ry
 obtain⟨its,r,pl,hz⟩:=I.list hq
 obtain⟨j,h1,h2,h3,h4,h5⟩:=atI_get he
 obtain⟨w,ew,rw'⟩:=r.get h2
 have hl:=r.length
 have hn:=line63
 have fin:EP X pins σ Q w s:=⟨z,H,I,rw',q⟩
 by_cases h0:0≤i
 ·have hj:i.toNat=j:=by
   rw [seqIndex_of h0 h5] at h1
   exact Option.some.inj h1
  exact getItem_listL pl.isList h0 (by lia) (by rw [hj]; exact ew) fin
 ·have hj:(i+(its.toArray.size:Int)).toNat=j:=by
   rw [seqIndex_neg (by lia) h4] at h1
   rw [List.size_toArray,← hl]
   exact Option.some.inj h1
  exact wpAny_getItem_list_neg pl.isList (by lia) (by rw [List.size_toArray] <;> lia) (by lia) (by rw [hj]; simpa using ew) fin
theorem qs_augS {pos:Pos}{o i e:Expr}{to ti te:TE}{tget:V→V→Hp→VK→Prop}{tip:TIp}{tset:TSet}{op:Operator}{tpos:Pos} (ho:QE X o to) (hi:QE X i ti) (hg:PGet X tget) (he:QE X e te) (hp:PIp X op tip) (hs:PSet X tset)
  (ha:∀ ov iv new,augStore i ov iv new=(do holding [new,ov,iv] (setItem ov iv new); release [new,ov,iv] []; pure .next):=by intros; rfl):QS X (.AugAssign (.Subscript o i tpos) op e pos) (tAugS to ti te tget tip tset):=⟨ps_augS ho.run hi.run hg he.run hp hs ha⟩
theorem qs_fldaug {o value:Expr}{f:Str}{pos tpos:Pos}{ta tv:TE}{op:Operator}{rd:V→V→Hp→VK→Prop} (ha:QE X o ta) (hv:QE X value tv) (hop:InOp X op rd):QS X (.AugAssign (.Attribute o f tpos) op value pos) (sFldAug X.K ta tv rd f):=⟨ps_fldaug ha.run hv.run hop⟩
theorem qe_make {CX:CXT}{k:Nat}{f C:Addr}{fd:FuncData}{ps:List Str}{sp:Sp}{dvs:List V}{ds:List Value}{E:XK}{x:Str}{p pos:Pos}{e:Expr}{es:List Expr}{t:TA} (M:Mk X.K C f) (F:FnOk X.prog X.w X.K X.mg X.base CX k f fd ps sp) (hr:Room (k+1) X.A) (hg:Gl X x) (hm:X.mg x=some (.ref C)) (hb:Binds X.K fd ps ds) (hd:Vals dvs ds) (hx:Passes CX X E)
  (ha:QA X (e::es) t) (hdb:(x == ("__debug__":Str))=false:=by decide) (he:starEach (e::es) X.env=(false,eval e X.env)::starEach es X.env:=by rfl) (hpl:(backTo pos (starEach es X.env)).any (·.1)=false:=by rfl) :
  QE X (.Call (.Name x p) (e::es) [] pos) (tMake C sp dvs E t):=⟨pe_make M F hr hg hm hb hd hx ha.run hdb he hpl⟩
theorem qi_revT {tg l:Expr}{tl:TE}{p pos:Pos} (hg:Gl X "reversed") (hm:X.mg "reversed"=none) (hl:QE X l tl) (hs:starEach [l] X.env=[(false,eval l X.env)]:=by rfl):QI X tg (.Call (.Name "reversed" p) [l] [] pos) (SwR.iRevT X.K tl):=⟨SwR.pi_revT hg hm hl.run hs⟩
theorem pe_notT {a:Expr}{ta:TE}{pos:Pos} (ha:PE X a ta):PE X (.UnaryOp .Not a pos) (fun σ H Q=>ta σ H fun x H'=>∃ k,TruV X.K x H' k∧Q (.bl (!k)) H'):=by
 intro pins s σ H Q I h
 refine UnaryOp_ (thn (ha pins s σ H _ I h) fun v s1 ⟨x,H1,I1,r1,q1⟩=>?_)
 refine not_of (thn (tru_ok pins s1 σ H1 x v (fun k H2=>Q (.bl (!k)) H2) I1 r1 q1) fun k s2 ⟨H2,I2,q2⟩=>?_)
 exact⟨.bl (!k),H2,I2,rfl,q2⟩
theorem qe_notT {a:Expr}{ta:TE}{pos:Pos} (ha:QE X a ta):QE X (.UnaryOp .Not a pos) (fun σ H Q=>ta σ H fun x H'=>∃ k,TruV X.K x H' k∧Q (.bl (!k)) H'):=⟨pe_notT ha.run⟩
end
end Sw
namespace Sw
open PySem PySem.Spec PyProof.Rows L2
structure Own (K:PySem.W.Frag) (CFronted CLater CWord CText CGoing CWalk:Addr):Prop where
 rF:Row1 K CFronted
 rL:Row1 K CLater
 cWord:Cls K CWord
 cText:Cls K CText
 cGoing:Cls K CGoing
 cWalk:Cls K CWalk
 fi:NoAttr K CFronted "item"
 fb:NoAttr K CFronted "behind"
 lt:NoAttr K CLater "tree"
 lp:NoAttr K CLater "place"
 wk:NoAttr K CWord "kind"
 wl:NoAttr K CWord "load"
 wy:NoAttr K CWord "yes"
 wn:NoAttr K CWord "no"
 wb:NoAttr K CWord "body"
 ws:NoAttr K CWord "size"
 tt:NoAttr K CText "tree"
 tw:NoAttr K CText "words"
 gt:NoAttr K CGoing "text"
 gp:NoAttr K CGoing "place"
 kg:NoAttr K CWalk "goings"
 ks:NoAttr K CWalk "stack"
 kn:NoAttr K CWalk "numbers"
 kl:NoAttr K CWalk "left"
 iTF:PySem.W.kitOne K (.type "tuple") (.ref CFronted)=some false
 iTL:PySem.W.kitOne K (.type "tuple") (.ref CLater)=some false
 iFF:PySem.W.kitOne K (.ref CFronted) (.ref CFronted)=some true
 iLF:PySem.W.kitOne K (.ref CLater) (.ref CFronted)=some false
 iLL:PySem.W.kitOne K (.ref CLater) (.ref CLater)=some true
theorem putF_nil (f:Str) (v:V):putF f v []=[(f,v)]:=rfl
theorem putF_eq (f:Str) (u v:V) (r:List (Str×V)):putF f v ((f,u)::r)=(f,v)::r:=by rw [putF,if_pos rfl]
theorem putF_ne {f g:Str} (h:¬ g=f) (u v:V) (r:List (Str×V)):putF f v ((g,u)::r)=(g,u)::putF f v r:=by rw [putF,if_neg h]
theorem lk_eq (f:Str) (u:V) (r:List (Str×V)):List.lookup f ((f,u)::r)=some u:=by rw [List.lookup_cons,beq_self_eq_true]
theorem lk_ne {f g:Str} (h:(f == g)=false) (u:V) (r:List (Str×V)):List.lookup f ((g,u)::r)=List.lookup f r:=by rw [List.lookup_cons,h]
def fF (y z:V):List (Str×V):=[("item",y),("behind",z)]
def fL (v:V) (p:Nat):List (Str×V):=[("tree",v),("place",.int (p:Int))]
def fT (v:V) (W:Addr):List (Str×V):=[("tree",v),("words",.ref W)]
def fG (a:Addr) (p:Nat):List (Str×V):=[("text",.ref a),("place",.int (p:Int))]
def fD (k:Nat) (v y n b z:V):List (Str×V):=[("kind",.int (k:Int)),("load",v),("yes",y),("no",n),("body",b),("size",z)]
def fW (G S N:Addr) (b:Nat):List (Str×V):=[("goings",.ref G),("stack",.ref S),("numbers",.ref N),("left",.int (b:Int))]
theorem putTwo {f g:Str} (h:¬ f=g) (u v:V):putF g v (putF f u [])=[(f,u),(g,v)]:=by rw [putF_nil,putF_ne h,putF_nil]
inductive Role where
 | mine
 | text (t:T) (W:Addr)
 | words (t:T)
 | word (w:T)
 | row (t:T)
abbrev Mp:=Addr→Option Role
def setM (M:Mp) (p:Addr) (r:Role):Mp:=fun a=>if a=p then some r else M a
theorem setM_same {M:Mp}{p:Addr}{r:Role}:setM M p r p=some r:=by unfold setM; rw [if_pos rfl]
theorem setM_ne {M:Mp}{a p:Addr}{r:Role} (h:a≠p):setM M p r a=M a:=by unfold setM; rw [if_neg h]
section
variable (K:PySem.W.Frag) (CF CL CD CT CG CW:Addr)
def RV (M:Mp) (H:Hp) (t:T) (x:V):Prop:=TR K H t x∨∃ a,x=.ref a∧M a=some (.row t)
def IsTx (M:Mp) (a:Addr) (t:T):Prop:=∃ W,M a=some (.text t W)
def Ok1 (M:Mp) (H:Hp) (a:Addr):Role→Prop
 | .mine=>True
 | .text t W=>∃ dx v,H a=some (.ins CT dx (fT v W))∧TR K H t v∧M W=some (.words t)
 | .words t=>∃ xs,H a=some (.lst xs)∧xs.length≤t.kids.length∧∀ (j:Nat) x,xs[j]?=some x→∃ b w,x=.ref b∧t.kids[j]?=some w∧M b=some (.word w)
 | .word w=>∃ dx v y n bd sz,H a=some (.ins CD dx (fD (sortT w) v y n bd sz))∧TR K H (loadT w) v∧(sortT w=7→∃ ay an,y=.ref ay∧n=.ref an∧IsTx M ay (ats (loadT w).kids 0)∧IsTx M an (loadT (loadT w))) ∧
   (sortT w=8→∃ ab,bd=.ref ab∧IsTx M ab (loadT w))∧(sz=.non∨sz=.int ((loadT w).parts:Nat))
 | .row t=>(∃ dx y z u ts,H a=some (.ins CF dx (fF y z))∧t=.node (u::ts)∧RV K M H u y∧RV K M H (.node ts) z)∨∃ dx v ts p,H a=some (.ins CL dx (fL v p))∧TR K H (.node ts) v∧p<ts.length∧ts.length≤8000000∧t=.node (ts.drop p)
structure Gh (M:Mp) (H₀ H:Hp):Prop where
 same:Same H₀ H
 new:∀ a r,M a=some r→H₀ a=none
 has:∀ a r,M a=some r→∃ o,H a=some o
 ok:∀ a r,M a=some r→Ok1 K CF CL CD CT M H a r
structure Go (X:Addr→Prop) (M M':Mp) (H₀ H H':Hp):Prop where
 ext:∀ a r,M a=some r→M' a=some r
 mine:∀ a,M a=some .mine→¬ X a→H' a=H a
 kt:Kt H H'
 gh:Gh K CF CL CD CT M' H₀ H'
 wds:∀ W t ws,M W=some (.words t)→H W=some (.lst ws)→∃ ws',H' W=some (.lst ws')∧ws.length≤ws'.length
end
section
variable {K:PySem.W.Frag}{CF CL CD CT CG CW:Addr}{M M' M'':Mp}{H₀ H H' H'':Hp}{X Y:Addr→Prop}
theorem RV.mono {t:T}{x:V} (k:Kt H H') (e:∀ a t,M a=some (.row t)→M' a=some (.row t)) (h:RV K M H t x):RV K M' H' t x:=by
 rcases h with h | ⟨a,rfl,h⟩
 ·exact .inl (h.mono k)
 ·exact .inr ⟨a,rfl,e _ _ h⟩
theorem Ok1.mono {a:Addr}{r:Role} (h:Ok1 K CF CL CD CT M H a r) (ha:H' a=H a) (k:Kt H H') (e:∀ a r,r≠.mine→M a=some r→M' a=some r):Ok1 K CF CL CD CT M' H' a r:=by
 cases r with
 | mine=>trivial
 | text t W =>
  obtain⟨dx,v,h1,h2,h3⟩:=h
  exact⟨dx,v,ha.trans h1,h2.mono k,e _ _ (by simp) h3⟩
 | words t =>
  obtain⟨xs,h1,h2,h3⟩:=h
  refine⟨xs,ha.trans h1,h2,fun j x hx=>?_⟩
  obtain⟨b,w,e1,e2,e3⟩:=h3 j x hx
  exact⟨b,w,e1,e2,e _ _ (by simp) e3⟩
 | word w =>
  obtain⟨dx,v,y,n,bd,sz,h1,h2,h3,h4,h5⟩:=h
  refine⟨dx,v,y,n,bd,sz,ha.trans h1,h2.mono k,fun s7=>?_,fun s8=>?_,h5⟩
  ·obtain⟨ay,an,e1,e2,⟨W1,e3⟩,W2,e4⟩:=h3 s7
   exact⟨ay,an,e1,e2,⟨W1,e _ _ (by simp) e3⟩,W2,e _ _ (by simp) e4⟩
  ·obtain⟨ab,e1,W,e2⟩:=h4 s8
   exact⟨ab,e1,W,e _ _ (by simp) e2⟩
 | row t =>
  have er:∀ a t,M a=some (.row t)→M' a=some (.row t):=fun a t=>e a _ (by simp)
  rcases h with⟨dx,y,z,u,ts,h1,h2,h3,h4⟩ | ⟨dx,v,ts,p,h1,h2,h3,h4,h5⟩
  ·exact .inl ⟨dx,y,z,u,ts,ha.trans h1,h2,h3.mono k er,h4.mono k er⟩
  ·exact .inr ⟨dx,v,ts,p,ha.trans h1,h2.mono k,h3,h4,h5⟩
theorem Gh.nil (H:Hp):Gh K CF CL CD CT (fun _=>none) H H:=⟨Same.refl _,fun _ _ z=>(by cases z),fun _ _ z=>(by cases z),fun _ _ z=>(by cases z)⟩
theorem Gh.grow (g:Gh K CF CL CD CT M H₀ H) (S:Same H H'):Gh K CF CL CD CT M H₀ H' :=
 ⟨g.same.trans S,g.new,fun a r h=>by obtain⟨o,e⟩:=g.has a r h; exact⟨o,S _ _ e⟩,fun a r h=>by
  obtain⟨o,e⟩:=g.has a r h
  exact (g.ok a r h).mono ((S _ _ e).trans e.symm) (.of S) fun _ _ _ z=>z⟩
theorem Gh.mut {p:Addr}{o:HO} (g:Gh K CF CL CD CT M H₀ H) (hp:M p=some .mine) (k:Kt H (upd H p o)):Gh K CF CL CD CT M H₀ (upd H p o):=by
 refine⟨same_upd g.same (g.new _ _ hp),g.new,fun a r h=>?_,fun a r h=>?_⟩
 ·by_cases z:a=p
  ·exact⟨o,by rw [z,upd_same]⟩
  ·obtain⟨u,e⟩:=g.has a r h
   exact⟨u,by rw [upd_ne z]; exact e⟩
 ·by_cases z:a=p
  ·rw [z,hp] at h
   cases h
   trivial
  ·exact (g.ok a r h).mono (upd_ne z) k fun _ _ _ z=>z
theorem Gh.put {p:Addr}{o:HO}{r:Role} (g:Gh K CF CL CD CT M H₀ H) (hp:M p=some r) (k:Kt H (upd H p o)) (h:Ok1 K CF CL CD CT M (upd H p o) p r):Gh K CF CL CD CT M H₀ (upd H p o):=by
 refine⟨same_upd g.same (g.new _ _ hp),g.new,fun a r h=>?_,fun a r' h'=>?_⟩
 ·by_cases z:a=p
  ·exact⟨o,by rw [z,upd_same]⟩
  ·obtain⟨u,e⟩:=g.has a r h
   exact⟨u,by rw [upd_ne z]; exact e⟩
 ·by_cases z:a=p
  ·rw [z,hp] at h'
   cases h'
   rw [z]
   exact h
  ·exact (g.ok a r' h').mono (upd_ne z) k fun _ _ _ z=>z
theorem Gh.role {p:Addr}{r:Role} (g:Gh K CF CL CD CT M H₀ H) (hp:M p=none∨M p=some .mine) (hn:H₀ p=none) (hh:∃ o,H p=some o) (h:Ok1 K CF CL CD CT (setM M p r) H p r):Gh K CF CL CD CT (setM M p r) H₀ H:=by
 refine⟨g.same,fun a r' h'=>?_,fun a r' h'=>?_,fun a r' h'=>?_⟩
 ·by_cases z:a=p
  ·rw [z]; exact hn
  ·rw [setM_ne z] at h'; exact g.new a r' h'
 ·by_cases z:a=p
  ·rw [z]; exact hh
  ·rw [setM_ne z] at h'; exact g.has a r' h'
 ·by_cases z:a=p
  ·rw [z,setM_same] at h'
   cases h'
   rw [z]
   exact h
  ·rw [setM_ne z] at h'
   refine (g.ok a r' h').mono rfl (Kt.refl _) fun b r2 hr hb=>?_
   by_cases y:b=p
   ·rw [y] at hb
    rcases hp with hp | hp
    ·rw [hp] at hb; cases hb
    ·rw [hp] at hb; cases hb; exact absurd rfl hr
   ·rw [setM_ne y]; exact hb
theorem Go.refl (g:Gh K CF CL CD CT M H₀ H):Go K CF CL CD CT X M M H₀ H H:=⟨fun _ _ z=>z,fun _ _ _=>rfl,Kt.refl _,g,fun _ _ ws _ h=>⟨ws,h,Nat.le_refl _⟩⟩
theorem Go.trans (a:Go K CF CL CD CT X M M' H₀ H H') (b:Go K CF CL CD CT X M' M'' H₀ H' H''):Go K CF CL CD CT X M M'' H₀ H H'' :=
 ⟨fun p r h=>b.ext _ _ (a.ext _ _ h),fun p h x=>(b.mine p (a.ext _ _ h) x).trans (a.mine p h x),a.kt.trans b.kt,b.gh,fun W t ws h1 h2=>by
  obtain⟨w1,e1,l1⟩:=a.wds W t ws h1 h2
  obtain⟨w2,e2,l2⟩:=b.wds W t w1 (a.ext _ _ h1) e1
  exact⟨w2,e2,by lia⟩⟩
theorem Go.weak (a:Go K CF CL CD CT X M M' H₀ H H') (h:∀ p,X p→Y p):Go K CF CL CD CT Y M M' H₀ H H':=⟨a.ext,fun p m y=>a.mine p m fun z=>y (h p z),a.kt,a.gh,a.wds⟩
theorem Go.grow (g:Gh K CF CL CD CT M H₀ H) (S:Same H H'):Go K CF CL CD CT X M M H₀ H H' :=
 ⟨fun _ _ z=>z,fun a h _=>by obtain⟨o,e⟩:=g.has a _ h; exact (S _ _ e).trans e.symm,.of S,g.grow S,fun _ _ ws _ h=>⟨ws,S _ _ h,Nat.le_refl _⟩⟩
theorem Go.rv {t:T}{x:V} (a:Go K CF CL CD CT X M M' H₀ H H') (h:RV K M H t x):RV K M' H' t x:=h.mono a.kt fun p t e=>a.ext p _ e
abbrev mkO (H:Hp) (x dx C:Addr) (fs:List (Str×V)):Hp:=upd (upd H dx (.own x)) x (.ins C dx fs)
theorem updU {H:Hp}{p:Addr}{a b:HO}:upd (upd H p a) p b=upd H p b:=by
 funext q
 by_cases h:q=p
 ·rw [h,upd_same,upd_same]
 ·rw [upd_ne h,upd_ne h,upd_ne h]
theorem updC {H:Hp}{p q:Addr}{a b:HO} (h:p≠q):upd (upd H p a) q b=upd (upd H q b) p a:=by
 funext r
 by_cases h1:r=p
 ·rw [h1,upd_ne h,upd_same,upd_same]
 ·by_cases h2:r=q
  ·rw [h2,upd_same,upd_ne (Ne.symm h),upd_same]
  ·rw [upd_ne h2,upd_ne h1,upd_ne h1,upd_ne h2]
variable {x dx C p:Addr}{fs fs':List (Str×V)}{o:HO}
theorem mk_at:mkO H x dx C fs x=some (.ins C dx fs):=upd_same
theorem mk_put:upd (mkO H x dx C fs) x (.ins C dx fs')=mkO H x dx C fs':=updU
theorem mk_same (hx:H x=none) (hd:H dx=none) (ne:dx≠x):Same H (mkO H x dx C fs):=by
 refine (same_new hd _).trans (same_new ?_ _)
 rw [upd_ne (Ne.symm ne)]
 exact hx
theorem Go.made (g:Gh K CF CL CD CT M H₀ H) (hx:H x=none) (hd:H dx=none) (ne:dx≠x):Go K CF CL CD CT X M (setM M x .mine) H₀ H (mkO H x dx C fs):=by
 have S:=mk_same (C:=C) (fs:=fs) hx hd ne
 have nM:M x=none:=by
  cases h:M x with
  | none=>rfl
  | some r=>obtain⟨o,e⟩:=g.has x r h; rw [hx] at e; cases e
 have g1:=(g.grow S).role (p:=x) (r:=.mine) (.inl nM) (g.same.free hx) ⟨_,mk_at⟩ trivial
 refine⟨fun a r h=>?_,fun a h _=>?_,.of S,g1,fun _ _ ws _ h=>⟨ws,S _ _ h,Nat.le_refl _⟩⟩
 ·rw [setM_ne (fun z=>by rw [z,nM] at h; cases h)]; exact h
 ·obtain⟨o,e⟩:=g.has a _ h; exact (S _ _ e).trans e.symm
theorem Go.mineNew (g:Gh K CF CL CD CT M H₀ H) (hx:H p=none):Go K CF CL CD CT X M (setM M p .mine) H₀ H (upd H p o):=by
 have S:=same_new hx o
 have nM:M p=none:=by
  cases h:M p with
  | none=>rfl
  | some r=>obtain⟨o,e⟩:=g.has p r h; rw [hx] at e; cases e
 have g1:=(g.grow S).role (p:=p) (r:=.mine) (.inl nM) (g.same.free hx) ⟨_,upd_same⟩ trivial
 refine⟨fun a r h=>?_,fun a h _=>?_,.of S,g1,fun _ _ ws _ h=>⟨ws,S _ _ h,Nat.le_refl _⟩⟩
 ·rw [setM_ne (fun z=>by rw [z,nM] at h; cases h)]; exact h
 ·obtain⟨o,e⟩:=g.has a _ h; exact (S _ _ e).trans e.symm
theorem Go.role {r:Role} (g:Gh K CF CL CD CT M H₀ H) (S:Same H H') (hx:H p=none) (hh:∃ o,H' p=some o) (h:Ok1 K CF CL CD CT (setM M p r) H' p r):Go K CF CL CD CT X M (setM M p r) H₀ H H':=by
 have nM:M p=none:=by
  cases h:M p with
  | none=>rfl
  | some r=>obtain⟨o,e⟩:=g.has p r h; rw [hx] at e; cases e
 have g1:=(g.grow S).role (p:=p) (r:=r) (.inl nM) (g.same.free hx) hh h
 refine⟨fun a r h=>?_,fun a h _=>?_,.of S,g1,fun _ _ ws _ h=>⟨ws,S _ _ h,Nat.le_refl _⟩⟩
 ·rw [setM_ne (fun z=>by rw [z,nM] at h; cases h)]; exact h
 ·obtain⟨o,e⟩:=g.has a _ h; exact (S _ _ e).trans e.symm
theorem Gh.fresh (g:Gh K CF CL CD CT M H₀ H) (hx:H p=none):M p=none:=by
 cases h:M p with
 | none=>rfl
 | some r=>obtain⟨o,e⟩:=g.has p r h; rw [hx] at e; cases e
end
end Sw
namespace Sw
open PySem PySem.Spec PyProof.Rows L2
section
variable (K:PySem.W.Frag) (CF CL CD CT CG CW:Addr)
def UV (H:Hp) (t:T) (x:V):Prop:=TR K H t x∨∃ a dx v ts p,x=.ref a∧H a=some (.ins CL dx (fL v p))∧TR K H (.node ts) v∧p<ts.length∧ts.length≤8000000∧t=.node (ts.drop p)
def FV (M:Mp) (H:Hp) (t:T) (x:V):Prop:=∃ a dx y z u ts,x=.ref a∧H a=some (.ins CF dx (fF y z))∧t=.node (u::ts)∧RV K M H u y∧RV K M H (.node ts) z
def spFrInit:Sp:=fun vs H Q _=>∃ o dx y z,vs=[.ref o,y,z]∧H o=some (.ins CF dx [])∧Q .non (upd H o (.ins CF dx (fF y z)))
def spLaInit:Sp:=fun vs H Q _=>∃ (o dx:Addr) (v:V) (p:Nat),vs=[.ref o,v,.int (p:Int)]∧H o=some (.ins CL dx [])∧Q .non (upd H o (.ins CL dx (fL v p)))
def spGoInit:Sp:=fun vs H Q _=>∃ o dx a,vs=[.ref o,.ref a]∧H o=some (.ins CG dx [])∧Q .non (upd H o (.ins CG dx (fG a 0)))
def spTxInit:Sp:=fun vs H Q _=>∃ o dx v,vs=[.ref o,v]∧H o=some (.ins CT dx [])∧∀ W,H W=none→Q .non (upd (upd H W (.lst [])) o (.ins CT dx (fT v W)))
def spFirstOf:Sp:=fun vs H Q _=>∃ x t M H₀,vs=[x]∧Gh K CF CL CD CT M H₀ H∧RV K M H t x∧t.deep≤400∧∀ y H',Same H H'→RV K M H' (ats t.kids 0) y→Q y H'
def spLater:Sp:=fun vs H Q _=>∃ (x:V) (ts:List T) (p:Nat) (M:Mp) (H₀:Hp),vs=[x,.int (p:Int)]∧Gh K CF CL CD CT M H₀ H∧TR K H (.node ts) x∧ts.length≤8000000∧∀ y M' H',Same H H'→Go K CF CL CD CT (fun _=>False) M M' H₀ H H'→RV K M' H' (.node (ts.drop p)) y→Q y H'
def spRestOf:Sp:=fun vs H Q _=>∃ x t M H₀,vs=[x]∧Gh K CF CL CD CT M H₀ H∧RV K M H t x∧t.deep≤400∧t.kids.length≤8000000∧∀ y M' H',Same H H'→Go K CF CL CD CT (fun _=>False) M M' H₀ H H'→RV K M' H' (loadT t) y→Q y H'
def spUnfr:Sp:=fun vs H Q _=>∃ x t,vs=[x]∧UV K CL H t x∧∀ y H',Same H H'→TR K H' t y→Q y H'
def spPartsW:Sp:=fun vs H Q _=>∃ (x:V) (t:T) (M:Mp) (H₀:Hp) (m:Nat),vs=[x,.int (m:Int)]∧Gh K CF CL CD CT M H₀ H∧RV K M H t x∧t.parts≤8000000∧∀ (c:Nat) H',Same H H'→(t.parts≤m→c=t.parts)→(m<t.parts→m<c)→Q (.int (c:Int)) H'
def spAsTree:Sp:=fun vs H Q _=>∃ x t M H₀,vs=[x]∧Gh K CF CL CD CT M H₀ H∧RV K M H t x∧t.parts≤8000000∧∀ y H',Same H H'→TR K H' t y→Q y H'
end
section
variable {K:PySem.W.Frag}{CF CL CD CT CG CW:Addr}{M M':Mp}{H₀ H H':Hp}
theorem TR_kids' {t:T}{x:V} (h:TR K H t x):∃ b ys,x=.ref b∧SqT K H b ys∧TRs K H t.kids ys:=by
 cases t with
 | node ts=>exact TR_node.mp h
theorem RV.cases {t:T}{x:V} (g:Gh K CF CL CD CT M H₀ H) (h:RV K M H t x):UV K CL H t x∨FV K CF M H t x:=by
 rcases h with h | ⟨a,rfl,h⟩
 ·exact .inl (.inl h)
 ·rcases g.ok a _ h with⟨dx,y,z,u,ts,h1,h2,h3,h4⟩ | ⟨dx,v,ts,p,h1,h2,h3,h4,h5⟩
  ·exact .inr ⟨a,dx,y,z,u,ts,rfl,h1,h2,h3,h4⟩
  ·exact .inl (.inr ⟨a,dx,v,ts,p,rfl,h1,h2,h3,h4,h5⟩)
def WPW (K:PySem.W.Frag) (M:Mp) (H:Hp) (x:V) (m n:Nat) (p:Addr):Nat→Sg→Hp→Prop:=fun μ σ H'=>∃ (ys:List V) (ts:List T) (c:Nat) (o:Option V),
 σ=[some x,some (.int (m:Int)),some (.ref p),some (.int (c:Int)),o]∧Same H H'∧H' p=some (.lst ys)∧All2 (RV K M H') ts.reverse ys∧c+T.partsL ts=n∧μ=2 * T.partsL ts - ts.length
theorem all_row {ts:List T}{ys:List V} (k:Kt H H') (h:All2 (RV K M H) ts ys):All2 (RV K M H') ts ys:=h.imp fun _ _ z=>z.mono k fun _ _ y=>y
theorem trs_all:∀ {ts:List T}{ys:List V},TRs K H ts ys→All2 (RV K M H) ts ys
 | [],_,h=>by rw [TRs_nil.mp h]; exact .nil
 | t::ts,_,h=>by
  obtain⟨x,r,rfl,h1,h2⟩:=TRs_cons.mp h
  exact .cons (.inl h1) (trs_all h2)
theorem all_nil {α β:Type}{R:α→β→Prop}{ts:List α} (h:All2 R ts.reverse []):ts=[]:=by
 have:=h.length
 rw [List.length_reverse] at this
 exact List.length_eq_zero_iff.mp (by simpa using this.symm)
theorem all_last {α β:Type}{R:α→β→Prop}{ts:List α}{ys:List β} (h:All2 R ts.reverse ys) (hne:ys≠[]):∃ u ts0 ys0 y,ts=u::ts0∧ys=ys0++[y]∧All2 R ts0.reverse ys0∧R u y:=by
 cases ts with
 | nil=>exact absurd (by cases h; rfl) hne
 | cons u ts0 =>
  rw [List.reverse_cons] at h
  obtain⟨ys0,y,rfl,h1,h2⟩:=All2.snoc h
  exact⟨u,ts0,ys0,y,rfl,rfl,h1,h2⟩
theorem last_snoc {α:Type} (xs:List α) (y:α):(xs++[y])[(xs++[y]).length - 1]?=some y:=by simp
theorem drop_snoc {α:Type} (xs:List α) (y:α):(xs++[y]).dropLast=xs:=by simp
theorem all_lastD {α β:Type}{R:α→β→Prop}{ts:List α}{ys:List β} (h:All2 R ts.reverse ys) (hne:ys≠[]):∃ u ts0 y,ts=u::ts0∧ys[ys.length - 1]?=some y∧All2 R ts0.reverse ys.dropLast∧R u y:=by
 obtain⟨u,ts0,ys0,y,rfl,rfl,h1,h2⟩:=all_last h hne
 exact⟨u,ts0,y,rfl,last_snoc _ _,by rw [drop_snoc]; exact h1,h2⟩
theorem partsL_rev:∀ ts:List T,T.partsL ts.reverse=T.partsL ts
 | []=>rfl
 | t::ts=>by rw [List.reverse_cons,T.partsL_append,partsL_rev ts,T.partsL_cons,T.partsL_cons,T.partsL_nil]; lia
structure Ki (H H':Hp):Prop where
 kt:Kt H H'
 ins:∀ a C dx fs,H a=some (.ins C dx fs)→H' a=some (.ins C dx fs)
theorem Ki.of (S:Same H H'):Ki H H':=⟨.of S,fun a _ _ _ h=>S _ _ h⟩
theorem Ki.lst {p:Addr}{ys:List V}{o:HO} (h:H p=some (.lst ys)):Ki H (upd H p o):=⟨Kt.lst h,fun a _ _ _ e=>by rw [upd_ne (fun z=>by rw [z,h] at e; cases e)]; exact e⟩
theorem UV.mono {t:T}{x:V} (k:Ki H H') (h:UV K CL H t x):UV K CL H' t x:=by
 rcases h with h | ⟨a,dx,v,ts,p,h1,h2,h3,h4,h5,h6⟩
 ·exact .inl (h.mono k.kt)
 ·exact .inr ⟨a,dx,v,ts,p,h1,k.ins _ _ _ _ h2,h3.mono k.kt,h4,h5,h6⟩
theorem UV.notF {t:T}{x:V} (O:Own K CF CL CD CT CG CW) (h:UV K CL H t x):(∃ ty,TyOf K H x ty∧PySem.W.kitOne K ty (.ref CF)=some false)∨(∃ a ys,x=.ref a∧SqT K H a ys∧PySem.W.kitOne K (.type "tuple") (.ref CF)=some false):=by
 rcases h with h | ⟨a,dx,v,ts,p,rfl,h2,_⟩
 ·obtain⟨b,ys,rfl,hb,_⟩:=TR_kids' h
  exact .inr ⟨b,ys,rfl,hb,O.iTF⟩
 ·exact .inl ⟨_,O.rL.ty h2,O.iLF⟩
theorem smallM' {n:Nat} (h:n<16000000):n<sizeLine:=Nat.lt_of_lt_of_le h (by decide)
end
end Sw
namespace Sw
open PySem PySem.Spec PyProof.Rows L2
def valT:List (List T)→List T→T
 | [l],r::_=>.node (l++r.kids)
 | l::l'::ls,r::rs=>valT ((l'++[.node (l++r.kids)])::ls) rs
 | _,_=>leaf
theorem val_open (l:List T) (ls:List (List T)) (u:T) (ts:List T) (rs:List T):valT ([]::l::ls) (u::.node ts::rs)=valT (l::ls) (.node (u::ts)::rs):=by
 rw [valT]
 have e:T.node ([]++u.kids)=u:=by cases u; rfl
 rw [e]
 cases ls with
 | nil =>
  show T.node ((l++[u])++ts)=T.node (l++(u::ts))
  rw [List.append_assoc]; rfl
 | cons l' ls =>
  rw [valT,valT]
  have:(l++[u])++(T.node ts).kids=l++(T.node (u::ts)).kids:=by
   show (l++[u])++ts=l++(u::ts)
   rw [List.append_assoc]; rfl
  rw [this]
structure AsT (K:PySem.W.Frag) (H₀ H:Hp) (R P:Addr) (ys:List V) (st:List (List T)) (zs:List V):Prop where
 rows:RowsR K H₀ H R st ys
 pn:H₀ P=none
 at_:H P=some (.lst zs)
 np:(.ref P:V) ∉ (.ref R:V)::ys
section
variable {K:PySem.W.Frag}{H₀ H H':Hp}{R P:Addr}{ys zs zs':List V}{st:List (List T)}
theorem AsT.grow (h:AsT K H₀ H R P ys st zs) (S:Same H H'):AsT K H₀ H' R P ys st zs:=⟨rows_same h.rows S,h.pn,S _ _ h.at_,h.np⟩
theorem AsT.PR (h:AsT K H₀ H R P ys st zs):P≠R:=fun z=>h.np (by rw [z]; exact List.mem_cons_self)
theorem AsT.place (h:AsT K H₀ H R P ys st zs):AsT K H₀ (upd H P (.lst zs')) R P ys st zs':=⟨rows_else h.rows (Kt.lst h.at_) h.pn h.np,h.pn,upd_same,h.np⟩
theorem AsT.enter (h:AsT K H₀ H R P ys st zs) {q:Addr} (hq:H q=none):AsT K H₀ (upd (upd H q (.lst [])) R (.lst (ys++[.ref q]))) R P (ys++[.ref q]) ([]::st) zs:=by
 have nPq:P≠q:=ne_of_none h.at_ hq
 refine⟨rows_open h.rows hq,h.pn,?_,fun z=>?_⟩
 ·rw [upd_ne h.PR,upd_ne nPq]; exact h.at_
 ·rcases List.mem_cons.mp z with z | z
  ·exact h.PR (V.ref.inj z)
  ·rcases List.mem_append.mp z with z | z
   ·exact h.np (List.mem_cons_of_mem _ z)
   ·exact nPq (V.ref.inj (List.mem_singleton.mp z))
theorem AsT.add {r:List T}{rs:List (List T)}{t:T}{x:V} (h:AsT K H₀ H R P ys (r::rs) zs) (ht:TR K H t x) :
  ∃ (ys0:List V) (a:Addr) (xs:List V),ys=ys0++[.ref a]∧H a=some (.lst xs)∧xs.length=r.length∧AsT K H₀ (upd H a (.lst (xs++[x]))) R P ys ((r++[t])::rs) zs:=by
 have hr:=h.rows.rows
 rw [List.reverse_cons] at hr
 obtain⟨ys0,y,rfl,h1,a,xs,rfl,ha0,ha,hta⟩:=All2.snoc hr
 have nd:=h.rows.nd
 have ndp:=(List.nodup_cons.mp nd).1
 have ndy:=(List.nodup_cons.mp nd).2
 have na:(.ref a:V) ∉ ys0:=fun z=>(List.nodup_append.mp ndy).2.2 _ z _ (by simp) rfl
 have nRa:R≠a:=fun z=>ndp (by rw [z]; simp)
 have nPa:P≠a:=fun z=>h.np (by rw [z]; simp)
 have k:=Kt.lst (o:=.lst (xs++[x])) ha
 refine⟨ys0,a,xs,rfl,ha,hta.length,⟨h.rows.new,same_upd h.rows.same ha0,by rw [upd_ne nRa]; exact h.rows.at_,?_,nd⟩,h.pn,by rw [upd_ne nPa]; exact h.at_,h.np⟩
 rw [List.reverse_cons]
 exact All2.append (rows_upd k h1 na) (All2.one ⟨a,_,rfl,ha0,upd_same,TRs.append (hta.mono k) (trs1 (ht.mono k))⟩)
theorem AsT.shut {r:List T}{rs:List (List T)} (h:AsT K H₀ H R P ys (r::rs) zs) :
  ∃ (ys0:List V) (a:Addr) (xs:List V),ys=ys0++[.ref a]∧R≠a∧H a=some (.lst xs)∧TRs K H r xs∧AsT K H₀ (upd H R (.lst ys0)) R P ys0 rs zs:=by
 have hr:=h.rows.rows
 rw [List.reverse_cons] at hr
 obtain⟨ys0,y,rfl,h1,a,xs,rfl,ha0,ha,hta⟩:=All2.snoc hr
 have nd:=h.rows.nd
 have ndp:=(List.nodup_cons.mp nd).1
 have ndy:=(List.nodup_cons.mp nd).2
 have nRa:R≠a:=fun z=>ndp (by rw [z]; simp)
 have k:=Kt.lst (o:=.lst ys0) h.rows.at_
 refine⟨ys0,a,xs,rfl,nRa,ha,hta,⟨h.rows.new,same_upd h.rows.same h.rows.new,upd_same,rows_upd k h1 fun z=>ndp (by simp [z]),List.nodup_cons.mpr ⟨fun z=>ndp (by simp [z]),(List.nodup_append.mp ndy).1⟩⟩,h.pn,by rw [upd_ne h.PR]; exact h.at_,fun z=>h.np ?_⟩
 rcases List.mem_cons.mp z with z | z
 ·rw [z]; exact List.mem_cons_self
 ·exact List.mem_cons_of_mem _ (List.mem_append_left _ z)
theorem ix_last {α:Type} (xs:List α) (y:α):ixN (xs++[y]).length (-1)=some xs.length:=by
 unfold ixN
 have hl:(xs++[y]).length=xs.length+1:=by simp
 rw [if_neg (by decide),if_pos (by rw [hl]; lia),hl,show ((-1:Int)+((xs.length+1:Nat):Int)).toNat=xs.length by lia]
theorem set_last {α:Type} (xs:List α) (y z:α):(xs++[y]).set xs.length z=xs++[z]:=by simp
end
end Sw
namespace Sw
open PySem PySem.Spec PyProof.Rows L2
def placeT (k:Nat) (t:T):Nat:=if k=7 then (if t.kids=[] then 8 else 7) else if k=8 then (if t.kids=[] then 10 else 9) else if k=9 then 11 else k
section
variable (K:PySem.W.Frag) (CF CL CD CT CG CW:Addr)
def spPlace:Sp:=fun vs H Q _=>∃ (k:Nat) (x:V) (t:T) (M:Mp) (H₀:Hp),vs=[.int (k:Int),x]∧Gh K CF CL CD CT M H₀ H∧RV K M H t x∧t.deep≤400∧∀ H',Same H H'→Q (.int (placeT k t:Nat)) H'
def W7 (M:Mp) (w:T) (y n:V):Prop:=sortT w=7→∃ ay an,y=.ref ay∧n=.ref an∧IsTx M ay (ats (loadT w).kids 0)∧IsTx M an (loadT (loadT w))
def W8 (M:Mp) (w:T) (b:V):Prop:=sortT w=8→∃ ab,b=.ref ab∧IsTx M ab (loadT w)
def spWdInit:Sp:=fun vs H Q _=>∃ (o dx:Addr) (x:V) (w:T) (M:Mp) (H₀:Hp),vs=[.ref o,x]∧Gh K CF CL CD CT M H₀ H∧M o=some .mine∧H o=some (.ins CD dx [])∧TR K H w x∧w.deep≤400 ∧
 ∀ M' H' v y n b,Go K CF CL CD CT (fun a=>a=o) M M' H₀ H H'→(∀ c u,H c=some u→c≠o→H' c=some u)→H' o=some (.ins CD dx (fD (sortT w) v y n b .non))→TR K H' (loadT w) v→W7 M' w y n→W8 M' w b→Q .non H'
def spBodyP:Sp:=fun vs H Q _=>∃ (b:Addr) (w:T) (M:Mp) (H₀:Hp),vs=[.ref b]∧Gh K CF CL CD CT M H₀ H∧M b=some (.word w)∧(loadT w).parts≤8000000∧∀ H',Go K CF CL CD CT (fun _=>False) M M H₀ H H'→Q (.int ((loadT w).parts:Nat)) H'
def spWordAt:Sp:=fun vs H Q _=>∃ (a:Addr) (t:T) (W:Addr) (p:Nat) (M:Mp) (H₀:Hp) (ws:List V),vs=[.ref a,.int (p:Int)]∧Gh K CF CL CD CT M H₀ H∧M a=some (.text t W)∧H W=some (.lst ws)∧p≤ws.length∧p≤t.kids.length∧t.deep≤400∧t.kids.length≤8000000 ∧
 (p=t.kids.length→Q .non H)∧∀ w,t.kids[p]?=some w→∀ b M' H',Go K CF CL CD CT (fun _=>False) M M' H₀ H H'→M' b=some (.word w)→(∀ ws',H' W=some (.lst ws')→p+1≤ws'.length)→Q (.ref b) H'
end
section
variable {K:PySem.W.Frag}{CF CL CD CT CG CW:Addr}{M M' M'':Mp}{H₀ H H' H1:Hp}{X:Addr→Prop}
theorem Go.mutX {p:Addr}{u:HO} (a:Go K CF CL CD CT X M M' H₀ H H1) (hm:M' p=some .mine) (hX:X p) (k:Kt H1 (upd H1 p u)):Go K CF CL CD CT X M M' H₀ H (upd H1 p u) :=
 ⟨a.ext,fun q h x=>by rw [upd_ne (fun z:q=p=>x (by rw [z]; exact hX))]; exact a.mine q h x,a.kt.trans k,a.gh.mut hm k,fun W t ws h1 h2=>by
  obtain⟨ws',e,l⟩:=a.wds W t ws h1 h2
  have nW:W≠p:=fun z=>by have:=a.ext _ _ h1; rw [z,hm] at this; cases this
  exact⟨ws',by rw [upd_ne nW]; exact e,l⟩⟩
theorem Go.newText {a da W:Addr}{t:T}{v:V} (g:Gh K CF CL CD CT M H₀ H) (tv:TR K H t v) (ha:H a=none) (hd:H da=none) (ne:da≠a) (hW:mkO H a da CT [] W=none) :
  Go K CF CL CD CT X M (setM (setM M W (.words t)) a (.text t W)) H₀ H (upd (upd (mkO H a da CT []) W (.lst [])) a (.ins CT da (fT v W)))∧Same H (upd (upd (mkO H a da CT []) W (.lst [])) a (.ins CT da (fT v W)))∧IsTx (setM (setM M W (.words t)) a (.text t W)) a t:=by
 have S1:=mk_same (C:=CT) (fs:=[]) ha hd ne
 have hW0:H W=none:=S1.free hW
 have naW:a≠W:=fun z=>by rw [← z,mk_at] at hW; cases hW
 have S2:=S1.trans (same_new hW (.lst []))
 have S3:Same H (upd (upd (mkO H a da CT []) W (.lst [])) a (.ins CT da (fT v W))):=same_upd S2 ha
 have hWl:upd (upd (mkO H a da CT []) W (.lst [])) a (.ins CT da (fT v W)) W=some (.lst []):=by rw [upd_ne (Ne.symm naW),upd_same]
 have nMa:=g.fresh ha
 have nMW:=g.fresh hW0
 have g1:Gh K CF CL CD CT (setM M W (.words t)) H₀ (upd (upd (mkO H a da CT []) W (.lst [])) a (.ins CT da (fT v W))) :=
  (g.grow S3).role (p:=W) (.inl nMW) (g.same.free hW0) ⟨_,hWl⟩ ⟨[],hWl,Nat.zero_le _,fun j x h=>by simp at h⟩
 have g2:Gh K CF CL CD CT (setM (setM M W (.words t)) a (.text t W)) H₀ (upd (upd (mkO H a da CT []) W (.lst [])) a (.ins CT da (fT v W))) :=
  g1.role (p:=a) (.inl (by rw [setM_ne naW]; exact nMa)) (g.same.free ha) ⟨_,upd_same⟩ ⟨da,v,upd_same,tv.mono (.of S3),by rw [setM_ne (Ne.symm naW),setM_same]⟩
 refine⟨⟨fun p r h=>?_,fun p h _=>?_,.of S3,g2,fun _ _ ws _ h=>⟨ws,S3 _ _ h,Nat.le_refl _⟩⟩,S3,W,setM_same⟩
 ·rw [setM_ne (fun z=>by rw [z,nMa] at h; cases h),setM_ne (fun z=>by rw [z,nMW] at h; cases h)]; exact h
 ·obtain⟨o,e⟩:=g.has p _ h; exact (S3 _ _ e).trans e.symm
theorem IsTx.ext {a:Addr}{t:T} (h:IsTx M a t) (G:Go K CF CL CD CT X M M' H₀ H H'):IsTx M' a t:=by obtain⟨W,e⟩:=h; exact⟨W,G.ext _ _ e⟩
def d1 (k:V):List (Str×V):=[("kind",k)]
def d2 (k v:V):List (Str×V):=[("kind",k),("load",v)]
def d3 (k v y:V):List (Str×V):=[("kind",k),("load",v),("yes",y)]
def d4 (k v y n:V):List (Str×V):=[("kind",k),("load",v),("yes",y),("no",n)]
def d5 (k v y n b:V):List (Str×V):=[("kind",k),("load",v),("yes",y),("no",n),("body",b)]
theorem pd1 (k:V):putF "kind" k []=d1 k:=rfl
theorem pd2 (k v:V):putF "load" v (d1 k)=d2 k v:=by unfold d1 d2; rw [putF_ne (by decide +kernel)]; rfl
theorem pd3 (k v y:V):putF "yes" y (d2 k v)=d3 k v y:=by unfold d2 d3; rw [putF_ne (by decide +kernel),putF_ne (by decide +kernel)]; rfl
theorem pd4 (k v y n:V):putF "no" n (d3 k v y)=d4 k v y n:=by unfold d3 d4; rw [putF_ne (by decide +kernel),putF_ne (by decide +kernel),putF_ne (by decide +kernel)]; rfl
theorem pd5 (k v y n b:V):putF "body" b (d4 k v y n)=d5 k v y n b:=by unfold d4 d5; rw [putF_ne (by decide +kernel),putF_ne (by decide +kernel),putF_ne (by decide +kernel),putF_ne (by decide +kernel)]; rfl
theorem pd6 (k:Nat) (v y n b z:V):putF "size" z (d5 (.int (k:Int)) v y n b)=fD k v y n b z:=by unfold d5 fD; rw [putF_ne (by decide +kernel),putF_ne (by decide +kernel),putF_ne (by decide +kernel),putF_ne (by decide +kernel),putF_ne (by decide +kernel)]; rfl
variable {k:Nat}{v y n b z u:V}
theorem pdY:putF "yes" u (fD k v y n b z)=fD k v u n b z:=by unfold fD; rw [putF_ne (by decide +kernel),putF_ne (by decide +kernel),putF_eq]
theorem pdN:putF "no" u (fD k v y n b z)=fD k v y u b z:=by unfold fD; rw [putF_ne (by decide +kernel),putF_ne (by decide +kernel),putF_ne (by decide +kernel),putF_eq]
theorem pdB:putF "body" u (fD k v y n b z)=fD k v y n u z:=by unfold fD; rw [putF_ne (by decide +kernel),putF_ne (by decide +kernel),putF_ne (by decide +kernel),putF_ne (by decide +kernel),putF_eq]
theorem pdS:putF "size" u (fD k v y n b z)=fD k v y n b u:=by unfold fD; rw [putF_ne (by decide +kernel),putF_ne (by decide +kernel),putF_ne (by decide +kernel),putF_ne (by decide +kernel),putF_ne (by decide +kernel),putF_eq]
theorem ldK:(fD k v y n b z).lookup ("kind":Str)=some (.int (k:Int)):=lk_eq _ _ _
theorem ldL:(fD k v y n b z).lookup ("load":Str)=some v:=(lk_ne (by decide +kernel) _ _).trans (lk_eq _ _ _)
theorem ldY:(fD k v y n b z).lookup ("yes":Str)=some y:=(lk_ne (by decide +kernel) _ _).trans ((lk_ne (by decide +kernel) _ _).trans (lk_eq _ _ _))
theorem ldN:(fD k v y n b z).lookup ("no":Str)=some n:=(lk_ne (by decide +kernel) _ _).trans ((lk_ne (by decide +kernel) _ _).trans ((lk_ne (by decide +kernel) _ _).trans (lk_eq _ _ _)))
theorem ldB:(fD k v y n b z).lookup ("body":Str)=some b:=(lk_ne (by decide +kernel) _ _).trans ((lk_ne (by decide +kernel) _ _).trans ((lk_ne (by decide +kernel) _ _).trans ((lk_ne (by decide +kernel) _ _).trans (lk_eq _ _ _))))
theorem ldS:(fD k v y n b z).lookup ("size":Str)=some z:=(lk_ne (by decide +kernel) _ _).trans ((lk_ne (by decide +kernel) _ _).trans ((lk_ne (by decide +kernel) _ _).trans ((lk_ne (by decide +kernel) _ _).trans ((lk_ne (by decide +kernel) _ _).trans (lk_eq _ _ _)))))
theorem ldNo {m:Str} (h1:(m == "kind")=false) (h2:(m == "load")=false) (h3:(m == "yes")=false) (h4:(m == "no")=false) (h5:(m == "body")=false) (h6:(m == "size")=false):(fD k v y n b z).lookup m=none :=
 (lk_ne h1 _ _).trans ((lk_ne h2 _ _).trans ((lk_ne h3 _ _).trans ((lk_ne h4 _ _).trans ((lk_ne h5 _ _).trans ((lk_ne h6 _ _).trans rfl)))))
theorem eq_leaf {CG CW:Addr}{m:Nat} (O:Own K CF CL CD CT CG CW) (g:Gh K CF CL CD CT M H₀ H) {t:T}{x:V}{p:Addr} (hx:RV K M H t x) (hd:t.deep≤m) (hp:H p=none) {Q:VK} (q:Q (.bl (decide (t.kids=[]))) (upd H p (.tup []))):rEqRow K m x (.ref p) (upd H p (.tup [])) Q:=by
 have S:=same_new hp (.tup [])
 rcases hx.cases g with h | ⟨a,dx,y,z,u,ts,rfl,ha,rfl,_,_⟩
 ·rcases h with h | ⟨a,dx,v,ts,j,rfl,ha,_,hj,_,rfl⟩
  ·refine .inl ⟨t,.node [],h.mono (.of S),(tupN (K:=K) (ts:=[]) hp (TRs_nil.mpr rfl)).2,hd,?_⟩
   have e:T.beq t (.node [])=decide (t.kids=[]):=by
    by_cases z:t.kids=[]
    ·rw [decide_eq_true z]
     exact (T.beq_iff _ _).mpr (by cases t; exact congrArg T.node z)
    ·rw [decide_eq_false z]
     exact Bool.eq_false_iff.mpr fun y=>z (by rw [(T.beq_iff _ _).mp y]; rfl)
   rw [e]
   exact q
  ·refine .inr ⟨a,CL,dx,_,p,[],rfl,S _ _ ha,O.rL,rfl,upd_same,?_⟩
   have z:¬ (T.node (ts.drop j)).kids=[]:=fun z=>by
    have:(ts.drop j).length=0:=by rw [show ts.drop j=[] from z]; rfl
    rw [List.length_drop] at this
    lia
   rw [← decide_eq_false z]
   exact q
 ·refine .inr ⟨a,CF,dx,_,p,[],rfl,S _ _ ha,O.rF,rfl,upd_same,?_⟩
  have z:¬ (T.node (u::ts)).kids=[]:=fun z=>by cases z
  rw [← decide_eq_false z]
  exact q
theorem ifAll {tc:TT}{tb u:TS}{D:Ends}{σ:L2.St}{H:Hp} (P:L2.St→Hp→Prop) (k:∀ σ' H',P σ' H'→u D σ' H')
  (h:∀ A B:Hp→Prop,(∀ H1,(∀ N:L2.St→Hp→Prop,(∀ σ' H',P σ' H'→N σ' H')→tb { D with nx:=N } σ H1)→A H1)→(∀ H1,P σ H1→B H1)→tc σ H (fun b H1=>if b=true then A H1 else B H1)) :
  tSeq (tIfS tc tb tNext) u D σ H :=
 h (fun H1=>tb { D with nx:=u D } σ H1) (fun H1=>tNext { D with nx:=u D } σ H1) (fun H1 r=>r _ k) (fun H1 p=>k _ _ p)
theorem deepL_mem {t:T}:∀ {ts:List T},t∈ts→t.deep+1≤T.deepL ts
 | u::us,h=>by
  rw [T.deepL_cons]
  rcases List.mem_cons.mp h with rfl | h
  ·lia
  ·have:=deepL_mem h; lia
theorem deep_kid {t w:T}{p:Nat} (h:t.kids[p]?=some w):w.deep+1≤t.deep:=by
 cases t with
 | node ts =>
  rw [T.deep_node]
  exact deepL_mem (List.mem_of_getElem? h)
theorem deepL_drop (ts:List T) (k:Nat):T.deepL (ts.drop k)≤T.deepL ts:=by
 have:T.deepL ts=max (T.deepL (ts.take k)) (T.deepL (ts.drop k)):=by rw [← T.deepL_append,List.take_append_drop]
 lia
theorem deep_load (w:T):(loadT w).deep≤w.deep:=by
 cases w with
 | node ts =>
  show (T.node (ts.drop 1)).deep≤_
  rw [T.deep_node,T.deep_node]
  exact deepL_drop ts 1
end
end Sw
namespace Sw
open PySem PySem.Spec PyProof.Rows L2
section
variable (K:PySem.W.Frag) (CF CL CD CT CG CW:Addr)
def spWork:Sp:=fun vs H Q _=>∃ (k:Nat) (y:V) (S:Addr) (l:T) (s:List T) (rows:List V) (M:Mp) (H₀:Hp),vs=[.int (k:Int),y,.ref S]∧Gh K CF CL CD CT M H₀ H∧M S=some .mine∧H S=some (.lst rows)∧All2 (RV K M H) s.reverse rows∧TR K H l y∧looks k≤s.length∧B 395 8000010 (.node s)∧(∀ t∈s,t.kids.length≤8000000) ∧
 ∀ M' H' rows',Go K CF CL CD CT (fun a=>a=S) M M' H₀ H H'→H' S=some (.lst rows')→All2 (RV K M' H') (workT k l s).reverse rows'→Q .non H'
def GoAt (M:Mp) (H:Hp) (t:T) (x:V):Prop:=∃ g dx a W p tt,x=.ref g∧M g=some .mine∧H g=some (.ins CG dx (fG a p))∧M a=some (.text tt W)∧p≤tt.kids.length∧(∃ ws,H W=some (.lst ws)∧p≤ws.length)∧t=.node (tt.kids.drop p)∧B 389 8000000 tt
structure WkX (M:Mp) (H₀ H:Hp) (o dx G S N:Addr) (gs rows:List V) (tx s:List T) (num:List Nat) (b:Nat):Prop where
 gh:Gh K CF CL CD CT M H₀ H
 ob:H o=some (.ins CW dx (fW G S N b))
 mo:M o=some .mine
 mG:M G=some .mine
 mS:M S=some .mine
 mN:M N=some .mine
 hG:H G=some (.lst gs)
 hS:H S=some (.lst rows)
 hN:H N=some (.lst (num.map nv))
 gos:All2 (GoAt CG M H) tx.reverse gs
 sts:All2 (RV K M H) s.reverse rows
 n15:num.length=15
 dGS:G≠S
 dGN:G≠N
 dSN:S≠N
 nd:gs.Nodup
def Wk (M:Mp) (H₀ H:Hp) (o:Addr) (tx s:List T) (num:List Nat) (b:Nat):Prop:=∃ dx G S N gs rows,WkX K CF CL CD CT CG CW M H₀ H o dx G S N gs rows tx s num b
def spAtEnd:Sp:=fun vs H Q _=>∃ o M H₀ tx s num b,vs=[.ref o]∧Wk K CF CL CD CT CG CW M H₀ H o tx s num b∧Q (.bl (decide (tx=[]))) H
def spTop:Sp:=fun vs H Q _=>∃ o M H₀ tx s num b,vs=[.ref o]∧Wk K CF CL CD CT CG CW M H₀ H o tx s num b∧∀ x H',Same H H'→RV K M H' (ats s 0) x→Q x H'
def spTally:Sp:=fun vs H Q _=>∃ o M H₀ tx s num b,vs=[.ref o]∧Wk K CF CL CD CT CG CW M H₀ H o tx s num b∧∀ c H',Same H H'→SqT K H' c (num.map nv)→Q (.ref c) H'
def spWkInit:Sp:=fun vs H Q _=>∃ (o dx:Addr) (x:V) (tx s:List T) (b:Nat) (M:Mp) (H₀:Hp),vs=[.ref o,x,.int (b:Int)]∧Gh K CF CL CD CT M H₀ H∧M o=some .mine∧H o=some (.ins CW dx [])∧TR K H (pairT tx s) x∧BX tx∧B 390 8000000 (.node s)∧∀ M' H',Wk K CF CL CD CT CG CW M' H₀ H' o tx s zero15 b→Q .non H'
def MvT (k:Nat) (w:T) (ws:List T) (rest sp:List T) (num:List Nat) (tx' s':List T) (num':List Nat):Prop :=
 (k=9∧sortT w=8∧tx'=loadT w::.node (w::ws)::rest∧s'=sp∧num'=num.set 14 (num.getD 14 0+(loadT w).parts)) ∨
 (k=7∧sortT w=7∧tx'=ats (loadT w).kids 0::.node ws::rest∧s'=sp∧num'=num) ∨
 (k=8∧sortT w=7∧tx'=loadT (loadT w)::.node ws::rest∧s'=sp∧num'=num) ∨
 ((k≤6∨k=10∨k=11)∧tx'=.node ws::rest∧s'=workT k (loadT w) sp∧num'=num)
def Rdy (M:Mp) (H:Hp) (g:Addr) (w:T) (ws:List T):Prop:=∃ dg a W j tt wl,M g=some .mine∧H g=some (.ins CG dg (fG a j))∧M a=some (.text tt W)∧H W=some (.lst wl)∧j+1≤wl.length∧tt.kids.drop j=w::ws∧B 389 8000000 tt
def spMove:Sp:=fun vs H Q _=>∃ (o dx G S N:Addr) (gs0:List V) (g:Addr) (rows:List V) (p:T) (rest sp:List T) (num:List Nat) (b k:Nat) (wv:V) (M:Mp) (H₀:Hp),vs=[.ref o,.int (k:Int),.ref g,wv]∧WkX K CF CL CD CT CG CW M H₀ H o dx G S N (gs0++[.ref g]) rows (p::rest) sp num b∧looks k≤sp.length∧B 395 8000010 (.node sp)∧(∀ t∈sp,t.kids.length≤8000000)∧rest.length≤8000000 ∧
 ((k=12∧∀ M' H',Wk K CF CL CD CT CG CW M' H₀ H' o rest sp num b→Q .non H') ∨ ∃ w ws bw tx' s' num',p=.node (w::ws)∧wv=.ref bw∧M bw=some (.word w)∧Rdy CG M H g w ws∧MvT k w ws rest sp num tx' s' num'∧BX tx'∧(loadT w).parts≤8000000∧∀ M' H',Wk K CF CL CD CT CG CW M' H₀ H' o tx' s' num' b→Q .non H')
def spStepW:Sp:=fun vs H Q _=>∃ o M H₀ tx s num b,vs=[.ref o]∧Wk K CF CL CD CT CG CW M H₀ H o tx s num b∧tx≠[]∧BX tx∧B 390 8000000 (.node s)∧(costT tx s≤b→BX (onward tx s).1∧B 390 8000000 (.node (onward tx s).2.1)) ∧
 (b<costT tx s→∀ M' H',Wk K CF CL CD CT CG CW M' H₀ H' o tx s num b→Q (.bl false) H') ∧
 (costT tx s≤b→∀ M' H',Wk K CF CL CD CT CG CW M' H₀ H' o (onward tx s).1 (onward tx s).2.1 (addT num (eventT tx s)) (b - costT tx s)→Q (.bl true) H')
end
section
variable {K:PySem.W.Frag}{CF CL CD CT CG CW:Addr}{M M':Mp}{H₀ H H':Hp}{X:Addr→Prop}
theorem GoAt.go {t:T}{x:V} (G:Go K CF CL CD CT X M M' H₀ H H') (hX:∀ g,x=.ref g→¬ X g) (g0:Gh K CF CL CD CT M H₀ H) (h:GoAt CG M H t x):GoAt CG M' H' t x:=by
 obtain⟨g,dx,a,W,p,tt,rfl,h1,h2,h3,h4,⟨ws,h5,h6⟩,h7,h8⟩:=h
 obtain⟨_,_,_,_,h9⟩:=g0.ok a _ h3
 obtain⟨ws',e1,e2⟩:=G.wds W _ ws h9 h5
 exact⟨g,dx,a,W,p,tt,rfl,G.ext _ _ h1,(G.mine g h1 (hX g rfl)).trans h2,G.ext _ _ h3,h4,⟨ws',e1,by lia⟩,h7,h8⟩
variable {o dx G S N:Addr}{gs rows:List V}{tx s:List T}{num:List Nat}{b:Nat}
theorem WkX.go (w:WkX K CF CL CD CT CG CW M H₀ H o dx G S N gs rows tx s num b) (g:Go K CF CL CD CT (fun _=>False) M M' H₀ H H'):WkX K CF CL CD CT CG CW M' H₀ H' o dx G S N gs rows tx s num b :=
 ⟨g.gh,(g.mine o w.mo id).trans w.ob,g.ext _ _ w.mo,g.ext _ _ w.mG,g.ext _ _ w.mS,g.ext _ _ w.mN,(g.mine G w.mG id).trans w.hG,(g.mine S w.mS id).trans w.hS,(g.mine N w.mN id).trans w.hN,w.gos.imp fun _ _ h=>h.go g (fun _ _=>id) w.gh,w.sts.imp fun _ _ h=>g.rv h,w.n15,w.dGS,w.dGN,w.dSN,w.nd⟩
theorem WkX.grow (w:WkX K CF CL CD CT CG CW M H₀ H o dx G S N gs rows tx s num b) (S1:Same H H'):WkX K CF CL CD CT CG CW M H₀ H' o dx G S N gs rows tx s num b:=w.go (.grow w.gh S1)
variable {A B C:Addr}{c:Nat}
theorem lwG:(fW A B C c).lookup ("goings":Str)=some (.ref A):=lk_eq _ _ _
theorem lwS:(fW A B C c).lookup ("stack":Str)=some (.ref B):=(lk_ne (by decide +kernel) _ _).trans (lk_eq _ _ _)
theorem lwN:(fW A B C c).lookup ("numbers":Str)=some (.ref C):=(lk_ne (by decide +kernel) _ _).trans ((lk_ne (by decide +kernel) _ _).trans (lk_eq _ _ _))
theorem lwL:(fW A B C c).lookup ("left":Str)=some (.int (c:Int)):=(lk_ne (by decide +kernel) _ _).trans ((lk_ne (by decide +kernel) _ _).trans ((lk_ne (by decide +kernel) _ _).trans (lk_eq _ _ _)))
theorem lwNo {m:Str} (h1:(m == "goings")=false) (h2:(m == "stack")=false) (h3:(m == "numbers")=false) (h4:(m == "left")=false):(fW A B C c).lookup m=none:=(lk_ne h1 _ _).trans ((lk_ne h2 _ _).trans ((lk_ne h3 _ _).trans ((lk_ne h4 _ _).trans rfl)))
theorem pwL (d:Nat):putF "left" (.int (d:Int)) (fW A B C c)=fW A B C d:=by unfold fW; rw [putF_ne (by decide +kernel),putF_ne (by decide +kernel),putF_ne (by decide +kernel),putF_eq]
theorem lgT {a:Addr}{p:Nat}:(fG a p).lookup ("text":Str)=some (.ref a):=lk_eq _ _ _
theorem lgP {a:Addr}{p:Nat}:(fG a p).lookup ("place":Str)=some (.int (p:Int)):=(lk_ne (by decide +kernel) _ _).trans (lk_eq _ _ _)
theorem pgP {a:Addr}{p q:Nat}:putF "place" (.int (q:Int)) (fG a p)=fG a q:=by unfold fG; rw [putF_ne (by decide +kernel),putF_eq]
theorem ltNo {v:V}{W:Addr}{m:Str} (h1:(m == "tree")=false) (h2:(m == "words")=false):(fT v W).lookup m=none:=(lk_ne h1 _ _).trans ((lk_ne h2 _ _).trans rfl)
theorem all_last2 {α β:Type}{R:α→β→Prop}{ts:List α}{ys:List β} (h:All2 R ts.reverse ys) (hl:2≤ts.length):∃ a b ts0 ys0 y z,ts=a::b::ts0∧ys=ys0++[z]++[y]∧All2 R ts0.reverse ys0∧R a y∧R b z:=by
 have hyl:=h.length
 rw [List.length_reverse] at hyl
 obtain⟨a,ts1,ys1,y,rfl,rfl,h1,h2⟩:=all_last h (by rintro rfl; simp at hyl; lia)
 have hyl1:=h1.length
 rw [List.length_reverse] at hyl1
 simp only [List.length_cons] at hl
 obtain⟨b,ts0,ys0,z,rfl,rfl,h3,h4⟩:=all_last h1 (by rintro rfl; simp at hyl1; lia)
 exact⟨a,b,ts0,ys0,y,z,rfl,rfl,h3,h2,h4⟩
theorem all_last3 {α β:Type}{R:α→β→Prop}{ts:List α}{ys:List β} (h:All2 R ts.reverse ys) (hl:3≤ts.length):∃ a b c ts0 ys0 y z w,ts=a::b::c::ts0∧ys=ys0++[w]++[z]++[y]∧All2 R ts0.reverse ys0∧R a y∧R b z∧R c w:=by
 obtain⟨a,b,ts1,ys1,y,z,rfl,rfl,h1,h2,h3⟩:=all_last2 h (by lia)
 have hyl1:=h1.length
 rw [List.length_reverse] at hyl1
 simp only [List.length_cons] at hl
 obtain⟨c,ts0,ys0,w,rfl,rfl,h4,h5⟩:=all_last h1 (by rintro rfl; simp at hyl1; lia)
 exact⟨a,b,c,ts0,ys0,y,z,w,rfl,rfl,h4,h2,h3,h5⟩
theorem si2 {α:Type} (xs:List α) (z y:α):seqIndex? (-2) (xs++[z]++[y]).length=some xs.length:=by
 have hl:(xs++[z]++[y]).length=xs.length+2:=by simp
 rw [hl]
 have:=(ixN_seq (n:=xs.length+2) (i:=-2) (j:=xs.length) (by unfold ixN; rw [if_neg (by decide),if_pos (by lia)]; congr 1; lia)).1
 exact this
theorem si3 {α:Type} (xs:List α) (w z y:α):seqIndex? (-3) (xs++[w]++[z]++[y]).length=some xs.length:=by
 have hl:(xs++[w]++[z]++[y]).length=xs.length+3:=by simp
 rw [hl]
 have:=(ixN_seq (n:=xs.length+3) (i:=-3) (j:=xs.length) (by unfold ixN; rw [if_neg (by decide),if_pos (by lia)]; congr 1; lia)).1
 exact this
theorem er2 {α:Type} (xs:List α) (z y:α):(xs++[z]++[y]).eraseIdx xs.length=xs++[y]:=by
 rw [List.append_assoc,List.eraseIdx_append_of_length_le (Nat.le_refl _),Nat.sub_self]
 rfl
theorem er3 {α:Type} (xs:List α) (w z y:α):(xs++[w]++[z]++[y]).eraseIdx xs.length=xs++[z]++[y]:=by
 rw [List.append_assoc,List.append_assoc,List.eraseIdx_append_of_length_le (Nat.le_refl _),Nat.sub_self]
 simp
theorem gt2 {α:Type} (xs:List α) (z y:α):(xs++[z]++[y])[xs.length]?=some z:=by simp
theorem gt3 {α:Type} (xs:List α) (w z y:α):(xs++[w]++[z]++[y])[xs.length]?=some w:=by simp
theorem Go.list {p:Addr}{xs ys:List V} (g:Gh K CF CL CD CT M H₀ H) (hm:M p=some .mine) (h:H p=some (.lst xs)):Go K CF CL CD CT (fun a=>a=p) M M H₀ H (upd H p (.lst ys)):=Go.mutX (.refl g) hm rfl (Kt.lst h)
end
end Sw
namespace Sw
open PySem PySem.Spec PyProof.Rows L2
section
variable {K:PySem.W.Frag}{H:Hp}{a:Addr}{xs:List V}{σ:Sg}{js:List Nat}{te:TE}{Q:VK}
theorem lc_revT (J:Addr→Nat→List V→Hp→Prop) (hz:xs.length≤sizeLine) (h0:∀ D,H D=none→J D 0 [] (upd H D (.lst [])))
  (hD:∀ D i ys H',J D i ys H'→H' D=some (.lst ys)∧ys.length=i∧SqT K H' a xs)
  (hte:∀ D i x ys H' (R:VK),xs.reverse[i]?=some x→J D i ys H'→(∀ y H3,H3 D=some (.lst ys)→J D (i+1) (ys++[y]) (upd H3 D (.lst (ys++[y])))→R y H3)→te (some x::frv σ js) H' R)
  (q:∀ D ys H',J D xs.length ys H'→Q (.ref D) H'):LcRun (SwR.ItrT K a xs.length) js te σ Q H:=by
 intro D hDn
 refine⟨fun i m ys H'=>m=xs.length - i∧i≤xs.length∧J D i ys H',⟨xs.length,by lia,Nat.zero_le _,h0 D hDn⟩,?_⟩
 rintro i m ys H' ⟨rfl,hi,hj⟩
 obtain⟨h1,h2,h3⟩:=hD D i ys H' hj
 refine⟨h1,?_⟩
 by_cases hlt:i<xs.length
 ·refine .inr ⟨⟨xs,xs.reverse[i]'(by simpa using hlt),h3,rfl,List.getElem?_eq_getElem (by simpa using hlt)⟩,fun x H2 y=>?_⟩
  obtain⟨e,y⟩:=y
  subst e
  exact hte D i x ys _ _ (y xs h3) hj fun y H3 g1 g2=>⟨g1,by lia,xs.length - (i+1),by lia,rfl,hlt,g2⟩
 ·have e:i=xs.length:=by lia
  subst e
  exact .inl ⟨⟨xs,h3,rfl,rfl⟩,q D ys H' hj⟩
theorem take_get {α:Type}{xs:List α}{i:Nat}{x:α} (h:xs[i]?=some x):xs.take (i+1)=xs.take i++[x]:=by
 rw [List.take_add_one,h]
 rfl
end
end Sw
namespace Sw
open PySem PySem.Spec PyProof.Rows L2
section
variable {K:PySem.W.Frag}{CF CL CD CT CG CW:Addr}{M M':Mp}{H₀ H H':Hp}{X:Addr→Prop}{o dx G S N g:Addr}{gs rows gs' rows':List V}{tx s tx' s':List T}{num num':List Nat}{b:Nat}{w:T}{ws:List T}
theorem Rdy.go (G:Go K CF CL CD CT X M M' H₀ H H') (hX:¬ X g) (g0:Gh K CF CL CD CT M H₀ H) (h:Rdy CG M H g w ws):Rdy CG M' H' g w ws:=by
 obtain⟨dg,a,W,j,tt,wl,h1,h2,h3,h4,h5,h6,h7⟩:=h
 obtain⟨_,_,_,_,h9⟩:=g0.ok a _ h3
 obtain⟨ws',e1,e2⟩:=G.wds W _ wl h9 h4
 exact⟨dg,a,W,j,tt,ws',G.ext _ _ h1,(G.mine g h1 hX).trans h2,G.ext _ _ h3,e1,by lia,h6,h7⟩
theorem Go.mutN {p:Addr}{u:HO}{H1:Hp} (a:Go K CF CL CD CT X M M' H₀ H H1) (hm:M' p=some .mine) (hn:M p≠some .mine) (k:Kt H1 (upd H1 p u)):Go K CF CL CD CT X M M' H₀ H (upd H1 p u) :=
 ⟨a.ext,fun q h x=>by rw [upd_ne (fun z:q=p=>hn (by rw [← z]; exact h))]; exact a.mine q h x,a.kt.trans k,a.gh.mut hm k,fun W t ws h1 h2=>by
  obtain⟨ws',e,l⟩:=a.wds W t ws h1 h2
  have nW:W≠p:=fun z=>by have:=a.ext _ _ h1; rw [z,hm] at this; cases this
  exact⟨ws',by rw [upd_ne nW]; exact e,l⟩⟩
theorem GoAt.nl {t:T}{x:V}{p:Addr}{l:List V} (h:GoAt CG M H t x) (hp:H p=some (.lst l)):∀ g,x=.ref g→¬ g=p:=by
 obtain⟨g,dx,a,W,j,tt,rfl,_,h2,_⟩:=h
 rintro g' e rfl
 cases e
 rw [hp] at h2
 cases h2
theorem WkX.setG (w:WkX K CF CL CD CT CG CW M H₀ H o dx G S N gs rows tx s num b) (h:All2 (GoAt CG M H) tx'.reverse gs') (nd:gs'.Nodup):WkX K CF CL CD CT CG CW M H₀ (upd H G (.lst gs')) o dx G S N gs' rows tx' s num b:=by
 have g1:Go K CF CL CD CT (fun a=>a=G) M M H₀ H (upd H G (.lst gs')):=.list w.gh w.mG w.hG
 have no:o≠G:=fun z=>by have:=w.ob; rw [z,w.hG] at this; cases this
 exact⟨g1.gh,by rw [upd_ne no]; exact w.ob,w.mo,w.mG,w.mS,w.mN,upd_same,by rw [upd_ne (Ne.symm w.dGS)]; exact w.hS,by rw [upd_ne (Ne.symm w.dGN)]; exact w.hN,h.imp fun _ _ z=>z.go g1 (z.nl w.hG) w.gh,w.sts.imp fun _ _ z=>g1.rv z,w.n15,w.dGS,w.dGN,w.dSN,nd⟩
theorem WkX.setN (w:WkX K CF CL CD CT CG CW M H₀ H o dx G S N gs rows tx s num b) (hl:num'.length=15):WkX K CF CL CD CT CG CW M H₀ (upd H N (.lst (num'.map nv))) o dx G S N gs rows tx s num' b:=by
 have g1:Go K CF CL CD CT (fun a=>a=N) M M H₀ H (upd H N (.lst (num'.map nv))):=.list w.gh w.mN w.hN
 have no:o≠N:=fun z=>by have:=w.ob; rw [z,w.hN] at this; cases this
 exact⟨g1.gh,by rw [upd_ne no]; exact w.ob,w.mo,w.mG,w.mS,w.mN,by rw [upd_ne w.dGN]; exact w.hG,by rw [upd_ne w.dSN]; exact w.hS,upd_same,w.gos.imp fun _ _ z=>z.go g1 (z.nl w.hN) w.gh,w.sts.imp fun _ _ z=>g1.rv z,hl,w.dGS,w.dGN,w.dSN,w.nd⟩
theorem GoAt.nw {t:T}{x:V}{A B C:Addr}{c:Nat}{D e:Addr} (h:GoAt CG M H t x) (hp:H e=some (.ins D dx (fW A B C c))):∀ g,x=.ref g→¬ g=e:=by
 obtain⟨g,dg,a,W,j,tt,rfl,_,h2,_⟩:=h
 rintro g' e rfl
 cases e
 rw [hp] at h2
 have h3:=HO.ins.inj (Option.some.inj h2)
 have h4:fW A B C c=fG a j:=h3.2.2
 unfold fW fG at h4
 have:=congrArg List.length h4
 simp at this
theorem WkX.setL (w:WkX K CF CL CD CT CG CW M H₀ H o dx G S N gs rows tx s num b) (c:Nat):WkX K CF CL CD CT CG CW M H₀ (upd H o (.ins CW dx (fW G S N c))) o dx G S N gs rows tx s num c:=by
 have k:Kt H (upd H o (.ins CW dx (fW G S N c))):=Kt.ins w.ob
 have g1:Go K CF CL CD CT (fun a=>a=o) M M H₀ H (upd H o (.ins CW dx (fW G S N c))):=Go.mutX (.refl w.gh) w.mo rfl k
 have nG:G≠o:=fun z=>by have:=w.ob; rw [← z,w.hG] at this; cases this
 have nS:S≠o:=fun z=>by have:=w.ob; rw [← z,w.hS] at this; cases this
 have nN:N≠o:=fun z=>by have:=w.ob; rw [← z,w.hN] at this; cases this
 exact⟨g1.gh,upd_same,w.mo,w.mG,w.mS,w.mN,by rw [upd_ne nG]; exact w.hG,by rw [upd_ne nS]; exact w.hS,by rw [upd_ne nN]; exact w.hN,w.gos.imp fun _ _ z=>z.go g1 (z.nw w.ob) w.gh,w.sts.imp fun _ _ z=>g1.rv z,w.n15,w.dGS,w.dGN,w.dSN,w.nd⟩
theorem WkX.setS (w:WkX K CF CL CD CT CG CW M H₀ H o dx G S N gs rows tx s num b) (g1:Go K CF CL CD CT (fun a=>a=S) M M' H₀ H H') (h:H' S=some (.lst rows')) (hr:All2 (RV K M' H') s'.reverse rows'):WkX K CF CL CD CT CG CW M' H₀ H' o dx G S N gs rows' tx s' num b:=by
 have no:¬ o=S:=fun z=>by have:=w.ob; rw [z,w.hS] at this; cases this
 exact⟨g1.gh,(g1.mine o w.mo no).trans w.ob,g1.ext _ _ w.mo,g1.ext _ _ w.mG,g1.ext _ _ w.mS,g1.ext _ _ w.mN,(g1.mine G w.mG w.dGS).trans w.hG,h,(g1.mine N w.mN (Ne.symm w.dSN)).trans w.hN,w.gos.imp fun _ _ z=>z.go g1 (z.nl w.hS) w.gh,hr,w.n15,w.dGS,w.dGN,w.dSN,w.nd⟩
theorem WkX.onto {gs0:List V}{p:T}{rest:List T} (k:WkX K CF CL CD CT CG CW M H₀ H o dx G S N (gs0++[.ref g]) rows (p::rest) s num b) {dg a W:Addr}{j:Nat}{tt:T}{wl:List V} (h1:M g=some .mine) (h2:H g=some (.ins CG dg (fG a j))) (h3:M a=some (.text tt W)) (h4:H W=some (.lst wl)) (h5:j+1≤wl.length) (h6:tt.kids.drop j=w::ws) (h7:B 389 8000000 tt) :
  WkX K CF CL CD CT CG CW M H₀ (upd H g (.ins CG dg (fG a (j+1)))) o dx G S N (gs0++[.ref g]) rows (.node ws::rest) s num b:=by
 have kt:Kt H (upd H g (.ins CG dg (fG a (j+1)))):=Kt.ins h2
 have g1:Go K CF CL CD CT (fun a=>a=g) M M H₀ H (upd H g (.ins CG dg (fG a (j+1)))):=Go.mutX (.refl k.gh) h1 rfl kt
 have nl:∀ {q:Addr}{l:List V},H q=some (.lst l)→q≠g:=fun e z=>by rw [z,h2] at e; cases e
 have no:o≠g:=fun z=>by
  have:=k.ob
  rw [z,h2] at this
  have h3:=HO.ins.inj (Option.some.inj this)
  have h4:fG a j=fW G S N b:=h3.2.2
  unfold fW fG at h4
  have:=congrArg List.length h4
  simp at this
 have hgo:=k.gos
 rw [List.reverse_cons] at hgo
 obtain⟨gs1,y,e1,hg0,_⟩:=All2.snoc hgo
 obtain⟨rfl,rfl⟩:=List.append_inj' e1 rfl |>.imp id (fun z=>(List.cons.inj z).1)
 have nd:=k.nd
 have ng:(.ref g:V) ∉ gs0:=fun z=>(List.nodup_append.mp nd).2.2 _ z _ (by simp) rfl
 have hjk:j+1≤tt.kids.length:=by
  have:=congrArg List.length h6
  rw [List.length_drop,List.length_cons] at this
  lia
 refine⟨g1.gh,by rw [upd_ne no]; exact k.ob,k.mo,k.mG,k.mS,k.mN,by rw [upd_ne (nl k.hG)]; exact k.hG,by rw [upd_ne (nl k.hS)]; exact k.hS,by rw [upd_ne (nl k.hN)]; exact k.hN,?_,k.sts.imp fun _ _ z=>g1.rv z,k.n15,k.dGS,k.dGN,k.dSN,nd⟩
 rw [List.reverse_cons]
 refine All2.append ?_ (All2.one ⟨g,dg,a,W,j+1,tt,rfl,h1,upd_same,h3,hjk,⟨wl,by rw [upd_ne (nl h4)]; exact h4,h5⟩,?_,h7⟩)
 ·refine All2.of_get (hg0.length.symm ▸ rfl) fun i y hy=>?_
  obtain⟨t,et,hgt⟩:=hg0.get hy
  refine⟨t,et,hgt.go g1 (fun g' e z=>?_) k.gh⟩
  subst z
  exact ng (by rw [← e]; exact List.mem_of_getElem? hy)
 ·have:tt.kids.drop (j+1)=ws:=by rw [← List.drop_drop,h6]; rfl
  rw [this]
theorem WkX.newG (k:WkX K CF CL CD CT CG CW M H₀ H o dx G S N gs rows tx s num b) {a g dg:Addr}{t:T} (ht:IsTx M a t) (hb:B 389 8000000 t) (hg:H g=none) (hd:H dg=none) (ne:dg≠g) :
  WkX K CF CL CD CT CG CW (setM M g .mine) H₀ (mkO H g dg CG (fG a 0)) o dx G S N gs rows tx s num b∧GoAt CG (setM M g .mine) (mkO H g dg CG (fG a 0)) t (.ref g)∧(.ref g:V) ∉ gs:=by
 have g1:Go K CF CL CD CT (fun _=>False) M (setM M g .mine) H₀ H (mkO H g dg CG (fG a 0)):=.made k.gh hg hd ne
 obtain⟨W,hW⟩:=ht
 obtain⟨_,_,_,_,h9⟩:=k.gh.ok a _ hW
 obtain⟨xs,h10,_,_⟩:=k.gh.ok W _ h9
 refine⟨k.go g1,⟨g,dg,a,W,0,t,rfl,setM_same,mk_at,g1.ext _ _ hW,Nat.zero_le _,⟨xs,mk_same (C:=CG) (fs:=fG a 0) hg hd ne _ _ h10,Nat.zero_le _⟩,by cases t; rfl,hb⟩,fun z=>?_⟩
 obtain⟨i,hi⟩:=List.mem_iff_getElem?.mp z
 obtain⟨t',_,g',_,_,_,_,_,e,_,h2,_⟩:=k.gos.get hi
 cases e
 rw [hg] at h2
 cases h2
theorem WkX.push (k:WkX K CF CL CD CT CG CW M H₀ H o dx G S N gs rows tx s num b) {t:T}{x:V} (h:GoAt CG M H t x) (hn:x ∉ gs):WkX K CF CL CD CT CG CW M H₀ (upd H G (.lst (gs++[x]))) o dx G S N (gs++[x]) rows (t::tx) s num b:=by
 refine k.setG ?_ ?_
 ·rw [List.reverse_cons]
  exact All2.append k.gos (All2.one h)
 ·refine List.nodup_append.mpr ⟨k.nd,by simp,fun a ha c hc=>?_⟩
  rw [List.mem_singleton.mp hc]
  exact fun z=>hn (z ▸ ha)
theorem GoAt.new {a g dg:Addr}{t:T} (g0:Gh K CF CL CD CT M H₀ H) (ht:IsTx M a t) (hb:B 389 8000000 t) (hg:H g=none) (hd:H dg=none) (ne:dg≠g):GoAt CG (setM M g .mine) (mkO H g dg CG (fG a 0)) t (.ref g):=by
 have g1:Go K CF CL CD CT (fun _=>False) M (setM M g .mine) H₀ H (mkO H g dg CG (fG a 0)):=.made g0 hg hd ne
 obtain⟨W,hW⟩:=ht
 obtain⟨_,_,_,_,h9⟩:=g0.ok a _ hW
 obtain⟨xs,h10,_,_⟩:=g0.ok W _ h9
 exact⟨g,dg,a,W,0,t,rfl,setM_same,mk_at,g1.ext _ _ hW,Nat.zero_le _,⟨xs,mk_same (C:=CG) (fs:=fG a 0) hg hd ne _ _ h10,Nat.zero_le _⟩,by cases t; rfl,hb⟩
def w1 (G:Addr):List (Str×V):=[("goings",.ref G)]
def w2 (G S:Addr):List (Str×V):=[("goings",.ref G),("stack",.ref S)]
def w3 (G S N:Addr):List (Str×V):=[("goings",.ref G),("stack",.ref S),("numbers",.ref N)]
theorem pw1 (G:Addr):putF "goings" (.ref G) []=w1 G:=rfl
theorem pw2 (G S:Addr):putF "stack" (.ref S) (w1 G)=w2 G S:=by unfold w1 w2; rw [putF_ne (by decide +kernel)]; rfl
theorem pw3 (G S N:Addr):putF "numbers" (.ref N) (w2 G S)=w3 G S N:=by unfold w2 w3; rw [putF_ne (by decide +kernel),putF_ne (by decide +kernel)]; rfl
theorem pw4 (G S N:Addr) (b:Nat):putF "left" (.int (b:Int)) (w3 G S N)=fW G S N b:=by unfold w3 fW; rw [putF_ne (by decide +kernel),putF_ne (by decide +kernel),putF_ne (by decide +kernel)]; rfl
theorem rev_get {ts:List T}{ys:List V}{i:Nat}{x:V} (h:TRs K H ts ys) (hx:ys.reverse[i]?=some x):∃ t,ts.reverse[i]?=some t∧TR K H t x:=by
 obtain⟨hi,hx'⟩:=SwR.rev_at hx
 obtain⟨t,et,ht⟩:=h.get hx'
 have hl:=h.length
 refine⟨t,?_,ht⟩
 rw [List.getElem?_reverse (by lia),← hl]
 exact et
end
theorem bump {num:List Nat}{k:Nat} (h:num.length=15) (hk:k<15):addT num (ev0 k)=num.set k (num.getD k 0+1):=by
 unfold addT ev0
 refine List.ext_getElem? fun i=>?_
 rw [List.getElem?_zipWith,List.getElem?_set,List.getElem?_set,List.getElem?_replicate,List.length_replicate]
 by_cases e:k=i
 ·subst e
  rw [if_pos rfl,if_pos hk,if_pos rfl,if_pos (by lia),List.getElem?_eq_getElem (by lia),List.getD_eq_getElem?_getD,List.getElem?_eq_getElem (by lia)]
  rfl
 ·rw [if_neg e,if_neg e]
  by_cases hi:i<15
  ·rw [if_pos hi,List.getElem?_eq_getElem (by lia)]
   rfl
  ·rw [if_neg hi,List.getElem?_eq_none (by lia)]
theorem bump2 {num:List Nat}{k j c:Nat} (h:num.length=15) (hk:k<15) (hj:j<15) (hkj:k≠j):addT num ((ev0 k).set j c)=(num.set k (num.getD k 0+1)).set j ((num.set k (num.getD k 0+1)).getD j 0+c):=by
 unfold addT ev0
 refine List.ext_getElem? fun i=>?_
 have hg:(num.set k (num.getD k 0+1)).getD j 0=num.getD j 0:=by
  rw [List.getD_eq_getElem?_getD,List.getElem?_set,if_neg hkj,← List.getD_eq_getElem?_getD]
 rw [hg,List.getElem?_zipWith,List.getElem?_set,List.getElem?_set,List.getElem?_set,List.getElem?_set,List.getElem?_replicate,List.length_set,List.length_set,List.length_replicate]
 by_cases e:j=i
 ·subst e
  rw [if_pos rfl,if_pos hj,if_pos rfl,if_pos (by lia),List.getElem?_eq_getElem (by lia),List.getD_eq_getElem?_getD,List.getElem?_eq_getElem (by lia)]
  rfl
 ·rw [if_neg e,if_neg e]
  by_cases e2:k=i
  ·subst e2
   rw [if_pos rfl,if_pos hk,if_pos rfl,if_pos (by lia),List.getElem?_eq_getElem (by lia),List.getD_eq_getElem?_getD,List.getElem?_eq_getElem (by lia)]
   rfl
  ·rw [if_neg e2,if_neg e2]
   by_cases hi:i<15
   ·rw [if_pos hi,List.getElem?_eq_getElem (by lia)]
    rfl
   ·rw [if_neg hi,List.getElem?_eq_none (by lia)]
end Sw
namespace Sw
open PySem PySem.Spec PyProof.Rows L2
theorem at_nv {num:List Nat}{k:Nat} (h:num.length=15) (hk:k<15):atI (num.map nv) (k:Int)=some (nv (num.getD k 0)):=by
 refine atI_nat ?_
 rw [List.getElem?_map,List.getElem?_eq_getElem (by lia),List.getD_eq_getElem?_getD,List.getElem?_eq_getElem (by lia)]
 rfl
theorem step_place {p:T}{rest s:List T}{w:T}{ws:List T} (h:p.kids=w::ws):stepT (p::rest) s=placeT (sortT w) (ats s 0):=by
 have hk:(ats (p::rest) 0).kids=w::ws:=h
 unfold stepT placeT
 have h9:=sort_le w
 by_cases e7:sortT w=7
 ·rw [if_pos e7]
  by_cases d:(ats s 0).kids=[]
  ·rw [if_pos d,on_no hk e7 d]
  ·rw [if_neg d,on_yes hk e7 d]
 rw [if_neg e7]
 by_cases e8:sortT w=8
 ·rw [if_pos e8]
  by_cases d:(ats s 0).kids=[]
  ·rw [if_pos d,on_past hk e8 d]
  ·rw [if_neg d,on_into hk e8 d]
 rw [if_neg e8]
 by_cases e9:sortT w=9
 ·rw [if_pos e9,on_less hk e9]
 ·rw [if_neg e9,on_word hk (by lia)]
def num2 (k c:Nat) (num:List Nat):List Nat:=if k=2 then (num.set 2 (num.getD 2 0+1)).set 13 ((num.set 2 (num.getD 2 0+1)).getD 13 0+c) else num.set k (num.getD k 0+1)
theorem ev_step {tx s:List T}{num:List Nat} (h:num.length=15) (h9:stepT tx s≠9):addT num (eventT tx s)=num2 (stepT tx s) (costT tx s) num:=by
 have h12:=step_le (tx:=tx) (s:=s)
 unfold eventT num2 costT
 by_cases h2:stepT tx s=2
 ·rw [if_pos h2,if_pos h2,if_pos h2,bump2 h (by lia) (by lia) (by lia)]
 ·rw [if_neg h2,if_neg h9,if_neg h2,bump h (by lia)]
theorem mv_on {p:T}{rest s:List T}{w:T}{ws:List T}{num:List Nat} (h:p=.node (w::ws)) (hn:num.length=15) :
  MvT (stepT (p::rest) s) w ws rest (pad s (looks (stepT (p::rest) s))) (num2 (stepT (p::rest) s) (costT (p::rest) s) num) (onward (p::rest) s).1 (onward (p::rest) s).2.1 (addT num (eventT (p::rest) s)):=by
 subst h
 have hk:(ats (T.node (w::ws)::rest) 0).kids=w::ws:=rfl
 have h9:=sort_le w
 by_cases e7:sortT w=7
 ·by_cases d:(ats s 0).kids=[]
  ·have o:=on_no hk e7 d
   have hs:stepT (T.node (w::ws)::rest) s=8:=by unfold stepT; rw [o]
   refine .inr (.inr (.inl ⟨hs,e7,?_,?_,?_⟩))
   ·rw [o]
    show T.node (w.kids.drop 2)::_=T.node ((w.kids.drop 1).drop 1)::_
    rw [List.drop_drop]
    rfl
   ·rw [o,hs]; rfl
   ·exact ev_step hn (by lia)
  ·have o:=on_yes hk e7 d
   have hs:stepT (T.node (w::ws)::rest) s=7:=by unfold stepT; rw [o]
   refine .inr (.inl ⟨hs,e7,?_,?_,?_⟩)
   ·rw [o]; rfl
   ·rw [o,hs]; rfl
   ·exact ev_step hn (by lia)
 by_cases e8:sortT w=8
 ·by_cases d:(ats s 0).kids=[]
  ·have o:=on_past hk e8 d
   have hs:stepT (T.node (w::ws)::rest) s=10:=by unfold stepT; rw [o]
   refine .inr (.inr (.inr ⟨.inr (.inl hs),?_,?_,?_⟩))
   ·rw [o]; rfl
   ·rw [hs,work_ge (by lia),o]; rfl
   ·exact ev_step hn (by lia)
  ·have o:=on_into hk e8 d
   have hs:stepT (T.node (w::ws)::rest) s=9:=by unfold stepT; rw [o]
   refine .inl ⟨hs,e8,?_,?_,?_⟩
   ·rw [o]
   ·rw [o,hs]; rfl
   ·unfold eventT
    rw [hs,if_neg (by decide),if_pos rfl,bump2 hn (by lia) (by lia) (by lia)]
    rfl
 by_cases e9:sortT w=9
 ·have o:=on_less (s:=s) hk e9
  have hs:stepT (T.node (w::ws)::rest) s=11:=by unfold stepT; rw [o]
  refine .inr (.inr (.inr ⟨.inr (.inr hs),?_,?_,?_⟩))
  ·rw [o]; rfl
  ·rw [hs,work_ge (by lia),o]; rfl
  ·exact ev_step hn (by lia)
 ·have o:=on_word (s:=s) hk (show sortT w≤6 by lia)
  have hs:stepT (T.node (w::ws)::rest) s=sortT w:=by unfold stepT; rw [o]
  refine .inr (.inr (.inr ⟨.inl (by lia),?_,?_,?_⟩))
  ·rw [o]; rfl
  ·rw [hs,o]
  ·exact ev_step hn (by lia)
theorem padKids {s:List T}{n m:Nat} (h:∀ t∈s,t.kids.length≤m):∀ t∈pad s n,t.kids.length≤m:=fun t ht=>by
 rcases List.mem_append.mp ht with z | z
 ·exact h t z
 ·rw [List.eq_of_mem_replicate z]
  exact Nat.zero_le _
theorem kids_le {s:List T}{m:Nat} (h:T.partsL s≤m):∀ t∈s,t.kids.length≤m:=fun t ht=>by
 have h1:=T.mem_parts ht
 have h2:=T.parts_kids t
 have h3:=T.len_le_parts t.kids
 lia
theorem looks_at {k:Nat} (h:k≤12):atI ([.int 0,.int 1,.int 1,.int 2,.int 2,.int 1,.int 3,.int 1,.int 1,.int 1,.int 1,.int 0,.int 0]:List V) (k:Int)=some (.int (looks k:Nat)):=by
 have:∀ k,k≤12→([V.int 0,.int 1,.int 1,.int 2,.int 2,.int 1,.int 3,.int 1,.int 1,.int 1,.int 1,.int 0,.int 0]:List V)[k]?=some (.int (looks k:Nat)):=by decide
 exact atI_nat (this k h)
theorem pad_eq {s:List T}{i n:Nat} (h1:s.length+i≤max n s.length) (h2:n≤s.length+i):s++List.replicate i leaf=pad s n:=by
 unfold pad
 have:i=n - s.length:=by lia
 rw [this]
theorem setN_eq (num:List Nat) (k c:Nat):(num.map nv).set k (.int ((num.getD k 0:Int)+(c:Int)))=(num.set k (num.getD k 0+c)).map nv:=by
 rw [← nv_set]
 congr 1
theorem drop_cons {α:Type}{xs:List α}{j:Nat}{x:α} (h:xs[j]?=some x):xs.drop j=x::xs.drop (j+1):=by
 have hj:=(List.getElem?_eq_some_iff.mp h).1
 rw [List.drop_eq_getElem_cons hj]
 rw [List.getElem?_eq_getElem hj] at h
 rw [Option.some.inj h]
end Sw
namespace Sw
open PySem PySem.Spec PyProof.Rows L2
def spWalked (K:PySem.W.Frag) (CF CL CD CT CG CW:Addr):Sp:=fun vs H Q _=>∃ (x:V) (tx s:List T) (b:Nat),vs=[x,.int (b:Int)]∧TR K H (pairT tx s) x∧Sane b tx s ∧
 ∀ o M' H' b',Wk K CF CL CD CT CG CW M' H H' o (goT b tx s).1 (goT b tx s).2.1 (goT b tx s).2.2 b'→Q (.ref o) H'
end Sw
namespace Sw
open PySem PySem.Spec PyProof.Rows L2
mutual
def MR (K:PySem.W.Frag) (H:Hp):MT→V→Prop
 | .mark,x=>x=.non
 | .node ms,x=>∃ a xs,x=.ref a∧SqT K H a xs∧MRs K H ms xs
def MRs (K:PySem.W.Frag) (H:Hp):List MT→List V→Prop
 | [],xs=>xs=[]
 | m::ms,xs=>∃ x r,xs=x::r∧MR K H m x∧MRs K H ms r
end
section
variable {K:PySem.W.Frag}{H H':Hp}
theorem MR_mark {x:V}:MR K H .mark x↔x=.non:=by rw [MR]
theorem MR_node {ms:List MT}{x:V}:MR K H (.node ms) x↔∃ a xs,x=.ref a∧SqT K H a xs∧MRs K H ms xs:=by rw [MR]
theorem MRs_nil {xs:List V}:MRs K H [] xs↔xs=[]:=by rw [MRs]
theorem MRs_cons {m:MT}{ms:List MT}{xs:List V}:MRs K H (m::ms) xs↔∃ x r,xs=x::r∧MR K H m x∧MRs K H ms r:=by rw [MRs]
mutual
theorem MR.mono (S:Kt H H'):∀ {m:MT}{x:V},MR K H m x→MR K H' m x
 | .mark,x,h=>by rw [MR_mark] at h ⊢; exact h
 | .node ms,x,h=>by
  obtain⟨a,xs,e,h1,h2⟩:=MR_node.mp h
  exact MR_node.mpr ⟨a,xs,e,sqT_mono S h1,MRs.mono S h2⟩
theorem MRs.mono (S:Kt H H'):∀ {ms:List MT}{xs:List V},MRs K H ms xs→MRs K H' ms xs
 | [],xs,h=>by rw [MRs_nil] at h ⊢; exact h
 | m::ms,xs,h=>by
  obtain⟨x,r,e,h1,h2⟩:=MRs_cons.mp h
  exact MRs_cons.mpr ⟨x,r,e,MR.mono S h1,MRs.mono S h2⟩
end
theorem MRs.length:∀ {ms:List MT}{xs:List V},MRs K H ms xs→xs.length=ms.length
 | [],xs,h=>by rw [MRs_nil] at h; rw [h]; rfl
 | m::ms,xs,h=>by
  obtain⟨x,r,e,h1,h2⟩:=MRs_cons.mp h
  rw [e,List.length_cons,List.length_cons,MRs.length h2]
theorem MRs.append:∀ {ms us:List MT}{xs ys:List V},MRs K H ms xs→MRs K H us ys→MRs K H (ms++us) (xs++ys)
 | [],us,xs,ys,h,g=>by rw [MRs_nil] at h; rw [h]; exact g
 | m::ms,us,xs,ys,h,g=>by
  obtain⟨x,r,e,h1,h2⟩:=MRs_cons.mp h
  rw [e]
  exact MRs_cons.mpr ⟨x,r++ys,rfl,h1,MRs.append h2 g⟩
theorem MRs.get:∀ {ms:List MT}{xs:List V},MRs K H ms xs→∀ {i:Nat}{x:V},xs[i]?=some x→∃ m,ms[i]?=some m∧MR K H m x
 | [],xs,h,i,x,e=>by rw [MRs_nil] at h; rw [h] at e; simp at e
 | m::ms,xs,h,i,x,e=>by
  obtain⟨y,r,rfl,h1,h2⟩:=MRs_cons.mp h
  cases i with
  | zero=>exact⟨m,rfl,by have e':y=x:=(by simpa using e);rw [← e']; exact h1⟩
  | succ i=>exact MRs.get h2 (i:=i) (by simpa using e)
mutual
theorem MR.tr:∀ {m:MT}{x:V},MT.free m=true→MR K H m x→TR K H (MT.fill leaf m) x
 | .mark,x,f,h=>by rw [MT.free] at f; cases f
 | .node ms,x,f,h=>by
  rw [MT.free] at f
  obtain⟨a,xs,rfl,h1,h2⟩:=MR_node.mp h
  rw [MT.fill]
  exact TR_mk h1 (MRs.tr f h2)
theorem MRs.tr:∀ {ms:List MT}{xs:List V},MT.freeL ms=true→MRs K H ms xs→TRs K H (MT.fillL leaf ms) xs
 | [],xs,f,h=>by rw [MRs_nil] at h; rw [h,MT.fillL]; exact TRs_nil.mpr rfl
 | m::ms,xs,f,h=>by
  rw [MT.freeL,Bool.and_eq_true] at f
  obtain⟨x,r,rfl,h1,h2⟩:=MRs_cons.mp h
  rw [MT.fillL]
  exact TRs_cons.mpr ⟨x,r,rfl,MR.tr f.1 h1,MRs.tr f.2 h2⟩
end
end
namespace MT
theorem mksL_append:∀ a b:List MT,mksL (a++b)=mksL a+mksL b
 | [],b=>by rw [List.nil_append,mksL]; lia
 | m::a,b=>by rw [List.cons_append,mksL,mksL,mksL_append a b]; lia
theorem cntL_le {b:Nat}:∀ {ms:List MT},(∀ m∈ms,cnt m≤b)→cntL ms≤ms.length * b
 | [],_=>by rw [cntL]; lia
 | m::ms,h=>by
  have h1:=h m List.mem_cons_self
  have h2:=cntL_le (ms:=ms) fun u hu=>h u (List.mem_cons_of_mem _ hu)
  rw [cntL,List.length_cons,Nat.succ_mul]
  lia
theorem depL_le {b:Nat}:∀ {ms:List MT},(∀ m∈ms,dep m+1≤b)→depL ms≤b
 | [],_=>by rw [depL]; lia
 | m::ms,h=>by
  have h1:=h m List.mem_cons_self
  have h2:=depL_le (ms:=ms) fun u hu=>h u (List.mem_cons_of_mem _ hu)
  rw [depL]
  lia
theorem mem_cnt:∀ {ms:List MT}{m:MT},m∈ms→cnt m≤cntL ms
 | [],_,h=>by cases h
 | n::ms,m,h=>by
  rw [cntL]
  rcases List.mem_cons.mp h with rfl | h
  ·lia
  ·have:=mem_cnt h; lia
theorem mem_dep:∀ {ms:List MT}{m:MT},m∈ms→dep m+1≤depL ms
 | [],_,h=>by cases h
 | n::ms,m,h=>by
  rw [depL]
  rcases List.mem_cons.mp h with rfl | h
  ·lia
  ·have:=mem_dep h; lia
theorem len_cnt:∀ ms:List MT,ms.length≤cntL ms
 | []=>by rw [List.length_nil]; lia
 | m::ms=>by
  have:=len_cnt ms
  have h1:1≤cnt m:=by cases m with
   | mark=>rw [cnt]; exact Nat.le_refl _
   | node us=>rw [cnt]; lia
  rw [cntL,List.length_cons]
  lia
theorem fillL_take (q:T):∀ {ms:List MT}{i:Nat}{m:MT},ms[i]?=some m→fillL q (ms.take (i+1))=fillL q (ms.take i)++[fill q m]
 | [],i,m,h=>by simp at h
 | n::ms,0,m,h=>by
  have e:n=m:=by simpa using h
  subst e
  rw [List.take_succ_cons,List.take_zero,List.take_zero]
  simp only [fillL,List.nil_append]
 | n::ms,i+1,m,h=>by
  rw [List.take_succ_cons,List.take_succ_cons,fillL,fillL,fillL_take q (ms:=ms) (i:=i) (by simpa using h)]
  rfl
theorem all_free:∀ ms:List MT,(ms.map fun m=>free m).all id=freeL ms
 | []=>by rw [freeL]; rfl
 | m::ms=>by rw [List.map_cons,List.all_cons,all_free ms,freeL]; rfl
theorem drop_at {ms:List MT}{j:Nat}{m:MT} (h:ms[j]?=some m):ms.drop j=m::ms.drop (j+1):=by
 obtain⟨hj,e⟩:=List.getElem?_eq_some_iff.mp h
 rw [List.drop_eq_getElem_cons hj,e]
theorem bld_len (m:MT):(bld m).length≤40 * cnt m:=by
 have h1:=bld_parts m
 have h2:=T.len_le_parts (bld m)
 lia
theorem bldR_len (ms:List MT):(bldR ms).length≤40 * cntL ms:=by
 have h1:=bldR_parts ms
 have h2:=T.len_le_parts (bldR ms)
 lia
theorem cnt_drop (j:Nat):∀ ms:List MT,cntL (ms.drop j)≤cntL ms:=by
 induction j with
 | zero=>intro ms; exact Nat.le_refl _
 | succ j ih =>
  intro ms
  cases ms with
  | nil=>exact Nat.le_refl _
  | cons m ms=>rw [List.drop_succ_cons,cntL]; have:=ih ms; lia
end MT
def MkAt (H:Hp) (l:Addr) (k:Nat):Prop:=H l=some (.lst (List.replicate k (V.int 0)))
structure Dr2 (p l:Addr) (k:Nat) (H H':Hp):Prop where
 keep:∀ b o,b≠p→b≠l→H b=some o→H' b=some o
 deck:DkAt H' p
 mks:MkAt H' l k
section
variable {p l b:Addr}{k k0 k1:Nat}{H H1 H2 H':Hp}
theorem Dr2.refl (d:DkAt H p) (m:MkAt H l k):Dr2 p l k H H:=⟨fun _ _ _ _ e=>e,d,m⟩
theorem Dr2.trans (a:Dr2 p l k0 H H1) (b:Dr2 p l k H1 H2):Dr2 p l k H H2:=⟨fun c o n n' e=>b.keep c o n n' (a.keep c o n n' e),b.deck,b.mks⟩
theorem Dr2.same (a:Dr2 p l k H H1) (S:Same H1 H2):Dr2 p l k H H2:=⟨fun c o n n' e=>S c o (a.keep c o n n' e),let ⟨ns,e⟩:=a.deck; ⟨ns,S _ _ e⟩,S _ _ a.mks⟩
theorem Dr2.kt (d:DkAt H p) (m:MkAt H l k0) (a:Dr2 p l k H H'):Kt H H':=by
 obtain⟨ns,e⟩:=d
 exact⟨fun b xs q=>a.keep b _ (ne_of q e (fun z=>by cases z)) (ne_of q m (fun z=>by cases z)) q,fun b o u q=>a.keep b _ (ne_of q e (fun z=>by cases z)) (ne_of q m (fun z=>by cases z)) q⟩
theorem Dr2.upd {o:HO} (a:Dr2 p l k H H') (h:H b=none) (hp:b≠p) (hl:b≠l):Dr2 p l k H (upd H' b o) :=
 ⟨fun c u n n' e=>by rw [upd_ne (ne_of_none e h)]; exact a.keep c u n n' e,let ⟨ns,e⟩:=a.deck; ⟨ns,by rw [upd_ne (Ne.symm hp)]; exact e⟩,by unfold MkAt; rw [upd_ne (Ne.symm hl)]; exact a.mks⟩
theorem Dr.two (a:Dr p H H') (n:l≠p) (m:MkAt H l k):Dr2 p l k H H':=⟨fun b o h1 _ e=>a.keep b o h1 e,a.deck,a.keep l _ n m⟩
end
def ShM (d:Nat) (m:MT):Prop:=MT.cnt m≤pbT d∧MT.dep m≤d
def spMarked (K:PySem.W.Frag) (n:Nat):Sp:=fun vs H Q _=>∃ (p l:Addr) (d k:Nat),vs=[.ref p,.int (d:Int),.ref l]∧d≤n∧l≠p∧DkAt H p∧MkAt H l k∧k≤100∧∀ y m k' H',Dr2 p l k' H H'→MR K H' m y→ShM d m→MT.mks m+k'=k→Q y H'
def spFree (K:PySem.W.Frag) (n:Nat):Sp:=fun vs H Q _=>∃ x m,vs=[x]∧MR K H m x∧MT.dep m≤n∧MT.cnt m≤1000∧∀ H',Same H H'→Q (.bl (MT.free m)) H'
def spFilledM (K:PySem.W.Frag) (n:Nat):Sp:=fun vs H Q _=>∃ x m y t,vs=[x,y]∧MR K H m x∧TR K H t y∧MT.dep m≤n∧MT.cnt m≤1000∧∀ z H',Same H H'→TR K H' (MT.fill t m) z→Q z H'
def spBuilder (K:PySem.W.Frag) (n:Nat):Sp:=fun vs H Q _=>∃ x m,vs=[x]∧MR K H m x∧MT.dep m≤n∧MT.dep m≤3∧MT.cnt m≤1000∧∀ y H',Same H H'→TR K H' (.node (MT.bld m)) y→Q y H'
def spMaker92 (K:PySem.W.Frag):Sp:=fun vs H Q _=>∃ x m,vs=[x]∧MR K H m x∧MT.dep m≤3∧MT.cnt m≤1000∧∀ y H',Same H H'→TR K H' (.node (MT.mkr m)) y→Q y H'
theorem lc_mark {K:PySem.W.Frag}{p l:Addr}{H1:Hp}{n e k:Nat}{lo:Int}{σ:Sg}{js:List Nat}{te:TE}{Q:VK} (hk:DkAt H1 p) (hm:MkAt H1 l k) (hn:n≤sizeLine)
  (hte:∀ (i:Nat) H' (R:VK) (k1:Nat),i<n→k1≤k→Dr2 p l k1 H1 H'→(∀ y m k' H3,Dr2 p l k' H' H3→MR K H3 m y→ShM e m→MT.mks m+k'=k1→R y H3)→te (some (.int (lo+i))::frv σ js) H' R)
  (q:∀ D ys ms k' H',Dr2 p l k' H1 H'→H' D=some (.lst ys)→ms.length=n→MRs K H' ms ys→(∀ m∈ms,ShM e m)→MT.mksL ms+k'=k→Q (.ref D) H'):LcRun (Itr lo n) js te σ Q H1:=by
 refine lc_rangeI (fun D i ys H'=>D≠p∧D≠l∧H1 D=none∧H' D=some (.lst ys)∧ys.length=i∧∃ ms k1,Dr2 p l k1 H1 H'∧MRs K H' ms ys∧(∀ m∈ms,ShM e m)∧MT.mksL ms+k1=k) hn (fun D hD=>?_) (fun D i ys H' j=>⟨j.2.2.2.1,j.2.2.2.2.1⟩) (fun D i ys H' R hi j hR=>?_) (fun D ys H' j=>?_)
 ·have hne:D≠p:=fun z=>by
   obtain⟨ns,e1⟩:=hk
   rw [z,e1] at hD; cases hD
  have hnl:D≠l:=fun z=>by
   unfold MkAt at hm
   rw [z,hm] at hD; cases hD
  exact⟨hne,hnl,hD,upd_same,rfl,[],k,(Dr2.refl hk hm).upd hD hne hnl,MRs_nil.mpr rfl,fun _ h=>by simp at h,by rw [MT.mksL]; lia⟩
 ·obtain⟨hne,hnl,hD,h1,hl,ms,k1,Dh,htr,hsh,hs⟩:=j
  refine hte i H' R k1 hi (by lia) Dh fun y m k' H3 D3 ht hm' hk'=>?_
  have h3:=D3.keep D _ hne hnl h1
  refine hR y H3 h3 ⟨hne,hnl,hD,upd_same,by rw [List.length_append,hl]; rfl,ms++[m],k',(Dh.trans D3).upd hD hne hnl,?_,fun u hu=>?_,?_⟩
  ·exact MRs.append ((htr.mono (D3.kt Dh.deck Dh.mks)).mono (Kt.lst h3)) (MRs_cons.mpr ⟨y,[],rfl,ht.mono (Kt.lst h3),MRs_nil.mpr rfl⟩)
  ·rcases List.mem_append.mp hu with z | z
   ·exact hsh u z
   ·rw [List.mem_singleton.mp z]; exact hm'
  ·rw [MT.mksL_append,MT.mksL,MT.mksL]
   lia
 ·obtain⟨hne,hnl,hD,h1,hl,ms,k1,Dh,htr,hsh,hs⟩:=j
  exact q D ys ms k1 H' Dh h1 (by rw [← htr.length]; exact hl) htr hsh hs
theorem for_revT {K:PySem.W.Frag}{a:Addr}{xs:List V}{g:TG}{tb:TS}{D:Ends}{σ:L2.St}{H:Hp} (Pv:Nat→L2.St→Hp→Prop) (h0:Pv 0 σ H) (hl:∀ i σ H,i≤xs.length→Pv i σ H→SqT K H a xs)
  (hs:∀ i x σ H,xs.reverse[i]?=some x→Pv i σ H→g x σ H fun σ2 H2=>tb { D with nx:=Pv (i+1),ct:=Pv (i+1),bk:=D.nx } σ2 H2) (hd:∀ σ H,Pv xs.length σ H→D.nx σ H) :
  ∃ W:Nat→Nat→L2.St→Hp→Prop,(∃ m,W 0 m σ H)∧∀ i m σ H,W i m σ H →
   ((SwR.ItrT K a xs.length).stop i H∧D.nx σ H)∨((SwR.ItrT K a xs.length).go i H∧∃ N:L2.St→Hp→Prop,(∀ σ' H',N σ' H'→∃ m',m'<m∧W (i+1) m' σ' H')∧∀ x H',(SwR.ItrT K a xs.length).yld i H x H'→g x σ H' fun σ2 H2=>tb { D with nx:=N,ct:=N,bk:=D.nx } σ2 H2):=by
 refine⟨fun i m σ H=>m=xs.length - i∧i≤xs.length∧Pv i σ H,⟨xs.length,by simp,Nat.zero_le _,h0⟩,?_⟩
 rintro i m σ H ⟨rfl,hi,p⟩
 have q:=hl i σ H hi p
 by_cases hlt:i<xs.length
 ·refine .inr ⟨⟨xs,xs.reverse[i]'(by simpa using hlt),q,rfl,List.getElem?_eq_getElem (by simpa using hlt)⟩,Pv (i+1),fun σ' H' p'=>⟨xs.length - (i+1),by lia,rfl,hlt,p'⟩,fun x H' y=>?_⟩
  obtain⟨e,y⟩:=y
  subst e
  exact hs i x σ _ (y xs q) p
 ·have e:i=xs.length:=by lia
  subst e
  exact .inl ⟨⟨xs,q,rfl,rfl⟩,hd σ H p⟩
end Sw
namespace Sw92
open PySem PySem.Spec PyProof.Rows L2 Sw
def top (i:Nat):Stmt:=PySem.Challenge.pw_selfword_k92_whole_its_own_text_in_any_t.main.body.getD i (.Pass ⟨0,0,0,0⟩)
abbrev s_first:Stmt:=top 1
abbrev s_rest:Stmt:=top 2
abbrev s_parts:Stmt:=top 3
abbrev s_sort_of:Stmt:=top 16
abbrev s_load_of:Stmt:=top 17
abbrev s_lay:Stmt:=top 18
abbrev s_plain:Stmt:=top 19
abbrev s_fork:Stmt:=top 20
abbrev s_loop:Stmt:=top 21
abbrev s_plains:Stmt:=top 22
abbrev s_selfrunner:Stmt:=top 32
abbrev s_opening:Stmt:=top 33
abbrev s_from_head:Stmt:=top 34
abbrev s_stepped:Stmt:=top 35
abbrev s_by_sort:Stmt:=top 36
abbrev s_gone_of:Stmt:=top 37
abbrev s_while_gone:Stmt:=top 38
abbrev s_nameless_gone:Stmt:=top 39
abbrev s_begin:Stmt:=top 51
abbrev s_place_of:Stmt:=top 52
abbrev s_cost:Stmt:=top 53
abbrev s_selfmade:Stmt:=top 55
abbrev s_selfmaker:Stmt:=top 56
abbrev s_lay_made:Stmt:=top 57
abbrev s_knot:Stmt:=top 58
abbrev s_knot_body:Stmt:=top 59
abbrev s_both_run:Stmt:=top 60
abbrev s_first_of:Stmt:=top 64
abbrev s_rest_of:Stmt:=top 65
abbrev s_later:Stmt:=top 66
abbrev s_unfronted:Stmt:=top 67
abbrev s_parts_within:Stmt:=top 68
abbrev s_as_tree:Stmt:=top 69
abbrev s_run:Stmt:=top 71
abbrev s_walked:Stmt:=top 72
abbrev s_work:Stmt:=top 77
abbrev s__law_deck:Stmt:=top 79
abbrev s__law_next:Stmt:=top 80
abbrev s__law_tree:Stmt:=top 81
abbrev s__law_plain:Stmt:=top 82
abbrev s__law_marked:Stmt:=top 83
abbrev s__law_free:Stmt:=top 84
abbrev s__law_filled:Stmt:=top 85
abbrev s__law_builder:Stmt:=top 86
abbrev s__law_maker:Stmt:=top 87
abbrev s_law:Stmt:=top 88
theorem sc_first:FnScope ["tree"] ["tree"] (defScope s_first):=⟨rfl,rfl,rfl,by decide +kernel,rfl,by decide +kernel,by decide +kernel⟩
theorem sc_rest:FnScope ["tree"] ["tree"] (defScope s_rest):=⟨rfl,rfl,rfl,by decide +kernel,rfl,by decide +kernel,by decide +kernel⟩
theorem sc_parts:FnScope ["tree","waiting","counted","part"] ["tree"] (defScope s_parts):=⟨rfl,rfl,rfl,by decide +kernel,rfl,by decide +kernel,by decide +kernel⟩
theorem sc_sort_of:FnScope ["word"] ["word"] (defScope s_sort_of):=⟨rfl,rfl,rfl,by decide +kernel,rfl,by decide +kernel,by decide +kernel⟩
theorem sc_load_of:FnScope ["word"] ["word"] (defScope s_load_of):=⟨rfl,rfl,rfl,by decide +kernel,rfl,by decide +kernel,by decide +kernel⟩
theorem sc_lay:FnScope ["tree"] ["tree"] (defScope s_lay):=⟨rfl,rfl,rfl,by decide +kernel,rfl,by decide +kernel,by decide +kernel⟩
theorem sc_plain:FnScope ["sort"] ["sort"] (defScope s_plain):=⟨rfl,rfl,rfl,by decide +kernel,rfl,by decide +kernel,by decide +kernel⟩
theorem sc_fork:FnScope ["yes","no"] ["yes","no"] (defScope s_fork):=⟨rfl,rfl,rfl,by decide +kernel,rfl,by decide +kernel,by decide +kernel⟩
theorem sc_loop:FnScope ["body"] ["body"] (defScope s_loop):=⟨rfl,rfl,rfl,by decide +kernel,rfl,by decide +kernel,by decide +kernel⟩
theorem sc_plains:FnScope ["names"] ["names"] (defScope s_plains):=⟨rfl,rfl,rfl,by decide +kernel,rfl,by decide +kernel,by decide +kernel⟩
theorem sc_selfrunner:FnScope [] [] (defScope s_selfrunner):=⟨rfl,rfl,rfl,by decide +kernel,rfl,by decide +kernel,by decide +kernel⟩
theorem sc_opening:FnScope ["wrapped"] [] (defScope s_opening):=⟨rfl,rfl,rfl,by decide +kernel,rfl,by decide +kernel,by decide +kernel⟩
theorem sc_from_head:FnScope [] [] (defScope s_from_head):=⟨rfl,rfl,rfl,by decide +kernel,rfl,by decide +kernel,by decide +kernel⟩
theorem sc_stepped:FnScope ["word_gone","shut"] [] (defScope s_stepped):=⟨rfl,rfl,rfl,by decide +kernel,rfl,by decide +kernel,by decide +kernel⟩
theorem sc_by_sort:FnScope ["text","sort"] [] (defScope s_by_sort):=⟨rfl,rfl,rfl,by decide +kernel,rfl,by decide +kernel,by decide +kernel⟩
theorem sc_gone_of:FnScope ["sort","cleared"] ["sort"] (defScope s_gone_of):=⟨rfl,rfl,rfl,by decide +kernel,rfl,by decide +kernel,by decide +kernel⟩
theorem sc_while_gone:FnScope ["word_whole"] [] (defScope s_while_gone):=⟨rfl,rfl,rfl,by decide +kernel,rfl,by decide +kernel,by decide +kernel⟩
theorem sc_nameless_gone:FnScope [] [] (defScope s_nameless_gone):=⟨rfl,rfl,rfl,by decide +kernel,rfl,by decide +kernel,by decide +kernel⟩
theorem sc_begin:FnScope ["text","tree"] ["text","tree"] (defScope s_begin):=⟨rfl,rfl,rfl,by decide +kernel,rfl,by decide +kernel,by decide +kernel⟩
theorem sc_place_of:FnScope ["sort","top"] ["sort","top"] (defScope s_place_of):=⟨rfl,rfl,rfl,by decide +kernel,rfl,by decide +kernel,by decide +kernel⟩
theorem sc_cost:FnScope ["tally"] ["tally"] (defScope s_cost):=⟨rfl,rfl,rfl,by decide +kernel,rfl,by decide +kernel,by decide +kernel⟩
theorem sc_selfmade:FnScope ["body"] ["body"] (defScope s_selfmade):=⟨rfl,rfl,rfl,by decide +kernel,rfl,by decide +kernel,by decide +kernel⟩
theorem sc_selfmaker:FnScope [] [] (defScope s_selfmaker):=⟨rfl,rfl,rfl,by decide +kernel,rfl,by decide +kernel,by decide +kernel⟩
theorem sc_lay_made:FnScope [] [] (defScope s_lay_made):=⟨rfl,rfl,rfl,by decide +kernel,rfl,by decide +kernel,by decide +kernel⟩
theorem sc_knot:FnScope ["text"] ["text"] (defScope s_knot):=⟨rfl,rfl,rfl,by decide +kernel,rfl,by decide +kernel,by decide +kernel⟩
theorem sc_knot_body:FnScope ["text"] ["text"] (defScope s_knot_body):=⟨rfl,rfl,rfl,by decide +kernel,rfl,by decide +kernel,by decide +kernel⟩
theorem sc_both_run:FnScope ["own_made"] ["own_made"] (defScope s_both_run):=⟨rfl,rfl,rfl,by decide +kernel,rfl,by decide +kernel,by decide +kernel⟩
theorem sc_first_of:FnScope ["row"] ["row"] (defScope s_first_of):=⟨rfl,rfl,rfl,by decide +kernel,rfl,by decide +kernel,by decide +kernel⟩
theorem sc_rest_of:FnScope ["row"] ["row"] (defScope s_rest_of):=⟨rfl,rfl,rfl,by decide +kernel,rfl,by decide +kernel,by decide +kernel⟩
theorem sc_later:FnScope ["tree","place"] ["tree","place"] (defScope s_later):=⟨rfl,rfl,rfl,by decide +kernel,rfl,by decide +kernel,by decide +kernel⟩
theorem sc_unfronted:FnScope ["row"] ["row"] (defScope s_unfronted):=⟨rfl,rfl,rfl,by decide +kernel,rfl,by decide +kernel,by decide +kernel⟩
theorem sc_parts_within:FnScope ["row","most","waiting","counted","part"] ["row","most"] (defScope s_parts_within):=⟨rfl,rfl,rfl,by decide +kernel,rfl,by decide +kernel,by decide +kernel⟩
theorem sc_as_tree:FnScope ["row","ahead","taken","part","tree"] ["row"] (defScope s_as_tree):=⟨rfl,rfl,rfl,by decide +kernel,rfl,by decide +kernel,by decide +kernel⟩
theorem sc_run:FnScope ["text","tree","budget","walk","steps"] ["text","tree","budget"] (defScope s_run):=⟨rfl,rfl,rfl,by decide +kernel,rfl,by decide +kernel,by decide +kernel⟩
theorem sc_walked:FnScope ["stand","budget","walk"] ["stand","budget"] (defScope s_walked):=⟨rfl,rfl,rfl,by decide +kernel,rfl,by decide +kernel,by decide +kernel⟩
theorem sc_work:FnScope ["step","load","stack","item","row"] ["step","load","stack"] (defScope s_work):=⟨rfl,rfl,rfl,by decide +kernel,rfl,by decide +kernel,by decide +kernel⟩
theorem sc__law_deck:FnScope ["_law_script","_law_deck_here","_law_cell","_law_number","_law_k"] ["_law_script"] (defScope s__law_deck):=⟨rfl,rfl,rfl,by decide +kernel,rfl,by decide +kernel,by decide +kernel⟩
theorem sc__law_next:FnScope ["_law_deck_here","_law_many"] ["_law_deck_here","_law_many"] (defScope s__law_next):=⟨rfl,rfl,rfl,by decide +kernel,rfl,by decide +kernel,by decide +kernel⟩
theorem sc__law_tree:FnScope ["_law_deck_here","_law_deep"] ["_law_deck_here","_law_deep"] (defScope s__law_tree):=⟨rfl,rfl,rfl,by decide +kernel,rfl,by decide +kernel,by decide +kernel⟩
theorem sc__law_plain:FnScope ["_law_sort"] ["_law_sort"] (defScope s__law_plain):=⟨rfl,rfl,rfl,by decide +kernel,rfl,by decide +kernel,by decide +kernel⟩
theorem sc__law_marked:FnScope ["_law_deck_here","_law_deep","_law_marks"] ["_law_deck_here","_law_deep","_law_marks"] (defScope s__law_marked):=⟨rfl,rfl,rfl,by decide +kernel,rfl,by decide +kernel,by decide +kernel⟩
theorem sc__law_free:FnScope ["_law_tree_here"] ["_law_tree_here"] (defScope s__law_free):=⟨rfl,rfl,rfl,by decide +kernel,rfl,by decide +kernel,by decide +kernel⟩
theorem sc__law_filled:FnScope ["_law_tree_here","_law_own"] ["_law_tree_here","_law_own"] (defScope s__law_filled):=⟨rfl,rfl,rfl,by decide +kernel,rfl,by decide +kernel,by decide +kernel⟩
theorem sc__law_builder:FnScope ["_law_tree_here","_law_words","_law_item"] ["_law_tree_here"] (defScope s__law_builder):=⟨rfl,rfl,rfl,by decide +kernel,rfl,by decide +kernel,by decide +kernel⟩
theorem sc__law_maker:FnScope ["_law_tree_here","_law_words"] ["_law_tree_here"] (defScope s__law_maker):=⟨rfl,rfl,rfl,by decide +kernel,rfl,by decide +kernel,by decide +kernel⟩
theorem sc_law:FnScope ["_law_script","_law_deck_here","_law_marks","_law_shape","_law_tree_here","_law_own","_law_found"] ["_law_script"] (defScope s_law):=⟨rfl,rfl,rfl,by decide +kernel,rfl,by decide +kernel,by decide +kernel⟩
end Sw92
namespace Sw92
open PySem PySem.Spec PyProof.Rows L2 Sw
section
variable {P:Program}{w:World}{K:PySem.W.Frag}{mg:Str→Option Value}{base:Heap}{f:Addr}{fd:FuncData}
theorem rep_w (n:Nat):((List.replicate n (List.map W [1])).flatten).length=n:=by
 induction n with
 | zero=>rfl
 | succ n ih=>rw [List.replicate_succ,List.flatten_cons,List.length_append,ih]; show 1+n=n+1; lia
theorem sort_B:∀ i:Nat,i≤8→(T.node ([5,3].map W++tSort i)).deep≤400∧(T.node ([5,3].map W++tSort i)).parts≤1000000:=by decide +kernel
theorem gone_B:∀ i:Nat,i≤7→(T.node (tGone i)).deep≤400∧(T.node (tGone i)).parts≤1000000:=by decide +kernel
def tOpen:List T:=[W 5,wordT 0 [],W 6,W 4,wordT 0 [],W 6,W 4]
def nameZs:List Str:=[PySem.Str.ofString "lay",PySem.Str.ofString "drop",PySem.Str.ofString "twin",PySem.Str.ofString "swap",PySem.Str.ofString "front",PySem.Str.ofString "part",PySem.Str.ofString "turn",PySem.Str.ofString "fork",PySem.Str.ofString "while"]
def nameZ (k:Nat):Str:=nameZs.getD k (PySem.Str.ofString "")
theorem name_at:∀ k:Nat,k≤8→nameZs[k]?=some (nameZ k)∧∀ m,m<k→nameZs[m]?≠some (nameZ k):=by decide +kernel
def spTxt (K:PySem.W.Frag) (t:List T):Sp:=fun vs H Q _=>vs=[]∧∀ y H',Same H H'→TR K H' (.node t) y→Q y H'
def spPlains (K:PySem.W.Frag):Sp:=fun vs H Q _=>∃ (z:Str) (ks:List Nat),vs=[.str z]∧z.length≤1000∧((Builtin.Str.spaceWords z (z.length+1)).length≤1000∧(Txt.words z).length≤1000)∧Txt.words z=ks.map nameZ∧(∀ k∈ks,1≤k∧k≤6)∧∀ y H',Same H H'→TR K H' (.node (ks.map W)) y→Q y H'
def spGoneOf (K:PySem.W.Frag):Sp:=fun vs H Q _=>∃ k:Nat,vs=[.int (k:Int)]∧k≤7∧∀ y H',Same H H'→TR K H' (.node (tGone k)) y→Q y H'
theorem nRepW {K:PySem.W.Frag}{H:Hp}{Q:VK}{x y:V}{k:Int}{ts:List T} (n:Nat) (hx:TR K H (.node ts) x) (hy:y=.int k) (hk:k=(n:Int)) (hn:n≤100) (q:∀ z H',Same H H'→TR K H' (.node (List.replicate n ts).flatten) z→Q z H') (hl:ts.length≤100:=by decide):rRepTA K x y H Q:=by
 obtain⟨a,xs,rfl,ha,ra⟩:=TR_node.mp hx
 have hlen:=ra.length
 refine⟨a,k,xs,rfl,hy,ha,by lia,by lia,small (by rw [hk,Int.toNat_natCast,hlen]; exact Nat.le_trans (Nat.mul_le_mul hl hn) (by decide)),fun p H' S hp=>q _ _ S (TR_mk hp ?_)⟩
 have r2:TRs K H' ts xs:=ra.mono (.of S)
 unfold repV
 rw [hk,Int.toNat_natCast]
 clear hp hn hk hy q
 induction n with
 | zero=>exact TRs_nil.mpr rfl
 | succ n ih =>
  rw [List.replicate_succ,List.flatten_cons,List.replicate_succ,List.flatten_cons]
  exact TRs.append r2 ih
theorem nRepWP {K:PySem.W.Frag}{H:Hp}{Q:VK}{σ:L2.St}{x y:V}{k:Int}{ts:List T} (n:Nat) (hx:TR K H (.node ts) x) (hy:y=.int k) (hk:k=(n:Int)) (hn:n≤100) (q:∀ z H',Same H H'→TR K H' (.node (List.replicate n ts).flatten) z→Q z H') (hl:ts.length≤100:=by decide):tC y σ H (fun y H2=>rRepTA K x y H2 Q):=nRepW n hx hy hk hn q hl
def bothW (m:List T):List T:=W 3::(m++(W 3::W 4::(tSelf++(W 4::tSelf))))
def spSelfmade (K:PySem.W.Frag):Sp:=fun vs H Q _=>∃ x b,vs=[x]∧TR K H (.node b) x∧B 390 900000 (.node b)∧∀ y H',Same H H'→TR K H' (.node (wordT 0 b::b)) y→Q y H'
def spBothRun (K:PySem.W.Frag):Sp:=fun vs H Q _=>∃ x m,vs=[x]∧TR K H (.node m) x∧m.length≤1000∧∀ y H',Same H H'→TR K H' (.node (bothW m)) y→Q y H'
def spBodyK (K:PySem.W.Frag):Sp:=fun vs H Q _=>∃ x f,vs=[x]∧TR K H (.node f) x∧B 300 800000 (.node f)∧∀ y H',Same H H'→TR K H' (.node (bodyK f)) y→Q y H'
def spKnot (K:PySem.W.Frag):Sp:=fun vs H Q _=>∃ x f,vs=[x]∧TR K H (.node f) x∧B 300 800000 (.node f)∧∀ y H',Same H H'→TR K H' (.node (knotT f)) y→Q y H'
theorem B_body {f:List T} (h:B 300 800000 (.node f)):B 390 900000 (.node (bodyK f)):=by
 obtain⟨h1,h2⟩:=h
 obtain⟨p1,p2⟩:=both_parts
 rw [T.deep_node] at h1
 rw [T.parts_node] at h2
 refine⟨?_,by rw [body_parts]; lia⟩
 unfold bodyK wordT leavesT
 rw [T.deep_node,T.deepL_cons,T.deep_node,T.deepL_cons,List.replicate_zero,T.deep_node,T.deepL_nil]
 lia
theorem ok_plains (m_tuple:mg "tuple"=none) {a_NAMES:Addr} (m_NAMES:mg "NAMES"=some (.ref a_NAMES)) (q_NAMES:∀ H,SqT K H a_NAMES [.str (PySem.Str.ofString "lay"),.str (PySem.Str.ofString "drop"),.str (PySem.Str.ofString "twin"),.str (PySem.Str.ofString "swap"),.str (PySem.Str.ofString "front"),.str (PySem.Str.ofString "part"),.str (PySem.Str.ofString "turn"),.str (PySem.Str.ofString "fork"),.str (PySem.Str.ofString "while")])
  {a_plain:Addr}{d_plain:FuncData} (F_plain:Fun K "plain" "plain" s_plain a_plain d_plain) (G_plain:FnOk P w K mg base CX0 31 a_plain d_plain ["sort"] (spPlain K)) (b_plain:Binds K d_plain ["sort"] []) (m_plain:mg "plain"=some (.ref a_plain))
  (t_NAMES:∃ ob,K.lookup a_NAMES=some ob∧ob.cls=.type "tuple"∧ob.dict=none)
  (F:Fun K "plains" "plains" s_plains f fd):FnOk P w K mg base CX0 32 f fd ["names"] (spPlains K):=by
 refine okQ F sc_plains (fun vs H Q E h=>?_) (fun cdv A outer s H vs Q E hr h=>?_)
 ·obtain⟨z,ks,rfl,_⟩:=h
  rfl
 obtain⟨z,ks,rfl,hz1,hz2,hw,hk,q⟩:=h
 refine⟨_,(qss_one (qs_ret (qe_callTy call_tuple_of rfl m_tuple bt_tuple (qa_cons (qe_lc rfl (lc_free (fr:=[]) (js:=[]) (sc:=defScope s_plains) rfl rfl rfl (by decide +kernel) (by decide +kernel) (by decide +kernel) (by decide +kernel) (by exact trivial) (by decide +kernel) (fun y hy=>cell_has hy)) (qi_list (qe_bm0 PySem.F.plainAttrs_str PySem.F.slot_str_split PySem.F.type_str_split mt_split0 (qv 0))) (fun _ _ _ _ _=>(qe_call G_plain hr rfl m_plain F_plain.kp b_plain .nil pass0 (qa_cons (qe_bmK (K:=K) rfl (qe_bm PySem.F.plainAttrs_tuple PySem.F.slot_tuple_index PySem.F.type_tuple_index (mt_indexZK (K:=K) rfl) (qe_glob (v:=.ref a_NAMES) rfl m_NAMES rfl) (qa_cons (qv 0) qa_nil))) qa_nil)))) qa_nil)))),?_⟩
 have hwl:(Txt.words z).length=ks.length:=by rw [hw,List.length_map]
 have hwn:(Txt.words z).length≤1000:=hz2.2
 refine⟨_,rfl,rfl,z,rfl,rfl,hz1,hz2.1,hz2.2,fun D0 g0=>?_⟩
 refine⟨D0,rfl,⟨_,SqL.of upd_same⟩,?_⟩
 have S0:=same_new g0 (.lst ((Txt.words z).map V.str))
 refine lc_listI (K:=K) (xs:=(Txt.words z).map V.str) (fun D i ys H'=>D≠D0∧H D=none∧Same H H'∧H' D0=some (.lst ((Txt.words z).map V.str))∧H' D=some (.lst ys)∧TRs K H' ((ks.take i).map W) ys∧i≤ks.length) (small (by rw [List.length_map]; lia)) (fun D hD=>?_) (fun D i ys H' j=>⟨j.2.2.2.2.1,?_,SqL.of j.2.2.2.1⟩) (fun D i x ys H' R hx j hR=>?_) (fun D ys H' j=>?_)
 ·have hne:D≠D0:=fun e=>by rw [e,upd_same] at hD; cases hD
  exact⟨hne,S0.free hD,S0.trans (same_new hD _),by rw [upd_ne hne.symm]; exact upd_same,upd_same,TRs_nil.mpr rfl,Nat.zero_le _⟩
 ·rw [j.2.2.2.2.2.1.length,List.length_map,List.length_take]
  exact Nat.min_eq_left j.2.2.2.2.2.2
 ·obtain⟨hne,hD,S,h0,h1,ht,hi⟩:=j
  rw [hw,List.map_map,List.getElem?_map] at hx
  cases hh:ks[i]? with
  | none=>rw [hh] at hx; cases hx
  | some k =>
   rw [hh] at hx
   cases hx
   have hk1:=hk k (List.mem_of_getElem? hh)
   obtain⟨e1,e2⟩:=name_at k (by lia)
   refine⟨.inr (.inl ⟨rfl,t_NAMES⟩),_,rfl,a_NAMES,nameZs,_,k,rfl,rfl,q_NAMES _,e1,e2,k,rfl,hk1.1,hk1.2,fun y H3 S3 t3=>?_⟩
   refine hR _ _ (S3 _ _ h1) ⟨hne,hD,same_upd (S.trans S3) hD,by rw [upd_ne hne.symm]; exact S3 _ _ h0,upd_same,?_,(List.getElem?_eq_some_iff.mp hh).1⟩
   rw [List.take_succ,hh,List.map_append]
   exact TRs.append ((ht.mono (.of S3)).mono (Kt.lst (S3 _ _ h1))) (TRs_cons.mpr ⟨y,[],rfl,t3.mono (Kt.lst (S3 _ _ h1)),TRs_nil.mpr rfl⟩)
 ·obtain⟨hne,hD,S,h0,h1,ht,hi⟩:=j
  rw [List.length_map,hwl,List.take_of_length_le (Nat.le_refl _)] at ht
  refine⟨D,ys,rfl,.inl ⟨SqL.of h1,fun p hp=>?_⟩⟩
  obtain⟨S5,t5⟩:=tupN (K:=K) hp ht
  exact q _ _ (S.trans S5) t5
theorem ok_opening
  {a_lay:Addr}{d_lay:FuncData} (F_lay:Fun K "lay" "lay" s_lay a_lay d_lay) (G_lay:FnOk P w K mg base CX0 32 a_lay d_lay ["tree"] (spLay K)) (b_lay:Binds K d_lay ["tree"] []) (m_lay:mg "lay"=some (.ref a_lay))
  {a_plains:Addr}{d_plains:FuncData} (F_plains:Fun K "plains" "plains" s_plains a_plains d_plains) (G_plains:FnOk P w K mg base CX0 32 a_plains d_plains ["names"] (spPlains K)) (b_plains:Binds K d_plains ["names"] []) (m_plains:mg "plains"=some (.ref a_plains))
  (F:Fun K "opening" "opening" s_opening f fd):FnOk P w K mg base CX0 33 f fd [] (spTxt K tOpen):=by
 refine okQ F sc_opening (fun vs H Q E h=>?_) (fun cdv A outer s H vs Q E hr h=>?_)
 ·obtain⟨rfl,_⟩:=h
  rfl
 obtain⟨rfl,q⟩:=h
 refine⟨_,(qss_cons (qs_set (i:=0) sc_opening.nd rfl (Or.inl rfl) (qe_op op_catTA (qe_tup (qa_cons (qe_call G_lay hr rfl m_lay F_lay.kp b_lay .nil pass0 (qa_cons (qe_tup qa_nil) qa_nil)) qa_nil)) (qe_call G_plains hr rfl m_plains F_plains.kp b_plains .nil pass0 (qa_cons qe_str qa_nil))))
   (qss_one (qs_ret (qe_op op_catTA (qe_op op_catTA (qe_call G_plains hr rfl m_plains F_plains.kp b_plains .nil pass0 (qa_cons qe_str qa_nil)) (qv 0)) (qv 0))))),?_⟩
 refine⟨Nat.zero_le _,fun p1 g1=>?_⟩
 obtain⟨S1,t1⟩:=tupN (K:=K) (ts:=[]) g1 (TRs_nil.mpr rfl)
 refine⟨_,leaf,rfl,t1,by decide,by decide,fun y2 H2 S2 t2=>⟨(by show 1≤sizeLine; decide),fun p3 g3=>?_⟩⟩
 obtain⟨S3,t3⟩:=tupN (K:=K) g3 (trs1 t2)
 refine⟨_,[6,4],rfl,by decide +kernel,by decide +kernel,by decide +kernel,by decide,fun y4 H4 S4 t4=>nCat (t3.mono (.of S4)) t4 (small (by decide)) (fun y5 H5 S5 t5=>?_)⟩
 have S15:=S1.trans (S2.trans (S3.trans (S4.trans S5)))
 refine⟨_,[5],rfl,by decide +kernel,by decide +kernel,by decide +kernel,by decide,fun y6 H6 S6 t6=>⟨_,rfl,nCat t6 (t5.mono (.of S6)) (small (by decide)) (fun y7 H7 S7 t7=>⟨_,rfl,nCat t7 (t5.mono (.of (S6.trans S7))) (small (by decide)) (fun y8 H8 S8 t8=>?_)⟩)⟩⟩
 exact q _ _ (S15.trans (S6.trans (S7.trans S8))) t8
theorem ok_nameless_gone {u_WHILE:Value} (m_WHILE:mg "WHILE"=some u_WHILE) (r_WHILE:RelV (.int 8) u_WHILE)
  {a_plains:Addr}{d_plains:FuncData} (F_plains:Fun K "plains" "plains" s_plains a_plains d_plains) (G_plains:FnOk P w K mg base CX0 32 a_plains d_plains ["names"] (spPlains K)) (b_plains:Binds K d_plains ["names"] []) (m_plains:mg "plains"=some (.ref a_plains))
  (F:Fun K "nameless_gone" "nameless_gone" s_nameless_gone f fd):FnOk P w K mg base CX0 33 f fd [] (spTxt K tNameless):=by
 refine okQ F sc_nameless_gone (fun vs H Q E h=>?_) (fun cdv A outer s H vs Q E hr h=>?_)
 ·obtain⟨rfl,_⟩:=h
  rfl
 obtain⟨rfl,q⟩:=h
 refine⟨_,(qss_one (qs_ret (qe_op op_catTA (qe_op op_repTA (qe_call G_plains hr rfl m_plains F_plains.kp b_plains .nil pass0 (qa_cons qe_str qa_nil)) (qe_op op_add (qe_glob (v:=.int 8) rfl m_WHILE r_WHILE) qe_int)) (qe_call G_plains hr rfl m_plains F_plains.kp b_plains .nil pass0 (qa_cons qe_str qa_nil))))),?_⟩
 refine⟨_,[1],rfl,by decide +kernel,by decide +kernel,by decide +kernel,by decide,fun y1 H1 S1 t1=>⟨8,2,rfl,rfl,nRepW 10 t1 rfl rfl (by decide) (fun y2 H2 S2 t2=>?_)⟩⟩
 refine⟨_,[4],rfl,by decide +kernel,by decide +kernel,by decide +kernel,by decide,fun y3 H3 S3 t3=>nCat (t2.mono (.of S3)) t3 (small (by decide)) (fun y4 H4 S4 t4=>?_)⟩
 exact q _ _ (S1.trans (S2.trans (S3.trans S4))) t4
theorem ok_while_gone {u_WHILE:Value} (m_WHILE:mg "WHILE"=some u_WHILE) (r_WHILE:RelV (.int 8) u_WHILE) {u_TOP_REACHED:Value} (m_TOP_REACHED:mg "TOP_REACHED"=some u_TOP_REACHED) (r_TOP_REACHED:RelV (.str (PySem.Str.ofString "turn turn front turn part")) u_TOP_REACHED) {u_PAST_BODY:Value} (m_PAST_BODY:mg "PAST_BODY"=some u_PAST_BODY) (r_PAST_BODY:RelV (.str (PySem.Str.ofString "front turn drop swap")) u_PAST_BODY) {u_INTO_BODY:Value} (m_INTO_BODY:mg "INTO_BODY"=some u_INTO_BODY) (r_INTO_BODY:RelV (.str (PySem.Str.ofString "front swap turn part swap twin turn front turn part turn front front swap front")) u_INTO_BODY)
  {a_plains:Addr}{d_plains:FuncData} (F_plains:Fun K "plains" "plains" s_plains a_plains d_plains) (G_plains:FnOk P w K mg base CX0 32 a_plains d_plains ["names"] (spPlains K)) (b_plains:Binds K d_plains ["names"] []) (m_plains:mg "plains"=some (.ref a_plains))
  {a_fork:Addr}{d_fork:FuncData} (F_fork:Fun K "fork" "fork" s_fork a_fork d_fork) (G_fork:FnOk P w K mg base CX0 32 a_fork d_fork ["yes","no"] (spFork K)) (b_fork:Binds K d_fork ["yes","no"] []) (m_fork:mg "fork"=some (.ref a_fork))
  (F:Fun K "while_gone" "while_gone" s_while_gone f fd):FnOk P w K mg base CX0 33 f fd [] (spTxt K tWhile):=by
 refine okQ F sc_while_gone (fun vs H Q E h=>?_) (fun cdv A outer s H vs Q E hr h=>?_)
 ·obtain⟨rfl,_⟩:=h
  rfl
 obtain⟨rfl,q⟩:=h
 refine⟨_,(qss_cons (qs_set (i:=0) sc_while_gone.nd rfl (Or.inl rfl) (qe_op op_catTA (qe_op op_repTA (qe_call G_plains hr rfl m_plains F_plains.kp b_plains .nil pass0 (qa_cons qe_str qa_nil)) (qe_glob (v:=.int 8) rfl m_WHILE r_WHILE)) (qe_call G_plains hr rfl m_plains F_plains.kp b_plains .nil pass0 (qa_cons qe_str qa_nil))))
   (qss_one (qs_ret (qe_op op_catTA (qe_op op_catTA (qv 0) (qe_call G_plains hr rfl m_plains F_plains.kp b_plains .nil pass0 (qa_cons (qe_glob (v:=.str (PySem.Str.ofString "turn turn front turn part")) rfl m_TOP_REACHED r_TOP_REACHED) qa_nil))) (qe_tup (qa_cons (qe_call G_fork hr rfl m_fork F_fork.kp b_fork .nil pass0 (qa_cons (qe_call G_plains hr rfl m_plains F_plains.kp b_plains .nil pass0 (qa_cons (qe_glob (v:=.str (PySem.Str.ofString "front swap turn part swap twin turn front turn part turn front front swap front")) rfl m_INTO_BODY r_INTO_BODY) qa_nil)) (qa_cons (qe_call G_plains hr rfl m_plains F_plains.kp b_plains .nil pass0 (qa_cons (qe_glob (v:=.str (PySem.Str.ofString "front turn drop swap")) rfl m_PAST_BODY r_PAST_BODY) qa_nil)) qa_nil))) qa_nil)))))),?_⟩
 refine⟨_,[3,4],rfl,by decide +kernel,by decide +kernel,by decide +kernel,by decide,fun y1 H1 S1 t1=>nRepWP (k:=8) 8 t1 rfl rfl (by decide) (fun y2 H2 S2 t2=>?_)⟩
 refine⟨_,[4],rfl,by decide +kernel,by decide +kernel,by decide +kernel,by decide,fun y3 H3 S3 t3=>nCat (t2.mono (.of S3)) t3 (small (by decide)) (fun y4 H4 S4 t4=>?_)⟩
 have S14:=S1.trans (S2.trans (S3.trans S4))
 refine⟨_,rfl,_,[6,6,4,6,5],rfl,by decide +kernel,by decide +kernel,by decide +kernel,by decide,fun y5 H5 S5 t5=>nCat (t4.mono (.of S5)) t5 (small (by decide)) (fun y6 H6 S6 t6=>?_)⟩
 refine⟨_,[4,3,6,5,3,2,6,4,6,5,6,4,4,3,4],rfl,by decide +kernel,by decide +kernel,by decide +kernel,by decide,fun y7 H7 S7 t7=>?_⟩
 refine⟨_,[4,6,1,3],rfl,by decide +kernel,by decide +kernel,by decide +kernel,by decide,fun y8 H8 S8 t8=>⟨_,_,_,_,rfl,t7.mono (.of S8),t8,⟨by decide,by decide⟩,⟨by decide,by decide⟩,fun y9 H9 S9 t9=>⟨(by show 1≤sizeLine; decide),fun p10 g10=>?_⟩⟩⟩
 obtain⟨S10,t10⟩:=tupN (K:=K) g10 (trs1 t9)
 have S610:=S7.trans (S8.trans (S9.trans S10))
 exact nCat (t6.mono (.of S610)) t10 (small (by decide)) (fun y11 H11 S11 t11=>q _ _ (S14.trans (S5.trans (S6.trans (S610.trans S11)))) t11)
theorem ok_gone_of {u_LAY:Value} (m_LAY:mg "LAY"=some u_LAY) (r_LAY:RelV (.int 0) u_LAY) {u_LAID:Value} (m_LAID:mg "LAID"=some u_LAID) (r_LAID:RelV (.str (PySem.Str.ofString "turn turn front turn turn front swap")) u_LAID) {u_FORK:Value} (m_FORK:mg "FORK"=some u_FORK) (r_FORK:RelV (.int 7) u_FORK) {u_TOP_REACHED:Value} (m_TOP_REACHED:mg "TOP_REACHED"=some u_TOP_REACHED) (r_TOP_REACHED:RelV (.str (PySem.Str.ofString "turn turn front turn part")) u_TOP_REACHED) {u_INTO_NO:Value} (m_INTO_NO:mg "INTO_NO"=some u_INTO_NO) (r_INTO_NO:RelV (.str (PySem.Str.ofString "front swap turn part drop front")) u_INTO_NO) {u_INTO_YES:Value} (m_INTO_YES:mg "INTO_YES"=some u_INTO_YES) (r_INTO_YES:RelV (.str (PySem.Str.ofString "front swap turn part swap drop front")) u_INTO_YES) {u_STACK_PARTED:Value} (m_STACK_PARTED:mg "STACK_PARTED"=some u_STACK_PARTED) (r_STACK_PARTED:RelV (.str (PySem.Str.ofString "drop front swap part")) u_STACK_PARTED) {a_WORKED:Addr} (m_WORKED:mg "WORKED"=some (.ref a_WORKED)) (q_WORKED:∀ H,SqT K H a_WORKED [.str (PySem.Str.ofString ""),.str (PySem.Str.ofString "drop"),.str (PySem.Str.ofString "twin turn swap front swap front"),.str (PySem.Str.ofString "swap part swap turn front swap front"),.str (PySem.Str.ofString "swap part turn front front"),.str (PySem.Str.ofString "part turn turn front swap front"),.str (PySem.Str.ofString "swap part swap part swap turn front turn front swap front")])
  {a_plains:Addr}{d_plains:FuncData} (F_plains:Fun K "plains" "plains" s_plains a_plains d_plains) (G_plains:FnOk P w K mg base CX0 33 a_plains d_plains ["names"] (spPlains K)) (b_plains:Binds K d_plains ["names"] []) (m_plains:mg "plains"=some (.ref a_plains))
  {a_fork:Addr}{d_fork:FuncData} (F_fork:Fun K "fork" "fork" s_fork a_fork d_fork) (G_fork:FnOk P w K mg base CX0 33 a_fork d_fork ["yes","no"] (spFork K)) (b_fork:Binds K d_fork ["yes","no"] []) (m_fork:mg "fork"=some (.ref a_fork))
  (F:Fun K "gone_of" "gone_of" s_gone_of f fd):FnOk P w K mg base CX0 34 f fd ["sort"] (spGoneOf K):=by
 refine okQ F sc_gone_of (fun vs H Q E h=>?_) (fun cdv A outer s H vs Q E hr h=>?_)
 ·obtain⟨k,rfl,_⟩:=h
  rfl
 obtain⟨k,rfl,h7,q⟩:=h
 refine⟨_,(qss_cons (qs_set (i:=1) sc_gone_of.nd rfl (Or.inl rfl) (qe_op op_repTA (qe_call G_plains hr rfl m_plains F_plains.kp b_plains .nil pass0 (qa_cons qe_str qa_nil)) (qe_op op_add (qv 0) qe_int)))
   (qss_cons (qs_if (qt_cmpR op_eq (qv 0) (qe_glob (v:=.int 0) rfl m_LAY r_LAY) (nomark _)) (qss_one (qs_ret (qe_op op_catTA (qv 1) (qe_call G_plains hr rfl m_plains F_plains.kp b_plains .nil pass0 (qa_cons (qe_glob (v:=.str (PySem.Str.ofString "turn turn front turn turn front swap")) rfl m_LAID r_LAID) qa_nil))))) qss_nil)
   (qss_cons (qs_if (qt_cmpR op_eq (qv 0) (qe_glob (v:=.int 7) rfl m_FORK r_FORK) (nomark _)) (qss_one (qs_ret (qe_op op_catTA (qe_op op_catTA (qv 1) (qe_call G_plains hr rfl m_plains F_plains.kp b_plains .nil pass0 (qa_cons (qe_glob (v:=.str (PySem.Str.ofString "turn turn front turn part")) rfl m_TOP_REACHED r_TOP_REACHED) qa_nil))) (qe_tup (qa_cons (qe_call G_fork hr rfl m_fork F_fork.kp b_fork .nil pass0 (qa_cons (qe_call G_plains hr rfl m_plains F_plains.kp b_plains .nil pass0 (qa_cons (qe_glob (v:=.str (PySem.Str.ofString "front swap turn part swap drop front")) rfl m_INTO_YES r_INTO_YES) qa_nil)) (qa_cons (qe_call G_plains hr rfl m_plains F_plains.kp b_plains .nil pass0 (qa_cons (qe_glob (v:=.str (PySem.Str.ofString "front swap turn part drop front")) rfl m_INTO_NO r_INTO_NO) qa_nil)) qa_nil))) qa_nil))))) qss_nil)
   (qss_one (qs_ret (qe_op op_catTA (qe_op op_catTA (qe_op op_catTA (qv 1) (qe_call G_plains hr rfl m_plains F_plains.kp b_plains .nil pass0 (qa_cons (qe_glob (v:=.str (PySem.Str.ofString "drop front swap part")) rfl m_STACK_PARTED r_STACK_PARTED) qa_nil))) (qe_call G_plains hr rfl m_plains F_plains.kp b_plains .nil pass0 (qa_cons (qe_ix ix_tup (qe_glob (v:=.ref a_WORKED) rfl m_WORKED rfl) (qv 0) (fun _ _=>rfl)) qa_nil))) (qe_call G_plains hr rfl m_plains F_plains.kp b_plains .nil pass0 (qa_cons qe_str qa_nil)))))))),?_⟩
 refine⟨_,[1],rfl,by decide +kernel,by decide +kernel,by decide +kernel,by decide,fun y1 H1 S1 t1=>⟨_,rfl,_,_,rfl,rfl,nRepW (k+1) t1 rfl rfl (by lia) (fun y2 H2 S2 t2=>?_)⟩⟩
 have S12:=S1.trans S2
 refine⟨_,rfl,rfl,_,rfl,ite2 (fun h0=>?_) (fun h0=>?_)⟩
 ·obtain rfl:k=0:=by have:=V.int.inj (of_decide_eq_true h0); lia
  refine⟨_,rfl,_,[6,6,4,6,6,4,3],rfl,by decide +kernel,by decide +kernel,by decide +kernel,by decide,fun y3 H3 S3 t3=>nCat (t2.mono (.of S3)) t3 (small (by decide)) (fun y4 H4 S4 t4=>q _ _ (S12.trans (S3.trans S4)) t4)⟩
 refine⟨_,rfl,rfl,_,rfl,ite2 (fun h7=>?_) (fun h7=>?_)⟩
 ·obtain rfl:k=7:=by have:=V.int.inj (of_decide_eq_true h7); lia
  refine⟨_,rfl,_,[6,6,4,6,5],rfl,by decide +kernel,by decide +kernel,by decide +kernel,by decide,fun y5 H5 S5 t5=>nCat (t2.mono (.of S5)) t5 (small (by decide)) (fun y6 H6 S6 t6=>?_)⟩
  refine⟨_,[4,3,6,5,3,1,4],rfl,by decide +kernel,by decide +kernel,by decide +kernel,by decide,fun y7 H7 S7 t7=>?_⟩
  refine⟨_,[4,3,6,5,1,4],rfl,by decide +kernel,by decide +kernel,by decide +kernel,by decide,fun y8 H8 S8 t8=>⟨_,_,_,_,rfl,t7.mono (.of S8),t8,⟨by decide,by decide⟩,⟨by decide,by decide⟩,fun y9 H9 S9 t9=>⟨(by show 1≤sizeLine; decide),fun p10 g10=>?_⟩⟩⟩
  obtain⟨S10,t10⟩:=tupN (K:=K) g10 (trs1 t9)
  have S610:=S7.trans (S8.trans (S9.trans S10))
  exact nCat (t6.mono (.of S610)) t10 (small (by decide)) (fun y11 H11 S11 t11=>q _ _ (S12.trans (S5.trans (S6.trans (S610.trans S11)))) t11)
 have h0:k≠0:=fun z=>h0 (by subst z; exact decide_eq_true rfl)
 have h7:k≠7:=fun z=>h7 (by subst z; exact decide_eq_true rfl)
 refine⟨_,rfl,_,[1,4,3,5],rfl,by decide +kernel,by decide +kernel,by decide +kernel,by decide,fun y3 H3 S3 t3=>nCat (t2.mono (.of S3)) t3 (small (by rw [rep_w]; show _+4≤_; lia)) (fun y4 H4 S4 t4=>?_)⟩
 have S14:=S12.trans (S3.trans S4)
 rcases (by lia:k=1∨k=2∨k=3∨k=4∨k=5∨k=6) with rfl | rfl | rfl | rfl | rfl | rfl
 ·refine⟨_,rfl,a_WORKED,_,_,_,rfl,rfl,q_WORKED _,rfl,_,[1],rfl,by decide +kernel,by decide +kernel,by decide +kernel,by decide,fun y5 H5 S5 t5=>nCat (t4.mono (.of S5)) t5 (small (by decide)) (fun y6 H6 S6 t6=>?_)⟩
  refine⟨_,[3],rfl,by decide +kernel,by decide +kernel,by decide +kernel,by decide,fun y7 H7 S7 t7=>nCat (t6.mono (.of S7)) t7 (small (by decide)) (fun y8 H8 S8 t8=>q _ _ (S14.trans (S5.trans (S6.trans (S7.trans S8)))) t8)⟩
 ·refine⟨_,rfl,a_WORKED,_,_,_,rfl,rfl,q_WORKED _,rfl,_,[2,6,3,4,3,4],rfl,by decide +kernel,by decide +kernel,by decide +kernel,by decide,fun y5 H5 S5 t5=>nCat (t4.mono (.of S5)) t5 (small (by decide)) (fun y6 H6 S6 t6=>?_)⟩
  refine⟨_,[3],rfl,by decide +kernel,by decide +kernel,by decide +kernel,by decide,fun y7 H7 S7 t7=>nCat (t6.mono (.of S7)) t7 (small (by decide)) (fun y8 H8 S8 t8=>q _ _ (S14.trans (S5.trans (S6.trans (S7.trans S8)))) t8)⟩
 ·refine⟨_,rfl,a_WORKED,_,_,_,rfl,rfl,q_WORKED _,rfl,_,[3,5,3,6,4,3,4],rfl,by decide +kernel,by decide +kernel,by decide +kernel,by decide,fun y5 H5 S5 t5=>nCat (t4.mono (.of S5)) t5 (small (by decide)) (fun y6 H6 S6 t6=>?_)⟩
  refine⟨_,[3],rfl,by decide +kernel,by decide +kernel,by decide +kernel,by decide,fun y7 H7 S7 t7=>nCat (t6.mono (.of S7)) t7 (small (by decide)) (fun y8 H8 S8 t8=>q _ _ (S14.trans (S5.trans (S6.trans (S7.trans S8)))) t8)⟩
 ·refine⟨_,rfl,a_WORKED,_,_,_,rfl,rfl,q_WORKED _,rfl,_,[3,5,6,4,4],rfl,by decide +kernel,by decide +kernel,by decide +kernel,by decide,fun y5 H5 S5 t5=>nCat (t4.mono (.of S5)) t5 (small (by decide)) (fun y6 H6 S6 t6=>?_)⟩
  refine⟨_,[3],rfl,by decide +kernel,by decide +kernel,by decide +kernel,by decide,fun y7 H7 S7 t7=>nCat (t6.mono (.of S7)) t7 (small (by decide)) (fun y8 H8 S8 t8=>q _ _ (S14.trans (S5.trans (S6.trans (S7.trans S8)))) t8)⟩
 ·refine⟨_,rfl,a_WORKED,_,_,_,rfl,rfl,q_WORKED _,rfl,_,[5,6,6,4,3,4],rfl,by decide +kernel,by decide +kernel,by decide +kernel,by decide,fun y5 H5 S5 t5=>nCat (t4.mono (.of S5)) t5 (small (by decide)) (fun y6 H6 S6 t6=>?_)⟩
  refine⟨_,[3],rfl,by decide +kernel,by decide +kernel,by decide +kernel,by decide,fun y7 H7 S7 t7=>nCat (t6.mono (.of S7)) t7 (small (by decide)) (fun y8 H8 S8 t8=>q _ _ (S14.trans (S5.trans (S6.trans (S7.trans S8)))) t8)⟩
 ·refine⟨_,rfl,a_WORKED,_,_,_,rfl,rfl,q_WORKED _,rfl,_,[3,5,3,5,3,6,4,6,4,3,4],rfl,by decide +kernel,by decide +kernel,by decide +kernel,by decide,fun y5 H5 S5 t5=>nCat (t4.mono (.of S5)) t5 (small (by decide)) (fun y6 H6 S6 t6=>?_)⟩
  refine⟨_,[3],rfl,by decide +kernel,by decide +kernel,by decide +kernel,by decide,fun y7 H7 S7 t7=>nCat (t6.mono (.of S7)) t7 (small (by decide)) (fun y8 H8 S8 t8=>q _ _ (S14.trans (S5.trans (S6.trans (S7.trans S8)))) t8)⟩
theorem ok_by_sort (m_range:mg "range"=none) (m_reversed:mg "reversed"=none) {u_WHILE:Value} (m_WHILE:mg "WHILE"=some u_WHILE) (r_WHILE:RelV (.int 8) u_WHILE)
  {a_fork:Addr}{d_fork:FuncData} (F_fork:Fun K "fork" "fork" s_fork a_fork d_fork) (G_fork:FnOk P w K mg base CX0 34 a_fork d_fork ["yes","no"] (spFork K)) (b_fork:Binds K d_fork ["yes","no"] []) (m_fork:mg "fork"=some (.ref a_fork))
  {a_while_gone:Addr}{d_while_gone:FuncData} (F_while_gone:Fun K "while_gone" "while_gone" s_while_gone a_while_gone d_while_gone) (G_while_gone:FnOk P w K mg base CX0 34 a_while_gone d_while_gone [] (spTxt K tWhile)) (b_while_gone:Binds K d_while_gone [] []) (m_while_gone:mg "while_gone"=some (.ref a_while_gone))
  {a_nameless_gone:Addr}{d_nameless_gone:FuncData} (F_nameless_gone:Fun K "nameless_gone" "nameless_gone" s_nameless_gone a_nameless_gone d_nameless_gone) (G_nameless_gone:FnOk P w K mg base CX0 34 a_nameless_gone d_nameless_gone [] (spTxt K tNameless)) (b_nameless_gone:Binds K d_nameless_gone [] []) (m_nameless_gone:mg "nameless_gone"=some (.ref a_nameless_gone))
  {a_gone_of:Addr}{d_gone_of:FuncData} (F_gone_of:Fun K "gone_of" "gone_of" s_gone_of a_gone_of d_gone_of) (G_gone_of:FnOk P w K mg base CX0 34 a_gone_of d_gone_of ["sort"] (spGoneOf K)) (b_gone_of:Binds K d_gone_of ["sort"] []) (m_gone_of:mg "gone_of"=some (.ref a_gone_of))
  {a_plains:Addr}{d_plains:FuncData} (F_plains:Fun K "plains" "plains" s_plains a_plains d_plains) (G_plains:FnOk P w K mg base CX0 34 a_plains d_plains ["names"] (spPlains K)) (b_plains:Binds K d_plains ["names"] []) (m_plains:mg "plains"=some (.ref a_plains))
  (F:Fun K "by_sort" "by_sort" s_by_sort f fd):FnOk P w K mg base CX0 35 f fd [] (spTxt K (tSort 8)):=by
 refine okQ F sc_by_sort (fun vs H Q E h=>?_) (fun cdv A outer s H vs Q E hr h=>?_)
 ·obtain⟨rfl,_⟩:=h
  rfl
 obtain⟨rfl,q⟩:=h
 refine⟨_,(qss_cons (qs_set (i:=0) sc_by_sort.nd rfl (Or.inl rfl) (qe_tup (qa_cons (qe_call G_fork hr rfl m_fork F_fork.kp b_fork .nil pass0 (qa_cons (qe_call0 G_nameless_gone hr rfl m_nameless_gone F_nameless_gone.kp b_nameless_gone .nil pass0) (qa_cons (qe_call0 G_while_gone hr rfl m_while_gone F_while_gone.kp b_while_gone .nil pass0) qa_nil))) qa_nil)))
   (qss_cons (qs_for PassesOwn.never rfl (qi_down rfl m_range rfl m_reversed (qa_cons (qe_glob (v:=.int 8) rfl m_WHILE r_WHILE) qa_nil)) (qg_name (i:=1) sc_by_sort.nd rfl (Or.inl rfl)) (qss_one (qs_set (i:=0) sc_by_sort.nd rfl (Or.inl rfl) (qe_tup (qa_cons (qe_call G_fork hr rfl m_fork F_fork.kp b_fork .nil pass0 (qa_cons (qe_op op_catTA (qe_call G_plains hr rfl m_plains F_plains.kp b_plains .nil pass0 (qa_cons qe_str qa_nil)) (qv 0)) (qa_cons (qe_call G_gone_of hr rfl m_gone_of F_gone_of.kp b_gone_of .nil pass0 (qa_cons (qv 1) qa_nil)) qa_nil))) qa_nil)))))
   (qss_one (qs_ret (qv 0))))),?_⟩
 refine⟨rfl,fun y1 H1 S1 t1=>⟨rfl,fun y2 H2 S2 t2=>⟨_,_,_,_,rfl,t1.mono (.of S2),t2,⟨by decide,by decide⟩,⟨by decide,by decide⟩,fun y3 H3 S3 t3=>⟨(by show 1≤sizeLine; decide),fun p4 g4=>?_⟩⟩⟩⟩
 obtain⟨S4,t4⟩:=tupN (K:=K) g4 (trs1 t3)
 refine⟨rfl,?_⟩
 refine for_down (fun i σ' H'=>∃ v o,σ'=[some v,o]∧Same H H'∧TR K H' (.node (tSort i)) v) ?_ ?_ ?_
 ·exact⟨_,_,rfl,S1.trans (S2.trans (S3.trans S4)),t4⟩
 ·rintro i σ' H' hi ⟨v,o,rfl,S,ht⟩
  dsimp only [gName]
  have hl1:(tSort i).length=1:=by cases i <;> rfl
  refine⟨_,[5,3],rfl,by decide +kernel,by decide +kernel,by decide +kernel,by decide,fun y5 H5 S5 t5=>⟨_,rfl,nCat t5 (ht.mono (.of S5)) (small (by rw [hl1]; decide)) (fun y6 H6 S6 t6=>?_)⟩⟩
  refine⟨_,rfl,7 - i,(by show [V.int (7 - (i:Int))]=_; rw [show (((7 - i:Nat):Int))=7 - (i:Int) by lia]),by lia,fun y7 H7 S7 t7=>?_⟩
  have bi:=sort_B i (by lia)
  have bg:=gone_B (7 - i) (by lia)
  refine⟨_,_,_,_,rfl,t6.mono (.of S7),t7,bi,bg,fun y8 H8 S8 t8=>⟨(by show 1≤sizeLine; decide),fun p9 g9=>?_⟩⟩
  obtain⟨S9,t9⟩:=tupN (K:=K) g9 (trs1 t8)
  exact⟨_,_,rfl,S.trans (S5.trans (S6.trans (S7.trans (S8.trans S9)))),t9⟩
 ·rintro σ' H' ⟨v,o,rfl,S,ht⟩
  exact⟨_,rfl,q _ _ S ht⟩
theorem ok_stepped
  {a_plains:Addr}{d_plains:FuncData} (F_plains:Fun K "plains" "plains" s_plains a_plains d_plains) (G_plains:FnOk P w K mg base CX0 35 a_plains d_plains ["names"] (spPlains K)) (b_plains:Binds K d_plains ["names"] []) (m_plains:mg "plains"=some (.ref a_plains))
  {a_by_sort:Addr}{d_by_sort:FuncData} (F_by_sort:Fun K "by_sort" "by_sort" s_by_sort a_by_sort d_by_sort) (G_by_sort:FnOk P w K mg base CX0 35 a_by_sort d_by_sort [] (spTxt K (tSort 8))) (b_by_sort:Binds K d_by_sort [] []) (m_by_sort:mg "by_sort"=some (.ref a_by_sort))
  {a_fork:Addr}{d_fork:FuncData} (F_fork:Fun K "fork" "fork" s_fork a_fork d_fork) (G_fork:FnOk P w K mg base CX0 35 a_fork d_fork ["yes","no"] (spFork K)) (b_fork:Binds K d_fork ["yes","no"] []) (m_fork:mg "fork"=some (.ref a_fork))
  (F:Fun K "stepped" "stepped" s_stepped f fd):FnOk P w K mg base CX0 36 f fd [] (spTxt K tStep):=by
 refine okQ F sc_stepped (fun vs H Q E h=>?_) (fun cdv A outer s H vs Q E hr h=>?_)
 ·obtain⟨rfl,_⟩:=h
  rfl
 obtain⟨rfl,q⟩:=h
 refine⟨_,(qss_cons (qs_set (i:=0) sc_stepped.nd rfl (Or.inl rfl) (qe_op op_catTA (qe_call G_plains hr rfl m_plains F_plains.kp b_plains .nil pass0 (qa_cons qe_str qa_nil)) (qe_call0 G_by_sort hr rfl m_by_sort F_by_sort.kp b_by_sort .nil pass0)))
   (qss_cons (qs_set (i:=1) sc_stepped.nd rfl (Or.inl rfl) (qe_call G_plains hr rfl m_plains F_plains.kp b_plains .nil pass0 (qa_cons qe_str qa_nil)))
   (qss_one (qs_ret (qe_op op_catTA (qe_call G_plains hr rfl m_plains F_plains.kp b_plains .nil pass0 (qa_cons qe_str qa_nil)) (qe_tup (qa_cons (qe_call G_fork hr rfl m_fork F_fork.kp b_fork .nil pass0 (qa_cons (qv 0) (qa_cons (qv 1) qa_nil))) qa_nil))))))),?_⟩
 refine⟨_,[5,5],rfl,by decide +kernel,by decide +kernel,by decide +kernel,by decide,fun y1 H1 S1 t1=>⟨rfl,fun y2 H2 S2 t2=>nCat (t1.mono (.of S2)) t2 (small (by decide)) (fun y3 H3 S3 t3=>?_)⟩⟩
 have S13:=S1.trans (S2.trans S3)
 refine⟨_,[1],rfl,by decide +kernel,by decide +kernel,by decide +kernel,by decide,fun y4 H4 S4 t4=>?_⟩
 refine⟨_,[5],rfl,by decide +kernel,by decide +kernel,by decide +kernel,by decide,fun y5 H5 S5 t5=>⟨_,rfl,_,rfl,_,_,_,_,rfl,t3.mono (.of (S4.trans S5)),t4.mono (.of S5),⟨by decide +kernel,by decide +kernel⟩,⟨by decide,by decide⟩,fun y6 H6 S6 t6=>⟨(by show 1≤sizeLine; decide),fun p7 g7=>?_⟩⟩⟩
 obtain⟨S7,t7⟩:=tupN (K:=K) g7 (trs1 t6)
 exact nCat (t5.mono (.of (S6.trans S7))) t7 (small (by decide)) (fun y8 H8 S8 t8=>q _ _ (S13.trans (S4.trans (S5.trans (S6.trans (S7.trans S8))))) t8)
theorem ok_from_head
  {a_loop:Addr}{d_loop:FuncData} (F_loop:Fun K "loop" "loop" s_loop a_loop d_loop) (G_loop:FnOk P w K mg base CX0 36 a_loop d_loop ["body"] (spLoop K)) (b_loop:Binds K d_loop ["body"] []) (m_loop:mg "loop"=some (.ref a_loop))
  {a_stepped:Addr}{d_stepped:FuncData} (F_stepped:Fun K "stepped" "stepped" s_stepped a_stepped d_stepped) (G_stepped:FnOk P w K mg base CX0 36 a_stepped d_stepped [] (spTxt K tStep)) (b_stepped:Binds K d_stepped [] []) (m_stepped:mg "stepped"=some (.ref a_stepped))
  {a_plains:Addr}{d_plains:FuncData} (F_plains:Fun K "plains" "plains" s_plains a_plains d_plains) (G_plains:FnOk P w K mg base CX0 36 a_plains d_plains ["names"] (spPlains K)) (b_plains:Binds K d_plains ["names"] []) (m_plains:mg "plains"=some (.ref a_plains))
  (F:Fun K "from_head" "from_head" s_from_head f fd):FnOk P w K mg base CX0 37 f fd [] (spTxt K tHead):=by
 refine okQ F sc_from_head (fun vs H Q E h=>?_) (fun cdv A outer s H vs Q E hr h=>?_)
 ·obtain⟨rfl,_⟩:=h
  rfl
 obtain⟨rfl,q⟩:=h
 refine⟨_,(qss_one (qs_ret (qe_op op_catTA (qe_tup (qa_cons (qe_call G_loop hr rfl m_loop F_loop.kp b_loop .nil pass0 (qa_cons (qe_call0 G_stepped hr rfl m_stepped F_stepped.kp b_stepped .nil pass0) qa_nil)) qa_nil)) (qe_call G_plains hr rfl m_plains F_plains.kp b_plains .nil pass0 (qa_cons qe_str qa_nil))))),?_⟩
 refine⟨rfl,fun y1 H1 S1 t1=>⟨_,_,rfl,t1,by decide +kernel,by decide +kernel,fun y2 H2 S2 t2=>⟨(by show 1≤sizeLine; decide),fun p3 g3=>?_⟩⟩⟩
 obtain⟨S3,t3⟩:=tupN (K:=K) g3 (trs1 t2)
 refine⟨_,[1,5,3,1],rfl,by decide +kernel,by decide +kernel,by decide +kernel,by decide,fun y4 H4 S4 t4=>nCat (t3.mono (.of S4)) t4 (small (by decide)) (fun y5 H5 S5 t5=>q _ _ (S1.trans (S2.trans (S3.trans (S4.trans S5)))) t5)⟩
theorem ok_selfrunner
  {a_opening:Addr}{d_opening:FuncData} (F_opening:Fun K "opening" "opening" s_opening a_opening d_opening) (G_opening:FnOk P w K mg base CX0 37 a_opening d_opening [] (spTxt K tOpen)) (b_opening:Binds K d_opening [] []) (m_opening:mg "opening"=some (.ref a_opening))
  {a_from_head:Addr}{d_from_head:FuncData} (F_from_head:Fun K "from_head" "from_head" s_from_head a_from_head d_from_head) (G_from_head:FnOk P w K mg base CX0 37 a_from_head d_from_head [] (spTxt K tHead)) (b_from_head:Binds K d_from_head [] []) (m_from_head:mg "from_head"=some (.ref a_from_head))
  (F:Fun K "selfrunner" "selfrunner" s_selfrunner f fd):FnOk P w K mg base CX0 38 f fd [] (spTxt K tSelf):=by
 refine okQ F sc_selfrunner (fun vs H Q E h=>?_) (fun cdv A outer s H vs Q E hr h=>?_)
 ·obtain⟨rfl,_⟩:=h
  rfl
 obtain⟨rfl,q⟩:=h
 refine⟨_,(qss_one (qs_ret (qe_op op_catTA (qe_call0 G_opening hr rfl m_opening F_opening.kp b_opening .nil pass0) (qe_call0 G_from_head hr rfl m_from_head F_from_head.kp b_from_head .nil pass0)))),?_⟩
 exact⟨rfl,fun y1 H1 S1 t1=>⟨rfl,fun y2 H2 S2 t2=>nCat (t1.mono (.of S2)) t2 (small (by decide)) (fun y3 H3 S3 t3=>q _ _ (S1.trans (S2.trans S3)) t3)⟩⟩
theorem ok_lay_made
  {a_lay:Addr}{d_lay:FuncData} (F_lay:Fun K "lay" "lay" s_lay a_lay d_lay) (G_lay:FnOk P w K mg base CX0 32 a_lay d_lay ["tree"] (spLay K)) (b_lay:Binds K d_lay ["tree"] []) (m_lay:mg "lay"=some (.ref a_lay))
  {a_plains:Addr}{d_plains:FuncData} (F_plains:Fun K "plains" "plains" s_plains a_plains d_plains) (G_plains:FnOk P w K mg base CX0 32 a_plains d_plains ["names"] (spPlains K)) (b_plains:Binds K d_plains ["names"] []) (m_plains:mg "plains"=some (.ref a_plains))
  (F:Fun K "lay_made" "lay_made" s_lay_made f fd):FnOk P w K mg base CX0 33 f fd [] (spTxt K (tLayMade [])):=by
 refine okQ F sc_lay_made (fun vs H Q E h=>?_) (fun cdv A outer s H vs Q E hr h=>?_)
 ·obtain⟨rfl,_⟩:=h
  rfl
 obtain⟨rfl,q⟩:=h
 refine⟨_,(qss_one (qs_ret (qe_op op_catTA (qe_tup (qa_cons (qe_call G_lay hr rfl m_lay F_lay.kp b_lay .nil pass0 (qa_cons (qe_tup qa_nil) qa_nil)) qa_nil)) (qe_call G_plains hr rfl m_plains F_plains.kp b_plains .nil pass0 (qa_cons qe_str qa_nil))))),?_⟩
 refine⟨Nat.zero_le _,fun p1 g1=>?_⟩
 obtain⟨S1,t1⟩:=tupN (K:=K) (ts:=[]) g1 (TRs_nil.mpr rfl)
 refine⟨_,leaf,rfl,t1,by decide,by decide,fun y2 H2 S2 t2=>⟨(by show 1≤sizeLine; decide),fun p3 g3=>?_⟩⟩
 obtain⟨S3,t3⟩:=tupN (K:=K) g3 (trs1 t2)
 refine⟨_,[4],rfl,by decide +kernel,by decide +kernel,by decide +kernel,by decide,fun y4 H4 S4 t4=>nCat (t3.mono (.of S4)) t4 (small (by decide)) (fun y5 H5 S5 t5=>q _ _ (S1.trans (S2.trans (S3.trans (S4.trans S5)))) t5)⟩
theorem ok_selfmaker
  {a_plains:Addr}{d_plains:FuncData} (F_plains:Fun K "plains" "plains" s_plains a_plains d_plains) (G_plains:FnOk P w K mg base CX0 33 a_plains d_plains ["names"] (spPlains K)) (b_plains:Binds K d_plains ["names"] []) (m_plains:mg "plains"=some (.ref a_plains))
  {a_lay_made:Addr}{d_lay_made:FuncData} (F_lay_made:Fun K "lay_made" "lay_made" s_lay_made a_lay_made d_lay_made) (G_lay_made:FnOk P w K mg base CX0 33 a_lay_made d_lay_made [] (spTxt K (tLayMade []))) (b_lay_made:Binds K d_lay_made [] []) (m_lay_made:mg "lay_made"=some (.ref a_lay_made))
  (F:Fun K "selfmaker" "selfmaker" s_selfmaker f fd):FnOk P w K mg base CX0 34 f fd [] (spTxt K (tMaker [])):=by
 refine okQ F sc_selfmaker (fun vs H Q E h=>?_) (fun cdv A outer s H vs Q E hr h=>?_)
 ·obtain⟨rfl,_⟩:=h
  rfl
 obtain⟨rfl,q⟩:=h
 refine⟨_,(qss_one (qs_ret (qe_op op_catTA (qe_op op_catTA (qe_call G_plains hr rfl m_plains F_plains.kp b_plains .nil pass0 (qa_cons qe_str qa_nil)) (qe_call0 G_lay_made hr rfl m_lay_made F_lay_made.kp b_lay_made .nil pass0)) (qe_call G_plains hr rfl m_plains F_plains.kp b_plains .nil pass0 (qa_cons qe_str qa_nil))))),?_⟩
 refine⟨_,[2],rfl,by decide +kernel,by decide +kernel,by decide +kernel,by decide,fun y1 H1 S1 t1=>⟨rfl,fun y2 H2 S2 t2=>nCat (t1.mono (.of S2)) t2 (small (by decide)) (fun y3 H3 S3 t3=>?_)⟩⟩
 refine⟨_,[4],rfl,by decide +kernel,by decide +kernel,by decide +kernel,by decide,fun y4 H4 S4 t4=>nCat (t3.mono (.of S4)) t4 (small (by decide)) (fun y5 H5 S5 t5=>q _ _ (S1.trans (S2.trans (S3.trans (S4.trans S5)))) t5)⟩
theorem ok_selfmade
  {a_lay:Addr}{d_lay:FuncData} (F_lay:Fun K "lay" "lay" s_lay a_lay d_lay) (G_lay:FnOk P w K mg base CX0 31 a_lay d_lay ["tree"] (spLay K)) (b_lay:Binds K d_lay ["tree"] []) (m_lay:mg "lay"=some (.ref a_lay))
  (F:Fun K "selfmade" "selfmade" s_selfmade f fd):FnOk P w K mg base CX0 32 f fd ["body"] (spSelfmade K):=by
 refine okQ F sc_selfmade (fun vs H Q E h=>?_) (fun cdv A outer s H vs Q E hr h=>?_)
 ·obtain⟨x,b,rfl,_⟩:=h
  rfl
 obtain⟨x,b,rfl,hx,hb,q⟩:=h
 refine⟨_,(qss_one (qs_ret (qe_op op_catTA (qe_tup (qa_cons (qe_call G_lay hr rfl m_lay F_lay.kp b_lay .nil pass0 (qa_cons (qv 0) qa_nil)) qa_nil)) (qv 0)))),?_⟩
 have hl:=hb.len
 refine⟨_,rfl,x,.node b,rfl,hx,by have:=hb.1; lia,by have:=hb.2; lia,fun y1 H1 S1 t1=>⟨(by show 1≤sizeLine; decide),fun p2 g2=>?_⟩⟩
 obtain⟨S2,t2⟩:=tupN (K:=K) g2 (trs1 t1)
 exact⟨_,rfl,nCat t2 (hx.mono (.of (S1.trans S2))) (small (by rw [List.length_singleton]; lia)) (fun y3 H3 S3 t3=>q _ _ (S1.trans (S2.trans S3)) t3)⟩
theorem ok_both_run
  {a_plains:Addr}{d_plains:FuncData} (F_plains:Fun K "plains" "plains" s_plains a_plains d_plains) (G_plains:FnOk P w K mg base CX0 38 a_plains d_plains ["names"] (spPlains K)) (b_plains:Binds K d_plains ["names"] []) (m_plains:mg "plains"=some (.ref a_plains))
  {a_selfrunner:Addr}{d_selfrunner:FuncData} (F_selfrunner:Fun K "selfrunner" "selfrunner" s_selfrunner a_selfrunner d_selfrunner) (G_selfrunner:FnOk P w K mg base CX0 38 a_selfrunner d_selfrunner [] (spTxt K tSelf)) (b_selfrunner:Binds K d_selfrunner [] []) (m_selfrunner:mg "selfrunner"=some (.ref a_selfrunner))
  (F:Fun K "both_run" "both_run" s_both_run f fd):FnOk P w K mg base CX0 39 f fd ["own_made"] (spBothRun K):=by
 refine okQ F sc_both_run (fun vs H Q E h=>?_) (fun cdv A outer s H vs Q E hr h=>?_)
 ·obtain⟨x,m,rfl,_⟩:=h
  rfl
 obtain⟨x,m,rfl,hx,hm,q⟩:=h
 refine⟨_,(qss_one (qs_ret (qe_op op_catTA (qe_op op_catTA (qe_op op_catTA (qe_op op_catTA (qe_op op_catTA (qe_call G_plains hr rfl m_plains F_plains.kp b_plains .nil pass0 (qa_cons qe_str qa_nil)) (qv 0)) (qe_call G_plains hr rfl m_plains F_plains.kp b_plains .nil pass0 (qa_cons qe_str qa_nil))) (qe_call0 G_selfrunner hr rfl m_selfrunner F_selfrunner.kp b_selfrunner .nil pass0)) (qe_call G_plains hr rfl m_plains F_plains.kp b_plains .nil pass0 (qa_cons qe_str qa_nil))) (qe_call0 G_selfrunner hr rfl m_selfrunner F_selfrunner.kp b_selfrunner .nil pass0)))),?_⟩
 have e1:(tSelf:List T).length=12:=by decide
 refine⟨_,[3],rfl,by decide +kernel,by decide +kernel,by decide +kernel,by decide,fun y1 H1 S1 t1=>⟨_,rfl,nCat t1 (hx.mono (.of S1)) (small (by show 1+_≤_; lia)) (fun y2 H2 S2 t2=>?_)⟩⟩
 refine⟨_,[3,4],rfl,by decide +kernel,by decide +kernel,by decide +kernel,by decide,fun y3 H3 S3 t3=>nCat (t2.mono (.of S3)) t3 (small (by rw [List.length_append]; show 1+_+2≤_; lia)) (fun y4 H4 S4 t4=>?_)⟩
 refine⟨rfl,fun y5 H5 S5 t5=>nCat (t4.mono (.of S5)) t5 (small (by rw [List.length_append,List.length_append,e1]; show 1+_+2+_≤_; lia)) (fun y6 H6 S6 t6=>?_)⟩
 refine⟨_,[4],rfl,by decide +kernel,by decide +kernel,by decide +kernel,by decide,fun y7 H7 S7 t7=>nCat (t6.mono (.of S7)) t7 (small (by rw [List.length_append,List.length_append,List.length_append,e1]; show 1+_+2+_+1≤_; lia)) (fun y8 H8 S8 t8=>?_)⟩
 refine⟨rfl,fun y9 H9 S9 t9=>nCat (t8.mono (.of S9)) t9 (small (by rw [List.length_append,List.length_append,List.length_append,List.length_append,e1]; show 1+_+2+_+1+_≤_; lia)) (fun y10 H10 S10 t10=>?_)⟩
 refine q _ _ (S1.trans (S2.trans (S3.trans (S4.trans (S5.trans (S6.trans (S7.trans (S8.trans (S9.trans S10))))))))) ?_
 rw [List.append_assoc,List.append_assoc,List.append_assoc,List.append_assoc] at t10
 exact t10
theorem ok_knot_body
  {a_lay:Addr}{d_lay:FuncData} (F_lay:Fun K "lay" "lay" s_lay a_lay d_lay) (G_lay:FnOk P w K mg base CX0 39 a_lay d_lay ["tree"] (spLay K)) (b_lay:Binds K d_lay ["tree"] []) (m_lay:mg "lay"=some (.ref a_lay))
  {a_both_run:Addr}{d_both_run:FuncData} (F_both_run:Fun K "both_run" "both_run" s_both_run a_both_run d_both_run) (G_both_run:FnOk P w K mg base CX0 39 a_both_run d_both_run ["own_made"] (spBothRun K)) (b_both_run:Binds K d_both_run ["own_made"] []) (m_both_run:mg "both_run"=some (.ref a_both_run))
  {a_selfmaker:Addr}{d_selfmaker:FuncData} (F_selfmaker:Fun K "selfmaker" "selfmaker" s_selfmaker a_selfmaker d_selfmaker) (G_selfmaker:FnOk P w K mg base CX0 39 a_selfmaker d_selfmaker [] (spTxt K (tMaker []))) (b_selfmaker:Binds K d_selfmaker [] []) (m_selfmaker:mg "selfmaker"=some (.ref a_selfmaker))
  (F:Fun K "knot_body" "knot_body" s_knot_body f fd):FnOk P w K mg base CX0 40 f fd ["text"] (spBodyK K):=by
 refine okQ F sc_knot_body (fun vs H Q E h=>?_) (fun cdv A outer s H vs Q E hr h=>?_)
 ·obtain⟨x,f,rfl,_⟩:=h
  rfl
 obtain⟨x,f,rfl,hx,hf,q⟩:=h
 refine⟨_,(qss_one (qs_ret (qe_op op_catTA (qe_tup (qa_cons (qe_call G_lay hr rfl m_lay F_lay.kp b_lay .nil pass0 (qa_cons (qv 0) qa_nil)) qa_nil)) (qe_call G_both_run hr rfl m_both_run F_both_run.kp b_both_run .nil pass0 (qa_cons (qe_call0 G_selfmaker hr rfl m_selfmaker F_selfmaker.kp b_selfmaker .nil pass0) qa_nil))))),?_⟩
 refine⟨_,rfl,x,.node f,rfl,hx,by have:=hf.1; lia,by have:=hf.2; lia,fun y1 H1 S1 t1=>⟨(by show 1≤sizeLine; decide),fun p2 g2=>?_⟩⟩
 obtain⟨S2,t2⟩:=tupN (K:=K) g2 (trs1 t1)
 refine⟨rfl,fun y3 H3 S3 t3=>⟨y3,tMaker [],rfl,t3,by decide,fun y4 H4 S4 t4=>?_⟩⟩
 have S24:=S3.trans S4
 exact nCat (t2.mono (.of S24)) t4 (small (by show 1+(bothW (tMaker [])).length≤_; decide)) (fun y5 H5 S5 t5=>q _ _ (S1.trans (S2.trans (S24.trans S5))) t5)
theorem ok_knot
  {a_selfmade:Addr}{d_selfmade:FuncData} (F_selfmade:Fun K "selfmade" "selfmade" s_selfmade a_selfmade d_selfmade) (G_selfmade:FnOk P w K mg base CX0 40 a_selfmade d_selfmade ["body"] (spSelfmade K)) (b_selfmade:Binds K d_selfmade ["body"] []) (m_selfmade:mg "selfmade"=some (.ref a_selfmade))
  {a_knot_body:Addr}{d_knot_body:FuncData} (F_knot_body:Fun K "knot_body" "knot_body" s_knot_body a_knot_body d_knot_body) (G_knot_body:FnOk P w K mg base CX0 40 a_knot_body d_knot_body ["text"] (spBodyK K)) (b_knot_body:Binds K d_knot_body ["text"] []) (m_knot_body:mg "knot_body"=some (.ref a_knot_body))
  (F:Fun K "knot" "knot" s_knot f fd):FnOk P w K mg base CX0 41 f fd ["text"] (spKnot K):=by
 refine okQ F sc_knot (fun vs H Q E h=>?_) (fun cdv A outer s H vs Q E hr h=>?_)
 ·obtain⟨x,f,rfl,_⟩:=h
  rfl
 obtain⟨x,f,rfl,hx,hf,q⟩:=h
 refine⟨_,(qss_one (qs_ret (qe_call G_selfmade hr rfl m_selfmade F_selfmade.kp b_selfmade .nil pass0 (qa_cons (qe_call G_knot_body hr rfl m_knot_body F_knot_body.kp b_knot_body .nil pass0 (qa_cons (qv 0) qa_nil)) qa_nil)))),?_⟩
 exact⟨_,rfl,x,f,rfl,hx,hf,fun y1 H1 S1 t1=>⟨y1,bodyK f,rfl,t1,B_body hf,fun y2 H2 S2 t2=>q _ _ (S1.trans S2) t2⟩⟩
end
end Sw92
namespace Sw92
open PySem PySem.Spec PyProof.Rows L2 Sw
section
variable {P:Program}{w:World}{K:PySem.W.Frag}{mg:Str→Option Value}{base:Heap}{f:Addr}{fd:FuncData}
theorem t_andA {t u:TT}{σ:Sg}{H:Hp}{Q:Bool→Hp→Prop}{b1 b2:Bool} (h1:∀ R:Bool→Hp→Prop,R b1 H→t σ H R) (h2:b1=true→∀ R:Bool→Hp→Prop,R b2 H→u σ H R) (q:∀ b,Q b H):tAnd t u σ H Q:=by
 refine h1 _ ?_
 cases b1 with
 | false=>exact iteF (q false)
 | true=>exact iteT (h2 rfl _ (q b2))
theorem t_orA {t u:TT}{σ:Sg}{H:Hp}{Q:Bool→Hp→Prop}{b1 b2:Bool} (h1:∀ R:Bool→Hp→Prop,R b1 H→t σ H R) (h2:∀ R:Bool→Hp→Prop,R b2 H→u σ H R) (q:∀ b,Q b H):tOr t u σ H Q:=by
 refine h1 _ ?_
 cases b1 with
 | true=>exact iteT (q true)
 | false=>exact iteF (h2 _ (q b2))
theorem iteN {c:Bool}{A B:Prop} (h:c=false) (k:B):if c=true then A else B:=by subst h; exact k
theorem iteY {c:Bool}{A B:Prop} (h:c=true) (k:A):if c=true then A else B:=by subst h; exact k
theorem ifJoin {tc:TT}{tb te:TS}{u:TS}{D:Ends}{σ:L2.St}{H:Hp} (P:L2.St→Hp→Prop) (k:∀ σ' H',P σ' H'→u D σ' H') (h:∀ N:L2.St→Hp→Prop,(∀ σ' H',P σ' H'→N σ' H')→tIfS tc tb te { D with nx:=N } σ H):tSeq (tIfS tc tb te) u D σ H:=h _ k
def spPlainL (K:PySem.W.Frag):Sp:=fun vs H Q _=>∃ n:Nat,vs=[.int (n:Int)]∧n≤100∧∀ y H',Same H H'→TR K H' (W n) y→Q y H'
theorem flat_rep (x:V):∀ n:Nat,(List.replicate n [x]).flatten=List.replicate n x
 | 0=>rfl
 | n+1=>by rw [List.replicate_succ,List.flatten_cons,flat_rep x n,List.replicate_succ]; rfl
theorem trs4 {K:PySem.W.Frag}{H:Hp}{t u r s:T}{x y z v:V} (h:TR K H t x) (g:TR K H u y) (k:TR K H r z) (j:TR K H s v):TRs K H [t,u,r,s] [x,y,z,v]:=TRs_cons.mpr ⟨x,[y,z,v],rfl,h,trs3 g k j⟩
theorem bool_map (f:MT→Bool) {ms:List MT}{i:Nat}{m:MT} (h:ms[i]?=some m):((ms.take (i+1)).map f).map V.bl=((ms.take i).map f).map V.bl++[V.bl (f m)]:=by
 rw [List.take_succ,h,List.map_append,List.map_append]
 rfl
theorem ok__law_deck (m_len:mg "len"=none) (m_range:mg "range"=none) (m_min:mg "min"=none)
  (F:Fun K "_law_deck" "_law_deck" s__law_deck f fd):FnOk P w K mg base CX0 32 f fd ["_law_script"] (spDeck K):=by
 refine okQ F sc__law_deck (fun vs H Q E h=>?_) (fun cdv A outer s H vs Q E hr h=>?_)
 ·obtain⟨a,ns,rfl,_⟩:=h
  rfl
 obtain⟨a,ns,rfl,hl,h63,q⟩:=h
 refine⟨_,(qss_cons (qs_set (i:=1) sc__law_deck.nd rfl (Or.inl rfl) (qe_lst qa_nil))
   (qss_cons (qs_if (QW.pt (qw_and (qt_cmpR op_gt (qe_callB call_len_seq rfl m_len bt_len (qa_cons (qv 0) qa_nil)) qe_int (nomark _)) (qw_and1 (qt_cmpR op_eq (qe_op op_mod (qe_ix ix_list (qv 0) qe_int (fun _ _=>rfl)) qe_int) qe_int (nomark _))))) (qss_cons (qs_for PassesOwn.never rfl (qi_list (qe_slice sl_list (qv 0) (qo_some qe_int) (qo_some qe_int))) (qg_name (i:=2) sc__law_deck.nd rfl (Or.inl rfl)) (qss_cons (qs_set (i:=3) sc__law_deck.nd rfl (Or.inl rfl) (qe_op op_mod (qv 2) (qe_op op_pow qe_int qe_int)))
   (qss_one (qs_for PassesOwn.never rfl (qi_range1 rfl m_range (qa_cons qe_int qa_nil)) (qg_name (i:=4) sc__law_deck.nd rfl (Or.inl rfl)) (qss_one (qs_if (QW.pt (qw_or (qt_cmpR op_eq (qv 4) qe_int (nomark _)) (qw_or1 (qt_cmpR op_gt (qv 3) qe_int (nomark _))))) (qss_cons (qs_expr (qe_bm PySem.F.plainAttrs_list PySem.F.slot_list_append PySem.F.type_list_append mt_append (qv 1) (qa_cons (qe_op op_mod (qv 3) qe_int) qa_nil)))
   (qss_one (qs_set (i:=3) sc__law_deck.nd rfl (Or.inl rfl) (qe_op op_fdivL (qv 3) qe_int)))) qss_nil))))))
   (qss_one (qs_ret (qe_slice sl_list (qv 1) qo_none (qo_some qe_int))))) qss_nil)
   (qss_cons (qs_for PassesOwn.never rfl (qi_range1 rfl m_range (qa_cons qe_int qa_nil)) (qg_name (i:=4) sc__law_deck.nd rfl (Or.inl rfl)) (qss_cons (qs_set (i:=2) sc__law_deck.nd rfl (Or.inl rfl) (qe_op op_mul qe_int (qv 4)))
   (qss_cons (qs_if (qt_cmpR op_gt (qe_callB call_len_seq rfl m_len bt_len (qa_cons (qv 0) qa_nil)) qe_int (nomark _)) (qss_one (qs_set (i:=2) sc__law_deck.nd rfl (Or.inl rfl) (qe_op op_mod (qe_ix ix_list (qv 0) (qe_op op_mod (qv 4) (qe_callB (call_min2 rfl) rfl m_min bt_min (qa_cons qe_int (qa_cons (qe_callB call_len_seq rfl m_len bt_len (qa_cons (qv 0) qa_nil)) qa_nil)))) (fun _ _=>rfl)) qe_int))) qss_nil)
   (qss_cons (qs_set (i:=3) sc__law_deck.nd rfl (Or.inl rfl) (qe_op op_mod (qe_op op_add (qe_op op_add (qe_op op_mul (qv 2) qe_int) (qe_op op_mul qe_int (qv 4))) qe_int) qe_int))
   (qss_cons (qs_set (i:=3) sc__law_deck.nd rfl (Or.inl rfl) (qe_op op_mod (qe_op op_add (qe_op op_mul (qv 3) (qe_op op_add (qe_op op_fdiv (qv 3) qe_int) (qv 4))) (qe_op op_mul qe_int (qv 4))) qe_int))
   (qss_one (qs_expr (qe_bm PySem.F.plainAttrs_list PySem.F.slot_list_append PySem.F.type_list_append mt_append (qv 1) (qa_cons (qe_op op_mod (qe_op op_add (qe_op op_mul (qv 3) qe_int) (qe_op op_fdiv (qv 3) qe_int)) qe_int) qa_nil)))))))))
   (qss_one (qs_ret (qv 1)))))),?_⟩
 have big:(2 ^ 64:Int)=18446744073709551616:=by decide
 refine⟨Nat.zero_le _,fun p1 g1=>?_⟩
 have S1:=same_new g1 (.lst [])
 have hl1:=S1.seq hl
 have hlen:(ns.map V.int).length=ns.length:=List.length_map ..
 dsimp only [tNext,tSeq,tIfS]
 refine t_andA (b1:=decide ((1:Int)<((ns.map V.int).length:Int))) (b2:=decide (V.int ((ns.getD 0 0) % 2)=V.int 1)) (fun R r=>⟨_,rfl,a,_,rfl,.inl hl1,_,_,rfl,rfl,_,rfl,r⟩) (fun h2 R r=>?_) (fun bb=>ite2 (fun _=>?_) (fun _=>?_))
 ·have h3:1<ns.length:=by have:=of_decide_eq_true h2; rw [hlen] at this; lia
  have e0:atI (ns.map V.int) 0=some (.int (ns.getD 0 0)):=atI_nat (j:=0) (by rw [List.getElem?_map,List.getElem?_eq_getElem (by lia),List.getD_eq_getElem?_getD,List.getElem?_eq_getElem (by lia)]; rfl)
  exact⟨_,rfl,a,_,_,_,rfl,rfl,hl1,e0,_,_,rfl,rfl,(by show (0:Int)<2; decide),rfl,_,rfl,r⟩
 ·refine⟨_,rfl,1,rfl,63,rfl,a,_,rfl,hl1,fun p2 g2=>?_⟩
  obtain⟨k,ek⟩:=cut_mid (ns.map V.int) 1 63
  have ek':cutV (ns.map V.int) (some 1) (some 63)=((ns.map V.int).drop (min 1 (ns.map V.int).length)).take k:=ek
  have hint:∀ x∈cutV (ns.map V.int) (some 1) (some 63),∃ z,x=.int z:=fun x hx=>by
   rw [ek'] at hx
   have hx:=List.mem_of_mem_drop (List.mem_of_mem_take hx)
   obtain⟨z,_,rfl⟩:=List.mem_map.mp hx
   exact⟨z,rfl⟩
  have hclen:(cutV (ns.map V.int) (some 1) (some 63)).length≤63:=by
   rw [ek',List.length_take,List.length_drop,hlen]
   lia
  have n12:p2≠p1:=fun z=>by rw [z,upd_same] at g2; cases g2
  have gH1:H p1=none:=g1
  generalize cutV (ns.map V.int) (some 1) (some 63)=cs at hint hclen
  refine⟨p2,rfl,⟨_,SqL.of upd_same⟩,?_⟩
  refine for_list (xs:=cs) (fun i σ' H'=>∃ (ds:List Int) (o2 o3 o4:Option V),σ'=[some (.ref a),some (.ref p1),o2,o3,o4]∧Same H H'∧H' p1=some (.lst (ds.map V.int))∧H' p2=some (.lst cs)∧ds.length≤60 * i) ?_ ?_ ?_ ?_
  ·exact⟨[],_,_,_,rfl,S1.trans (same_new g2 _),by rw [upd_ne n12.symm]; exact upd_same,upd_same,Nat.zero_le _⟩
  ·rintro i σ' H' _ ⟨ds,o2,o3,o4,rfl,S,h1,h2,_⟩
   exact SqL.of h2
  ·rintro i x σ' H' hx ⟨ds,o2,o3,o4,rfl,S,h1,h2,hd⟩
   obtain⟨z,rfl⟩:=hint x (List.mem_of_getElem? hx)
   have hi:i<cs.length:=(List.getElem?_eq_some_iff.mp hx).1
   refine⟨_,rfl,_,_,rfl,rfl,⟨by decide,by decide,by decide⟩,_,_,rfl,rfl,(by show (0:Int)<2147483647 ^ 60; decide),?_⟩
   refine⟨60,rfl,by decide,by decide,?_⟩
   refine for_range (n:=60) (fun j σ'' H''=>∃ (es:List Int) (m:Int) (o4:Option V),σ''=[some (.ref a),some (.ref p1),some (.int z),some (.int m),o4]∧Same H H''∧H'' p1=some (.lst (es.map V.int))∧H'' p2=some (.lst cs)∧es.length≤60 * i+j) ?_ ?_ ?_
   ·exact⟨ds,_,_,rfl,S,h1,h2,hd⟩
   ·rintro j σ'' H'' hj ⟨es,m,o5,rfl,S',h1',h2',he⟩
    dsimp only [gName,tNext,tSeq,tIfS]
    refine t_orA (fun R r=>⟨_,rfl,rfl,_,rfl,r⟩) (fun R r=>⟨_,rfl,_,_,rfl,rfl,_,rfl,r⟩) (fun bb=>ite2 (fun _=>?_) (fun _=>?_))
    ·refine⟨_,rfl,.inl ⟨rfl,_,SqL.of h1'⟩,_,rfl,_,_,rfl,rfl,(by show (0:Int)<2147483647; decide),p1,_,_,rfl,rfl,h1',smallL (by rw [List.length_map]; lia),?_⟩
     refine⟨_,rfl,_,_,rfl,rfl,⟨by decide,by decide +kernel⟩,es++[m % 2147483647],_,_,rfl,same_upd S' gH1,by rw [upd_same,List.map_append]; rfl,by rw [upd_ne n12]; exact h2',by rw [List.length_append]; show es.length+1≤_; lia⟩
    ·exact⟨es,m,_,rfl,S',h1',h2',by lia⟩
   ·rintro σ'' H'' ⟨es,m,o5,rfl,S',h1',h2',he⟩
    exact⟨es,_,_,_,rfl,S',h1',h2',by lia⟩
  ·rintro σ' H' ⟨ds,o2,o3,o4,rfl,S,h1,h2,hd⟩
   refine⟨_,rfl,160,rfl,p1,_,rfl,SqL.of h1,fun p3 g3=>q p3 _ (S.trans (same_new g3 _)) (S.free g3) ⟨ds.take 160,?_⟩⟩
   rw [upd_same,show (some (160:Int))=some ((160:Nat):Int) from rfl,cut_to,List.map_take]
 ·have gH1:H p1=none:=g1
  dsimp only [tNext]
  refine⟨160,rfl,by decide,by decide,?_⟩
  refine for_range (n:=160) (fun i σ' H'=>∃ (ds:List Int) (o2 o3 o4:Option V),σ'=[some (.ref a),some (.ref p1),o2,o3,o4]∧Same H H'∧H' p1=some (.lst (ds.map V.int))∧ds.length=i) ?_ ?_ ?_
  ·exact⟨[],_,_,_,rfl,S1,upd_same,rfl⟩
  ·rintro i σ' H' hi ⟨ds,o2,o3,o4,rfl,S,h1,hd⟩
   have hi2:(0:Int)+(i:Int)<160:=by lia
   have hlH:=S.seq hl
   refine setQ (fun v=>[some (.ref a),some (.ref p1),some v,o3,some (.int (0+(i:Int)))]) (fun _=>rfl) (fun v H''=>v=.int (3 * (0+(i:Int)))∧H''=H') (fun R r=>⟨_,rfl,_,_,rfl,rfl,.inl ⟨by decide,by decide⟩,r _ _ ⟨rfl,rfl⟩⟩) (fun v2 H2 h2=>?_)
   obtain⟨rfl,rfl⟩:=h2
   refine ifSetQ (fun v=>[some (.ref a),some (.ref p1),some v,o3,some (.int (0+(i:Int)))]) (fun _=>rfl) (fun v H''=>∃ z:Int,v=.int z∧0≤z∧z<2147483647∧H''=H2) (.int (3 * (0+(i:Int)))) rfl (fun v3 H3 h3=>?_) (fun A B' hA hB=>⟨_,rfl,a,_,rfl,.inl hlH,_,_,rfl,rfl,_,rfl,ite2 (fun hb=>hA _ fun R r=>?_) (fun _=>hB _ ⟨_,rfl,by lia,by lia,rfl⟩)⟩)
   rotate_left
   ·have hpos:0<ns.length:=by have:=of_decide_eq_true hb; rw [hlen] at this; lia
    have hmn:(0:Int)<(if ((ns.map V.int).length:Int)<63 then ((ns.map V.int).length:Int) else 63):=by rw [hlen]; split <;> lia
    have hmx:(if ((ns.map V.int).length:Int)<63 then ((ns.map V.int).length:Int) else 63)≤(ns.length:Int):=by rw [hlen]; split <;> lia
    refine⟨_,rfl,_,rfl,_,rfl,a,_,rfl,.inl hlH,_,_,rfl,?_⟩
    generalize (if ((ns.map V.int).length:Int)<63 then ((ns.map V.int).length:Int) else 63)=mm at hmn hmx ⊢
    refine⟨_,_,rfl,rfl,hmn,?_⟩
    have j0:0≤(0+(i:Int)) % mm:=Int.emod_nonneg _ (by lia)
    have j1:(0+(i:Int)) % mm<mm:=Int.emod_lt_of_pos _ hmn
    obtain⟨z,_,ez⟩:=at_mem (ns:=ns) (k:=(0+(i:Int)) % mm) j0 (by lia)
    exact⟨a,_,_,_,rfl,rfl,hlH,ez,_,_,rfl,rfl,(by show (0:Int)<2147483629; decide),r _ _ ⟨_,rfl,Int.emod_nonneg _ (by decide),Int.lt_trans (Int.emod_lt_of_pos _ (by decide)) (by decide),rfl⟩⟩
   obtain⟨z,rfl,z0,z1,rfl⟩:=h3
   refine setQ (fun v=>[some (.ref a),some (.ref p1),some (.int z),some v,some (.int (0+(i:Int)))]) (fun _=>rfl) (fun v H''=>∃ m:Int,v=.int m∧0≤m∧m<2147483647∧H''=H3) (fun R r=>⟨_,rfl,_,_,rfl,rfl,.inl ⟨by lia,by lia⟩,_,rfl,_,_,rfl,rfl,.inl ⟨by decide,by decide⟩,_,_,rfl,rfl,_,_,rfl,rfl,_,_,rfl,rfl,(by show (0:Int)<2147483629; decide),r _ _ ⟨_,rfl,Int.emod_nonneg _ (by decide),Int.lt_trans (Int.emod_lt_of_pos _ (by decide)) (by decide),rfl⟩⟩) (fun v4 H4 h4=>?_)
   obtain⟨m4,rfl,m0,m1,rfl⟩:=h4
   refine setQ (fun v=>[some (.ref a),some (.ref p1),some (.int z),some v,some (.int (0+(i:Int)))]) (fun _=>rfl) (fun v H''=>∃ m:Int,v=.int m∧0≤m∧m<2147483647∧H''=H4) (fun R r=>⟨_,rfl,_,rfl,_,_,rfl,rfl,⟨by decide,by decide⟩,_,rfl,_,_,rfl,rfl,_,_,rfl,rfl,.inl ⟨by lia,by lia⟩,_,rfl,_,_,rfl,rfl,.inl ⟨by decide,by decide⟩,_,_,rfl,rfl,_,_,rfl,rfl,(by show (0:Int)<2147483587; decide),r _ _ ⟨_,rfl,Int.emod_nonneg _ (by decide),Int.lt_trans (Int.emod_lt_of_pos _ (by decide)) (by decide),rfl⟩⟩) (fun v5 H5 h5=>?_)
   obtain⟨m5,rfl,n0,n1,rfl⟩:=h5
   refine⟨_,rfl,.inl ⟨rfl,_,SqL.of h1⟩,_,rfl,_,_,rfl,rfl,.inl ⟨by lia,by lia⟩,_,rfl,_,_,rfl,rfl,⟨by decide,by decide⟩,_,_,rfl,rfl,_,_,rfl,rfl,(by show (0:Int)<2147483647; decide),p1,_,_,rfl,rfl,h1,smallL (by rw [List.length_map]; lia),?_⟩
   exact⟨ds++[(m5 * 69621+m5 / 127) % 2147483647],_,_,_,rfl,same_upd S gH1,by rw [upd_same,List.map_append]; rfl,by rw [List.length_append,hd]; rfl⟩
  ·rintro σ' H' ⟨ds,o2,o3,o4,rfl,S,h1,hd⟩
   exact⟨_,rfl,q p1 H' S gH1 ⟨ds,h1⟩⟩
theorem ok__law_next (m_len:mg "len"=none)
  (F:Fun K "_law_next" "_law_next" s__law_next f fd):FnOk P w K mg base CX0 31 f fd ["_law_deck_here","_law_many"] spNext:=by
 refine okQ F sc__law_next (fun vs H Q E h=>?_) (fun cdv A outer s H vs Q E hr h=>?_)
 ·obtain⟨p,m,rfl,_⟩:=h
  rfl
 obtain⟨p,m,rfl,hm,hd,q⟩:=h
 refine⟨_,(qss_cons (qs_if (qt_cmpR op_eq (qe_callB call_len_seq rfl m_len bt_len (qa_cons (qv 0) qa_nil)) qe_int (nomark _)) (qss_one (qs_ret qe_int)) qss_nil)
   (qss_one (qs_ret (qe_op op_mod (qe_bm PySem.F.plainAttrs_list PySem.F.slot_list_pop PySem.F.type_list_pop mt_popAt (qv 0) (qa_cons qe_int qa_nil)) (qv 1))))),?_⟩
 obtain⟨ns,hp⟩:=hd
 refine⟨_,rfl,p,_,rfl,.inl (SqL.of hp),rfl,_,rfl,?_⟩
 refine ite2 (fun _=>?_) (fun hb=>?_)
 ·exact q 0 H (by lia) hm (Dr.refl ⟨ns,hp⟩)
 ·cases ns with
  | nil=>exact absurd (decide_eq_true rfl) hb
  | cons n ns =>
   refine⟨_,rfl,.inl ⟨rfl,_,SqL.of hp⟩,p,_,0,0,_,rfl,rfl,hp,by decide,by decide,?_,rfl,?_⟩
   ·rw [seqIndex_of (by decide) (by rw [List.length_map,List.length_cons]; lia)]
    rfl
   ·refine⟨_,rfl,_,_,rfl,rfl,hm,q _ _ (Int.emod_nonneg _ (by lia)) (Int.emod_lt_of_pos _ hm) ⟨fun b o nb e=>?_,⟨ns,?_⟩⟩⟩
    ·rw [upd_ne nb]; exact e
    ·rw [upd_same]; rfl
theorem okN_tree (m_tuple:mg "tuple"=none) (m_range:mg "range"=none)
  {a__law_next:Addr}{d__law_next:FuncData} (F__law_next:Fun K "_law_next" "_law_next" s__law_next a__law_next d__law_next) (G0__law_next:FnOk P w K mg base CX0 31 a__law_next d__law_next ["_law_deck_here","_law_many"] spNext) (b__law_next:Binds K d__law_next ["_law_deck_here","_law_many"] []) (m__law_next:mg "_law_next"=some (.ref a__law_next))
  {a_t:Addr}{d_t:FuncData} (F__law_tree:Fun K "_law_tree" "_law_tree" s__law_tree a_t d_t) (b__law_tree:Binds K d_t ["_law_deck_here","_law_deep"] []) (m__law_tree:mg "_law_tree"=some (.ref a_t)) :
  ∀ n:Nat,FnOk P w K mg base CX0 (32+n) a_t d_t ["_law_deck_here","_law_deep"] (spTree K n):=by
 intro n
 induction n with
 | zero =>
  refine okQ (k:=31) F__law_tree sc__law_tree (fun vs H Q E h=>?_) (fun cdv A outer s H vs Q E hr h=>?_)
  ·obtain⟨p,d,rfl,_⟩:=h
   rfl
  obtain⟨p,d,rfl,hd,hk,q⟩:=h
  refine⟨_,qss_cons (qs_if (qt_cmpR op_eq (qv 1) qe_int (nomark _)) (qss_one (qs_ret (qe_tup qa_nil))) qss_nil) (qss_one qs_never),?_⟩
  have e:d=0:=by lia
  subst e
  refine⟨_,rfl,rfl,_,rfl,ite2 (fun _=>⟨Nat.zero_le _,fun p1 hp1=>?_⟩) (fun hb=>absurd (decide_eq_true rfl) hb)⟩
  exact q _ _ _ ((Dr.refl hk).same (same_new hp1 _)) (leaf_tr upd_same) ⟨by rw [T.deep_node,T.deepL_nil]; lia,by rw [T.parts_node,T.partsL_nil]; decide⟩
 | succ n ih =>
  have G__law_tree:=ih
  have G__law_next:=G0__law_next.mono (show 31≤32+n by lia)
  refine okQ (k:=32+n) F__law_tree sc__law_tree (fun vs H Q E h=>?_) (fun cdv A outer s H vs Q E hr h=>?_)
  ·obtain⟨p,d,rfl,_⟩:=h
   rfl
  obtain⟨p,d,rfl,hd,hk,q⟩:=h
  refine⟨_,(qss_cons (qs_if (qt_cmpR op_eq (qv 1) qe_int (nomark _)) (qss_one (qs_ret (qe_tup qa_nil))) qss_nil)
   (qss_one (qs_ret (qe_callTy call_tuple_of rfl m_tuple bt_tuple (qa_cons (qe_lc rfl (lc_free (fr:=["_law_deck_here","_law_deep"]) (js:=[0,1]) (sc:=defScope s__law_tree) rfl rfl rfl (by decide +kernel) (by decide +kernel) (by decide +kernel) (by decide +kernel) (by exact⟨⟨rfl,rfl,rfl⟩,⟨⟨rfl,rfl,rfl⟩,trivial⟩⟩) (by decide +kernel) (fun y hy=>cell_has hy)) (qi_range1 rfl m_range (qa_cons (qe_call G__law_next hr rfl m__law_next F__law_next.kp b__law_next .nil pass0 (qa_cons (qv 0) (qa_cons qe_int qa_nil))) qa_nil)) (fun _ _ _ _ _=>(qe_call G__law_tree hr rfl m__law_tree F__law_tree.kp b__law_tree .nil pass0 (qa_cons (qv 1) (qa_cons (qe_op op_sub (qv 2) qe_int) qa_nil))))) qa_nil))))),?_⟩
  refine⟨_,rfl,rfl,_,rfl,ite2 (fun hb=>?_) (fun hb=>?_)⟩
  ·have e:d=0:=by
    have:=of_decide_eq_true hb
    have:=V.int.inj this
    lia
   subst e
   refine⟨Nat.zero_le _,fun p1 hp1=>?_⟩
   exact q _ _ _ ((Dr.refl hk).same (same_new hp1 _)) (leaf_tr upd_same) ⟨by rw [T.deep_node,T.deepL_nil]; lia,by rw [T.parts_node,T.partsL_nil]; decide⟩
  ·have hd0:d≠0:=fun z=>hb (by subst z; exact decide_eq_true rfl)
   obtain⟨e,rfl⟩:∃ e,d=e+1:=⟨d - 1,by lia⟩
   refine⟨_,rfl,p,4,rfl,by decide,hk,fun m H1 hm0 hm1 D1=>?_⟩
   refine⟨m,rfl,by lia,by lia,?_⟩
   have hk1:=D1.deck
   refine lc_rangeI (fun D i ys H'=>D≠p∧H1 D=none∧Dr p H1 H'∧H' D=some (.lst ys)∧ys.length=i∧∃ ts,TRs K H' ts ys∧∀ t∈ts,ShT e t) (small (by lia)) (fun D hD=>?_) (fun D i ys H' j=>⟨j.2.2.2.1,j.2.2.2.2.1⟩) (fun D i ys H' R hi j hR=>?_) (fun D ys H' j=>?_)
   ·have hne:D≠p:=fun z=>by
     obtain⟨ns,e1⟩:=hk1
     rw [z,e1] at hD; cases hD
    exact⟨hne,hD,(Dr.refl hk1).upd hD hne,upd_same,rfl,[],TRs_nil.mpr rfl,fun _ h=>by simp at h⟩
   ·obtain⟨hne,hD,Dh,h1,hl,ts,htr,hsh⟩:=j
    refine⟨_,rfl,_,rfl,_,_,rfl,rfl,p,e,(by show [V.ref p,V.int (((e+1:Nat):Int) - 1)]=_; rw [show ((e+1:Nat):Int) - 1=(e:Int) by lia]),by lia,Dh.deck,fun y t H3 D3 ht hs=>?_⟩
    have h3:=D3.keep D _ hne h1
    refine hR y H3 h3 ⟨hne,hD,(Dh.trans D3).upd hD hne,upd_same,by rw [List.length_append,hl]; rfl,ts++[t],?_,fun u hu=>?_⟩
    ·exact TRs.append ((htr.mono (D3.kt Dh.deck)).mono (Kt.lst h3)) (TRs_cons.mpr ⟨y,[],rfl,ht.mono (Kt.lst h3),TRs_nil.mpr rfl⟩)
    ·rcases List.mem_append.mp hu with z | z
     ·exact hsh u z
     ·rw [List.mem_singleton.mp z]; exact hs
   ·obtain⟨hne,hD,Dh,h1,hl,ts,htr,hsh⟩:=j
    refine⟨D,ys,rfl,.inl ⟨SqL.of h1,fun p5 hp5=>?_⟩⟩
    have hlt:ts.length≤3:=by rw [← htr.length,hl]; lia
    refine q _ (.node ts) _ ((D1.trans Dh).same (same_new hp5 _)) (TR_mk (SqT.of upd_same) (htr.mono (Kt.new hp5))) ⟨?_,?_⟩
    ·rw [T.deep_node]
     exact T.deepL_le_of fun u hu=>by have:=(hsh u hu).1; lia
    ·rw [T.parts_node]
     have:=partsL_le (b:=pbT e) hlt fun u hu=>(hsh u hu).2
     show _≤1+3 * pbT e
     lia
theorem ok__law_plain
  (F:Fun K "_law_plain" "_law_plain" s__law_plain f fd):FnOk P w K mg base CX0 32 f fd ["_law_sort"] (spPlainL K):=by
 refine okQ F sc__law_plain (fun vs H Q E h=>?_) (fun cdv A outer s H vs Q E hr h=>?_)
 ·obtain⟨n,rfl,_⟩:=h
  rfl
 obtain⟨n,rfl,hn,q⟩:=h
 refine⟨_,(qss_one (qs_ret (qe_tup (qa_cons (qe_op op_repTA (qe_tup (qa_cons (qe_tup qa_nil) qa_nil)) (qv 0)) qa_nil)))),?_⟩
 refine⟨Nat.zero_le _,fun p1 hp1=>⟨(by show 1≤sizeLine; decide),fun p2 hp2=>?_⟩⟩
 have k1:upd (upd H p1 (.tup [])) p2 (.tup [.ref p1]) p1=some (.tup []):=(same_new hp2 _) _ _ upd_same
 have hbig:(2:Int) ^ 62=4611686018427387904:=by decide
 refine⟨_,rfl,p2,_,_,rfl,rfl,SqT.of upd_same,by lia,by lia,?_,fun p3 H3 S3 h3=>⟨(by show 1≤sizeLine; decide),fun p4 g4=>?_⟩⟩
 ·rw [Int.toNat_natCast,List.length_singleton]
  exact small (by lia)
 ·rw [rep_one] at h3
  have t3:TR K H3 (leavesT n) (.ref p3):=TR_mk h3 (trs_rep (leaf_tr (S3 _ _ k1)) n)
  obtain⟨S4,t4⟩:=tupN (K:=K) g4 (trs1 t3)
  exact q _ _ (((same_new hp1 _).trans (same_new hp2 _)).trans (S3.trans S4)) t4
theorem okN_marked (m_len:mg "len"=none) (m_tuple:mg "tuple"=none) (m_range:mg "range"=none)
  {a__law_next:Addr}{d__law_next:FuncData} (F__law_next:Fun K "_law_next" "_law_next" s__law_next a__law_next d__law_next) (G0__law_next:FnOk P w K mg base CX0 31 a__law_next d__law_next ["_law_deck_here","_law_many"] spNext) (b__law_next:Binds K d__law_next ["_law_deck_here","_law_many"] []) (m__law_next:mg "_law_next"=some (.ref a__law_next))
  {a_t:Addr}{d_t:FuncData} (F__law_marked:Fun K "_law_marked" "_law_marked" s__law_marked a_t d_t) (b__law_marked:Binds K d_t ["_law_deck_here","_law_deep","_law_marks"] []) (m__law_marked:mg "_law_marked"=some (.ref a_t)) :
  ∀ n:Nat,FnOk P w K mg base CX0 (32+n) a_t d_t ["_law_deck_here","_law_deep","_law_marks"] (spMarked K n):=by
 have step:∀ n:Nat,∀ (sp:Sp),FnOk P w K mg base CX0 (31+n) a_t d_t ["_law_deck_here","_law_deep","_law_marks"] sp→(∀ (p l:Addr) (d k:Nat) H Q E,d+1≤n→l≠p→DkAt H p→MkAt H l k→k≤100→(∀ y m k' H',Dr2 p l k' H H'→MR K H' m y→ShM d m→MT.mks m+k'=k→Q y H')→sp [.ref p,.int (d:Int),.ref l] H Q E)→FnOk P w K mg base CX0 (32+n) a_t d_t ["_law_deck_here","_law_deep","_law_marks"] (spMarked K n):=by
  intro n sp G__law_marked hsp
  have G__law_next:=G0__law_next.mono (show 31≤31+n by lia)
  have e32:32+n=(31+n)+1:=by lia
  rw [e32]
  refine okQ (k:=31+n) F__law_marked sc__law_marked (fun vs H Q E h=>?_) (fun cdv A outer s H vs Q E hr h=>?_)
  ·obtain⟨p,l,d,k,rfl,_⟩:=h
   rfl
  obtain⟨p,l,d,k,rfl,hd,hlp,hk,hm,hk100,q⟩:=h
  refine⟨_,(qss_cons (qs_if (QW.pt (qw_and (qt_cmpR op_gt (qe_callB call_len_seq rfl m_len bt_len (qa_cons (qv 2) qa_nil)) qe_int (nomark _)) (qw_and1 (qt_cmpR op_eq (qe_call G__law_next hr rfl m__law_next F__law_next.kp b__law_next .nil pass0 (qa_cons (qv 0) (qa_cons qe_int qa_nil))) qe_int (nomark _))))) (qss_cons (qs_expr (qe_bm0 PySem.F.plainAttrs_list PySem.F.slot_list_pop PySem.F.type_list_pop mt_pop (qv 2)))
   (qss_one (qs_ret qe_non))) qss_nil)
   (qss_cons (qs_if (qt_cmpR op_eq (qv 1) qe_int (nomark _)) (qss_one (qs_ret (qe_tup qa_nil))) qss_nil)
   (qss_one (qs_ret (qe_callTy call_tuple_of rfl m_tuple bt_tuple (qa_cons (qe_lc rfl (lc_free (fr:=["_law_deck_here","_law_deep","_law_marks"]) (js:=[0,1,2]) (sc:=defScope s__law_marked) rfl rfl rfl (by decide +kernel) (by decide +kernel) (by decide +kernel) (by decide +kernel) (by exact⟨⟨rfl,rfl,rfl⟩,⟨⟨rfl,rfl,rfl⟩,⟨⟨rfl,rfl,rfl⟩,trivial⟩⟩⟩) (by decide +kernel) (fun y hy=>cell_has hy)) (qi_range1 rfl m_range (qa_cons (qe_call G__law_next hr rfl m__law_next F__law_next.kp b__law_next .nil pass0 (qa_cons (qv 0) (qa_cons qe_int qa_nil))) qa_nil)) (fun _ _ _ _ _=>(qe_call G__law_marked hr rfl m__law_marked F__law_marked.kp b__law_marked .nil pass0 (qa_cons (qv 1) (qa_cons (qe_op op_sub (qv 2) qe_int) (qa_cons (qv 3) qa_nil)))))) qa_nil)))))),?_⟩
  refine ifJoin (fun σ' H'=>σ'=[some (.ref p),some (.int (d:Int)),some (.ref l)]∧Dr2 p l k H H') (fun σ1 H1 h1=>?_) (fun N hN=>?_)
  rotate_left
  ·cases k with
   | zero=>exact⟨_,rfl,l,_,rfl,.inl (SqL.of hm),_,_,rfl,rfl,_,rfl,iteN (by rfl) (hN _ _ ⟨rfl,Dr2.refl hk hm⟩)⟩
   | succ k =>
    refine⟨_,rfl,l,_,rfl,.inl (SqL.of hm),_,_,rfl,rfl,_,rfl,iteY (by rw [List.length_replicate]; exact decide_eq_true (by lia)) ?_⟩
    refine⟨_,rfl,p,4,rfl,by decide,hk,fun i H1 i0 i1 D1=>⟨rfl,_,rfl,ite2 (fun hb=>?_) (fun _=>hN _ _ ⟨rfl,D1.two hlp hm⟩)⟩⟩
    have hm1:MkAt H1 l (k+1):=D1.keep l _ hlp hm
    refine⟨_,rfl,.inl ⟨rfl,_,SqL.of hm1⟩,l,_,.int 0,rfl,rfl,hm1,?_,?_⟩
    ·rw [List.length_replicate,List.getElem?_replicate,if_pos (by lia)]
    refine q _ .mark k _ ⟨fun b o n1 n2 e=>?_,?_,?_⟩ (MR_mark.mpr rfl) ⟨?_,?_⟩ ?_
    ·rw [upd_ne n2]; exact D1.keep b o n1 e
    ·obtain⟨ns,e⟩:=D1.deck
     exact⟨ns,by rw [upd_ne hlp.symm]; exact e⟩
    ·show upd H1 l _ l=_
     rw [upd_same,List.dropLast_replicate]
     rfl
    ·rw [MT.cnt]; have:∀ d,1≤pbT d:=fun d=>by cases d <;> unfold pbT <;> lia
     exact this d
    ·rw [MT.dep]; lia
    ·rw [MT.mks]; lia
  obtain⟨rfl,D1⟩:=h1
  try dsimp only [tNext]
  refine⟨_,rfl,rfl,_,rfl,ite2 (fun hb=>?_) (fun hb=>?_)⟩
  ·refine⟨Nat.zero_le _,fun p1 hp1=>?_⟩
   refine q _ (.node []) k _ (D1.same (same_new hp1 _)) (MR_node.mpr ⟨p1,[],rfl,SqT.of upd_same,MRs_nil.mpr rfl⟩) ⟨?_,?_⟩ ?_
   ·rw [MT.cnt,MT.cntL]; have:∀ d,1≤pbT d:=fun d=>by cases d <;> unfold pbT <;> lia
    exact this d
   ·rw [MT.dep,MT.depL]; lia
   ·rw [MT.mks,MT.mksL]; lia
  ·have hd0:d≠0:=fun z=>hb (by subst z; exact decide_eq_true rfl)
   obtain⟨e,rfl⟩:∃ e,d=e+1:=⟨d - 1,by lia⟩
   refine⟨_,rfl,p,4,rfl,by decide,D1.deck,fun j H2 hj0 hj1 D2=>?_⟩
   have D12:=D2.two hlp D1.mks
   refine⟨j,rfl,by lia,by lia,?_⟩
   refine lc_mark (K:=K) (e:=e) (k:=k) D12.deck D12.mks (small (by lia)) (fun i H' R k1 hi hk1 Dh hR=>?_) (fun D ys ms k' H' Dh h1 hlen htr hsh hs=>?_)
   ·refine⟨_,rfl,_,rfl,_,_,rfl,rfl,_,rfl,?_⟩
    have hh:=hsp p l e k1 H' R E0 (by lia) hlp Dh.deck Dh.mks (by lia) hR
    rw [show (e:Int)=((e+1:Nat):Int) - 1 by lia] at hh
    exact hh
   ·refine⟨D,ys,rfl,.inl ⟨SqL.of h1,fun p5 hp5=>?_⟩⟩
    refine q _ (.node ms) k' _ (((D1.trans D12).trans Dh).same (same_new hp5 _)) (MR_node.mpr ⟨p5,ys,rfl,SqT.of upd_same,htr.mono (Kt.new hp5)⟩) ⟨?_,?_⟩ (by rw [MT.mks]; exact hs)
    ·have h5:=MT.cntL_le (b:=pbT e) (ms:=ms) fun m hm=>(hsh m hm).1
     have h6:ms.length * pbT e≤3 * pbT e:=Nat.mul_le_mul_right _ (by lia)
     rw [MT.cnt]
     show _≤1+3 * pbT e
     lia
    ·rw [MT.dep]
     exact MT.depL_le fun m hm=>by have:=(hsh m hm).2; lia
 intro n
 induction n with
 | zero =>
  refine step 0 (fun _ _ _ _=>False) ?_ (fun p l d k H Q E h=>absurd h (by lia))
  refine okQ (k:=30) F__law_marked sc__law_marked (fun vs H Q E h=>h.elim) (fun cdv A outer s H vs Q E hr h=>h.elim)
 | succ n ih =>
  refine step (n+1) (spMarked K n) ?_ (fun p l d k H Q E h1 h2 h3 h4 h5 h6=>⟨p,l,d,k,rfl,by lia,h2,h3,h4,h5,h6⟩)
  have e:31+(n+1)=32+n:=by lia
  rw [e]
  exact ih
theorem okN_free (m_all:mg "all"=none)
  {a_t:Addr}{d_t:FuncData} (F__law_free:Fun K "_law_free" "_law_free" s__law_free a_t d_t) (b__law_free:Binds K d_t ["_law_tree_here"] []) (m__law_free:mg "_law_free"=some (.ref a_t)) :
  ∀ n:Nat,FnOk P w K mg base CX0 (32+n) a_t d_t ["_law_tree_here"] (spFree K n):=by
 have step:∀ n:Nat,∀ (sp:Sp),FnOk P w K mg base CX0 (31+n) a_t d_t ["_law_tree_here"] sp→(∀ x m H Q E,MR K H m x→MT.dep m+1≤n→MT.cnt m≤1000→(∀ H',Same H H'→Q (.bl (MT.free m)) H')→sp [x] H Q E)→FnOk P w K mg base CX0 (32+n) a_t d_t ["_law_tree_here"] (spFree K n):=by
  intro n sp G__law_free hsp
  have e32:32+n=(31+n)+1:=by lia
  rw [e32]
  refine okQ (k:=31+n) F__law_free sc__law_free (fun vs H Q E h=>?_) (fun cdv A outer s H vs Q E hr h=>?_)
  ·obtain⟨x,m,rfl,_⟩:=h
   rfl
  obtain⟨x,m,rfl,hx,hd,hc,q⟩:=h
  refine⟨_,(qss_one (qs_ret (qe_and (qe_cmpR op_notN (qv 0) qe_non (nomark _)) (qe_one (qe_callB (call_all rfl) rfl m_all bt_all (qa_cons (qe_lc rfl (lc_free (fr:=[]) (js:=[]) (sc:=defScope s__law_free) rfl rfl rfl (by decide +kernel) (by decide +kernel) (by decide +kernel) (by decide +kernel) (by exact trivial) (by decide +kernel) (fun y hy=>cell_has hy)) (qi_tup (qv 0)) (fun _ _ _ _ _=>(qe_call G__law_free hr rfl m__law_free F__law_free.kp b__law_free .nil pass0 (qa_cons (qv 0) qa_nil)))) qa_nil)))))),?_⟩
  cases m with
  | mark =>
   rw [MR_mark] at hx
   subst hx
   rw [MT.free] at q
   exact⟨_,rfl,rfl,_,rfl,iteN (congrArg not (decide_eq_true rfl)) (q _ (Same.refl _))⟩
  | node ms =>
   obtain⟨a,xs,rfl,ha,ra⟩:=MR_node.mp hx
   have hl:=ra.length
   rw [MT.cnt] at hc
   rw [MT.dep] at hd
   rw [MT.free] at q
   have hlc:=MT.len_cnt ms
   refine⟨_,rfl,rfl,_,rfl,iteY (congrArg not (decide_eq_false (fun z=>by cases z))) ?_⟩
   refine⟨_,rfl,a,rfl,⟨xs,ha⟩,?_⟩
   refine lc_tupI (K:=K) (xs:=xs) (fun D i ys H'=>H D=none∧Same H H'∧H' D=some (.lst ys)∧ys=((ms.take i).map fun m=>MT.free m).map V.bl∧i≤ms.length) (small (by lia)) (fun D hD=>⟨hD,same_new hD _,upd_same,rfl,Nat.zero_le _⟩) (fun D i ys H' j=>⟨j.2.2.1,?_,sqT_mono (.of j.2.1) ha⟩) (fun D i x ys H' R hx j hR=>?_) (fun D ys H' j=>?_)
   ·rw [j.2.2.2.1,List.length_map,List.length_map,List.length_take]
    exact Nat.min_eq_left j.2.2.2.2
   ·obtain⟨hD,S,h1,h2,_⟩:=j
    obtain⟨u,hu,hxu⟩:=ra.get hx
    have hm:=List.mem_of_getElem? hu
    have hud:=MT.mem_dep hm
    have hup:=MT.mem_cnt hm
    refine⟨_,rfl,hsp x u H' _ _ (hxu.mono (.of S)) (by lia) (by lia) fun H3 S3=>?_⟩
    refine hR _ _ (S3 _ _ h1) ⟨hD,same_upd (S.trans S3) hD,upd_same,?_,(List.getElem?_eq_some_iff.mp hu).1⟩
    rw [h2,bool_map _ hu]
   ·obtain⟨hD,S,h1,h2,_⟩:=j
    rw [List.take_of_length_le (by lia)] at h2
    refine⟨D,_,rfl,SqL.of (by rw [h1,h2]),?_⟩
    rw [MT.all_free]
    exact q _ S
 intro n
 induction n with
 | zero =>
  refine step 0 (fun _ _ _ _=>False) ?_ (fun x m H Q E _ h=>absurd h (by lia))
  refine okQ (k:=30) F__law_free sc__law_free (fun vs H Q E h=>h.elim) (fun cdv A outer s H vs Q E hr h=>h.elim)
 | succ n ih =>
  refine step (n+1) (spFree K n) ?_ (fun x m H Q E h1 h2 h3 h4=>⟨x,m,rfl,h1,by lia,h3,h4⟩)
  have e:31+(n+1)=32+n:=by lia
  rw [e]
  exact ih
theorem okN_filled (m_tuple:mg "tuple"=none)
  {a_t:Addr}{d_t:FuncData} (F__law_filled:Fun K "_law_filled" "_law_filled" s__law_filled a_t d_t) (b__law_filled:Binds K d_t ["_law_tree_here","_law_own"] []) (m__law_filled:mg "_law_filled"=some (.ref a_t)) :
  ∀ n:Nat,FnOk P w K mg base CX0 (32+n) a_t d_t ["_law_tree_here","_law_own"] (spFilledM K n):=by
 have step:∀ n:Nat,∀ (sp:Sp),FnOk P w K mg base CX0 (31+n) a_t d_t ["_law_tree_here","_law_own"] sp→(∀ x m y t H Q E,MR K H m x→TR K H t y→MT.dep m+1≤n→MT.cnt m≤1000→(∀ z H',Same H H'→TR K H' (MT.fill t m) z→Q z H')→sp [x,y] H Q E)→FnOk P w K mg base CX0 (32+n) a_t d_t ["_law_tree_here","_law_own"] (spFilledM K n):=by
  intro n sp G__law_filled hsp
  have e32:32+n=(31+n)+1:=by lia
  rw [e32]
  refine okQ (k:=31+n) F__law_filled sc__law_filled (fun vs H Q E h=>?_) (fun cdv A outer s H vs Q E hr h=>?_)
  ·obtain⟨x,m,y,t,rfl,_⟩:=h
   rfl
  obtain⟨x,m,y,t,rfl,hx,hy,hd,hc,q⟩:=h
  refine⟨_,(qss_cons (qs_if (qt_cmpR op_isN (qv 0) qe_non (nomark _)) (qss_one (qs_ret (qv 1))) qss_nil)
   (qss_one (qs_ret (qe_callTy call_tuple_of rfl m_tuple bt_tuple (qa_cons (qe_lc rfl (lc_free (fr:=["_law_own"]) (js:=[1]) (sc:=defScope s__law_filled) rfl rfl rfl (by decide +kernel) (by decide +kernel) (by decide +kernel) (by decide +kernel) (by exact⟨⟨rfl,rfl,rfl⟩,trivial⟩) (by decide +kernel) (fun y hy=>cell_has hy)) (qi_tup (qv 0)) (fun _ _ _ _ _=>(qe_call G__law_filled hr rfl m__law_filled F__law_filled.kp b__law_filled .nil pass0 (qa_cons (qv 0) (qa_cons (qv 1) qa_nil))))) qa_nil))))),?_⟩
  cases m with
  | mark =>
   rw [MR_mark] at hx
   subst hx
   rw [MT.fill] at q
   exact⟨_,rfl,rfl,_,rfl,iteY (decide_eq_true rfl) ⟨_,rfl,q _ _ (Same.refl _) hy⟩⟩
  | node ms =>
   obtain⟨a,xs,rfl,ha,ra⟩:=MR_node.mp hx
   have hl:=ra.length
   rw [MT.cnt] at hc
   rw [MT.dep] at hd
   rw [MT.fill] at q
   have hlc:=MT.len_cnt ms
   refine⟨_,rfl,rfl,_,rfl,iteN (decide_eq_false (fun z=>by cases z)) ?_⟩
   refine⟨_,rfl,a,rfl,⟨xs,ha⟩,?_⟩
   refine lc_tupI (K:=K) (xs:=xs) (fun D i ys H'=>H D=none∧Same H H'∧H' D=some (.lst ys)∧ys.length=i∧TRs K H' (MT.fillL t (ms.take i)) ys) (small (by lia)) (fun D hD=>⟨hD,same_new hD _,upd_same,rfl,by rw [List.take_zero,MT.fillL]; exact TRs_nil.mpr rfl⟩) (fun D i ys H' j=>⟨j.2.2.1,j.2.2.2.1,sqT_mono (.of j.2.1) ha⟩) (fun D i x ys H' R hx j hR=>?_) (fun D ys H' j=>?_)
   ·obtain⟨hD,S,h1,h2,h3⟩:=j
    obtain⟨u,hu,hxu⟩:=ra.get hx
    have hm:=List.mem_of_getElem? hu
    have hud:=MT.mem_dep hm
    have hup:=MT.mem_cnt hm
    refine⟨_,rfl,_,rfl,hsp x u y t H' _ _ (hxu.mono (.of S)) (hy.mono (.of S)) (by lia) (by lia) fun z H3 S3 t3=>?_⟩
    have h13:=S3 _ _ h1
    refine hR _ _ h13 ⟨hD,same_upd (S.trans S3) hD,upd_same,by rw [List.length_append,h2]; rfl,?_⟩
    rw [MT.fillL_take t hu]
    exact TRs.append ((h3.mono (.of S3)).mono (Kt.lst h13)) (TRs_cons.mpr ⟨_,[],rfl,t3.mono (Kt.lst h13),TRs_nil.mpr rfl⟩)
   ·obtain⟨hD,S,h1,h2,h3⟩:=j
    rw [List.take_of_length_le (by lia)] at h3
    refine⟨D,ys,rfl,.inl ⟨SqL.of h1,fun p5 hp5=>?_⟩⟩
    exact q _ _ (S.trans (same_new hp5 _)) (TR_mk (SqT.of upd_same) (h3.mono (Kt.new hp5)))
 intro n
 induction n with
 | zero =>
  refine step 0 (fun _ _ _ _=>False) ?_ (fun x m y t H Q E _ _ h=>absurd h (by lia))
  refine okQ (k:=30) F__law_filled sc__law_filled (fun vs H Q E h=>h.elim) (fun cdv A outer s H vs Q E hr h=>h.elim)
 | succ n ih =>
  refine step (n+1) (spFilledM K n) ?_ (fun x m y t H Q E h1 h2 h3 h4 h5=>⟨x,m,y,t,rfl,h1,h2,by lia,h4,h5⟩)
  have e:31+(n+1)=32+n:=by lia
  rw [e]
  exact ih
theorem okN_builder (m_reversed:mg "reversed"=none)
  {a__law_plain:Addr}{d__law_plain:FuncData} (F__law_plain:Fun K "_law_plain" "_law_plain" s__law_plain a__law_plain d__law_plain) (G0__law_plain:FnOk P w K mg base CX0 39 a__law_plain d__law_plain ["_law_sort"] (spPlainL K)) (b__law_plain:Binds K d__law_plain ["_law_sort"] []) (m__law_plain:mg "_law_plain"=some (.ref a__law_plain))
  {a__law_free:Addr}{d__law_free:FuncData} (F__law_free:Fun K "_law_free" "_law_free" s__law_free a__law_free d__law_free) (G0__law_free:FnOk P w K mg base CX0 39 a__law_free d__law_free ["_law_tree_here"] (spFree K 3)) (b__law_free:Binds K d__law_free ["_law_tree_here"] []) (m__law_free:mg "_law_free"=some (.ref a__law_free))
  {a_t:Addr}{d_t:FuncData} (F__law_builder:Fun K "_law_builder" "_law_builder" s__law_builder a_t d_t) (b__law_builder:Binds K d_t ["_law_tree_here"] []) (m__law_builder:mg "_law_builder"=some (.ref a_t)) :
  ∀ n:Nat,FnOk P w K mg base CX0 (40+n) a_t d_t ["_law_tree_here"] (spBuilder K n):=by
 have step:∀ n:Nat,∀ (sp:Sp),FnOk P w K mg base CX0 (39+n) a_t d_t ["_law_tree_here"] sp→(∀ x m H Q E,MR K H m x→MT.dep m+1≤n→MT.dep m≤3→MT.cnt m≤1000→(∀ y H',Same H H'→TR K H' (.node (MT.bld m)) y→Q y H')→sp [x] H Q E)→FnOk P w K mg base CX0 (40+n) a_t d_t ["_law_tree_here"] (spBuilder K n):=by
  intro n sp G__law_builder hsp
  have G__law_plain:=G0__law_plain.mono (show 39≤39+n by lia)
  have G__law_free:=G0__law_free.mono (show 39≤39+n by lia)
  have e32:40+n=(39+n)+1:=by lia
  rw [e32]
  refine okQ (k:=39+n) F__law_builder sc__law_builder (fun vs H Q E h=>?_) (fun cdv A outer s H vs Q E hr h=>?_)
  ·obtain⟨x,m,rfl,_⟩:=h
   rfl
  obtain⟨x,m,rfl,hx,hd,hd3,hc,q⟩:=h
  refine⟨_,(qss_cons (qs_if (qt_cmpR op_isN (qv 0) qe_non (nomark _)) (qss_one (qs_ret (qe_tup (qa_cons (qe_call G__law_plain hr rfl m__law_plain F__law_plain.kp b__law_plain .nil pass0 (qa_cons qe_int qa_nil)) qa_nil)))) qss_nil)
   (qss_cons (qs_if (qt_val (qe_call G__law_free hr rfl m__law_free F__law_free.kp b__law_free .nil pass0 (qa_cons (qv 0) qa_nil))) (qss_one (qs_ret (qe_tup (qa_cons (qe_op op_catTA (qe_tup (qa_cons (qe_tup qa_nil) qa_nil)) (qv 0)) (qa_cons (qe_call G__law_plain hr rfl m__law_plain F__law_plain.kp b__law_plain .nil pass0 (qa_cons qe_int qa_nil)) qa_nil))))) qss_nil)
   (qss_cons (qs_set (i:=1) sc__law_builder.nd rfl (Or.inl rfl) (qe_tup (qa_cons (qe_tup (qa_cons (qe_tup qa_nil) qa_nil)) (qa_cons (qe_call G__law_plain hr rfl m__law_plain F__law_plain.kp b__law_plain .nil pass0 (qa_cons qe_int qa_nil)) qa_nil))))
   (qss_cons (qs_for PassesOwn.never rfl (qi_revT rfl m_reversed (qv 0)) (qg_name (i:=2) sc__law_builder.nd rfl (Or.inl rfl)) (qss_one (qs_set (i:=1) sc__law_builder.nd rfl (Or.inl rfl) (qe_op op_catTA (qe_op op_catTA (qv 1) (qe_call G__law_builder hr rfl m__law_builder F__law_builder.kp b__law_builder .nil pass0 (qa_cons (qv 2) qa_nil))) (qe_tup (qa_cons (qe_call G__law_plain hr rfl m__law_plain F__law_plain.kp b__law_plain .nil pass0 (qa_cons qe_int qa_nil)) (qa_cons (qe_call G__law_plain hr rfl m__law_plain F__law_plain.kp b__law_plain .nil pass0 (qa_cons qe_int qa_nil)) (qa_cons (qe_call G__law_plain hr rfl m__law_plain F__law_plain.kp b__law_plain .nil pass0 (qa_cons qe_int qa_nil)) (qa_cons (qe_call G__law_plain hr rfl m__law_plain F__law_plain.kp b__law_plain .nil pass0 (qa_cons qe_int qa_nil)) qa_nil)))))))))
   (qss_one (qs_ret (qv 1))))))),?_⟩
  cases m with
  | mark =>
   rw [MR_mark] at hx
   subst hx
   rw [MT.bld] at q
   refine⟨_,rfl,rfl,_,rfl,iteY (decide_eq_true rfl) ⟨2,rfl,by decide,fun y1 H1 S1 t1=>⟨(by show 1≤sizeLine; decide),fun p2 g2=>?_⟩⟩⟩
   obtain⟨S2,t2⟩:=tupN (K:=K) g2 (trs1 t1)
   exact q _ _ (S1.trans S2) t2
  | node ms =>
   have hx0:=hx
   obtain⟨a,xs,rfl,ha,ra⟩:=MR_node.mp hx
   have hl:=ra.length
   have hc0:=hc
   have hd30:=hd3
   rw [MT.dep] at hd30
   rw [MT.cnt] at hc
   rw [MT.dep] at hd
   have hlc:=MT.len_cnt ms
   have l1:=MT.lay_parts []
   refine⟨_,rfl,rfl,_,rfl,iteN (decide_eq_false (fun z=>by cases z)) ?_⟩
   try dsimp only [tNext]
   refine⟨_,rfl,_,.node ms,rfl,hx0,hd3,hc0,fun H1 S1=>⟨_,rfl,ite2 (fun hf=>?_) (fun hf=>?_)⟩⟩
   ·rw [MT.free] at hf
    rw [MT.bld,if_pos hf] at q
    have tf:=(MR.tr (m:=.node ms) (by rw [MT.free]; exact hf) hx0).mono (K:=K) (.of S1)
    rw [MT.fill] at tf
    refine⟨Nat.zero_le _,fun p2 g2=>⟨(by show 1≤sizeLine; decide),fun p3 g3=>?_⟩⟩
    obtain⟨S2,t2⟩:=tupN (K:=K) (ts:=[]) g2 (TRs_nil.mpr rfl)
    obtain⟨S3,t3⟩:=tupN (K:=K) g3 (trs1 t2)
    have hlf:=T.len_le_parts (MT.fillL leaf ms)
    have hlp:=MT.leafL_parts ms
    refine⟨_,rfl,nCat t3 (tf.mono (.of (S2.trans S3))) (small (by show 1+(MT.fillL leaf ms).length≤_; lia)) (fun y4 H4 S4 t4=>⟨3,rfl,by decide,fun y5 H5 S5 t5=>⟨(by show 2≤sizeLine; decide),fun p6 g6=>?_⟩⟩)⟩
    obtain⟨S6,t6⟩:=tupN (K:=K) g6 (trs2 (t4.mono (.of S5)) t5)
    exact q _ _ (S1.trans (S2.trans (S3.trans (S4.trans (S5.trans S6))))) t6
   ·rw [MT.free] at hf
    rw [MT.bld,if_neg hf] at q
    dsimp only [tNext]
    refine setQ (fun v=>[some (.ref a),some v,none]) (fun _=>rfl) (fun v H'=>Same H H'∧TR K H' (.node [wordT 0 [],W 3]) v) (fun R r=>⟨Nat.zero_le _,fun p2 g2=>⟨(by show 1≤sizeLine; decide),fun p3 g3=>?_⟩⟩) (fun v1 H2 h2=>?_)
    ·obtain⟨S2,t2⟩:=tupN (K:=K) (ts:=[]) g2 (TRs_nil.mpr rfl)
     obtain⟨S3,t3⟩:=tupN (K:=K) g3 (trs1 t2)
     refine⟨3,rfl,by decide,fun y5 H5 S5 t5=>⟨(by show 2≤sizeLine; decide),fun p6 g6=>?_⟩⟩
     obtain⟨S6,t6⟩:=tupN (K:=K) g6 (trs2 (t3.mono (.of S5)) t5)
     exact r _ _ ⟨S1.trans (S2.trans (S3.trans (S5.trans S6))),t6⟩
    obtain⟨S2,tw⟩:=h2
    refine⟨_,rfl,a,xs,rfl,sqT_mono (.of S2) ha,?_⟩
    refine for_revT (K:=K) (a:=a) (xs:=xs) (fun i σ' H'=>∃ (v:V) (o:Option V),σ'=[some (.ref a),some v,o]∧Same H H'∧TR K H' (.node (wordT 0 []::W 3::MT.bldR (ms.drop (ms.length - i)))) v) ?_ ?_ ?_ ?_
    ·refine⟨v1,none,rfl,S2,?_⟩
     rw [Nat.sub_zero,List.drop_length,MT.bldR]
     exact tw
    ·rintro i σ' H' hi ⟨v,o,rfl,S,_⟩
     exact sqT_mono (.of S) ha
    ·rintro i x σ' H' hx ⟨v,o,rfl,S,tv⟩
     obtain⟨hi,hx'⟩:=SwR.rev_at hx
     obtain⟨u,hu,hxu⟩:=ra.get hx'
     have hm:=List.mem_of_getElem? hu
     have hud:=MT.mem_dep hm
     have hup:=MT.mem_cnt hm
     have ed:=MT.drop_at hu
     rw [hl,show ms.length - 1 - i=ms.length - (i+1) by lia,show ms.length - (i+1)+1=ms.length - i by lia] at ed
     have c1:=MT.bldR_len (ms.drop (ms.length - i))
     have c2:=MT.cnt_drop (ms.length - i) ms
     have c3:=MT.bld_len u
     dsimp only [gName]
     refine⟨_,rfl,_,rfl,hsp x u H' _ _ (hxu.mono (.of S)) (by lia) (by lia) (by lia) fun y3 H3 S3 t3=>?_⟩
     refine nCat (tv.mono (.of S3)) t3 (small (by show (MT.bldR _).length+1+1+(MT.bld u).length≤_; lia)) (fun y4 H4 S4 t4=>⟨6,rfl,by decide,fun y5 H5 S5 t5=>⟨6,rfl,by decide,fun y6 H6 S6 t6=>⟨4,rfl,by decide,fun y7 H7 S7 t7=>⟨3,rfl,by decide,fun y8 H8 S8 t8=>⟨(by show 4≤sizeLine; decide),fun p9 g9=>?_⟩⟩⟩⟩⟩)
     obtain⟨S9,t9⟩:=tupN (K:=K) g9 (trs4 (t5.mono (.of (S6.trans (S7.trans S8)))) (t6.mono (.of (S7.trans S8))) (t7.mono (.of S8)) t8)
     have S59:=S5.trans (S6.trans (S7.trans (S8.trans S9)))
     refine nCat (t4.mono (.of S59)) t9 (small (by rw [List.length_append]; show (MT.bldR _).length+1+1+(MT.bld u).length+4≤_; lia)) (fun y10 H10 S10 t10=>⟨y10,some x,rfl,S.trans (S3.trans (S4.trans (S59.trans S10))),?_⟩)
     rw [ed,MT.bldR]
     rw [List.append_assoc] at t10
     exact t10
    ·rintro σ' H' ⟨v,o,rfl,S,tv⟩
     rw [hl,Nat.sub_self,List.drop_zero] at tv
     exact⟨_,rfl,q _ _ S tv⟩
 intro n
 induction n with
 | zero =>
  refine step 0 (fun _ _ _ _=>False) ?_ (fun x m H Q E _ h=>absurd h (by lia))
  refine okQ (k:=38) F__law_builder sc__law_builder (fun vs H Q E h=>h.elim) (fun cdv A outer s H vs Q E hr h=>h.elim)
 | succ n ih =>
  refine step (n+1) (spBuilder K n) ?_ (fun x m H Q E h1 h2 h3 h4 h5=>⟨x,m,rfl,h1,by lia,h3,h4,h5⟩)
  have e:39+(n+1)=40+n:=by lia
  rw [e]
  exact ih
theorem ok__law_maker
  {a__law_builder:Addr}{d__law_builder:FuncData} (F__law_builder:Fun K "_law_builder" "_law_builder" s__law_builder a__law_builder d__law_builder) (G__law_builder:FnOk P w K mg base CX0 43 a__law_builder d__law_builder ["_law_tree_here"] (spBuilder K 3)) (b__law_builder:Binds K d__law_builder ["_law_tree_here"] []) (m__law_builder:mg "_law_builder"=some (.ref a__law_builder))
  {a__law_plain:Addr}{d__law_plain:FuncData} (F__law_plain:Fun K "_law_plain" "_law_plain" s__law_plain a__law_plain d__law_plain) (G__law_plain:FnOk P w K mg base CX0 43 a__law_plain d__law_plain ["_law_sort"] (spPlainL K)) (b__law_plain:Binds K d__law_plain ["_law_sort"] []) (m__law_plain:mg "_law_plain"=some (.ref a__law_plain))
  (F:Fun K "_law_maker" "_law_maker" s__law_maker f fd):FnOk P w K mg base CX0 44 f fd ["_law_tree_here"] (spMaker92 K):=by
 refine okQ F sc__law_maker (fun vs H Q E h=>?_) (fun cdv A outer s H vs Q E hr h=>?_)
 ·obtain⟨x,m,rfl,_⟩:=h
  rfl
 obtain⟨x,m,rfl,hx,hd,hc,q⟩:=h
 refine⟨_,(qss_cons (qs_set (i:=1) sc__law_maker.nd rfl (Or.inl rfl) (qe_op op_catTA (qe_call G__law_builder hr rfl m__law_builder F__law_builder.kp b__law_builder .nil pass0 (qa_cons (qv 0) qa_nil)) (qe_tup (qa_cons (qe_call G__law_plain hr rfl m__law_plain F__law_plain.kp b__law_plain .nil pass0 (qa_cons qe_int qa_nil)) (qa_cons (qe_tup (qa_cons (qe_tup qa_nil) qa_nil)) (qa_cons (qe_call G__law_plain hr rfl m__law_plain F__law_plain.kp b__law_plain .nil pass0 (qa_cons qe_int qa_nil)) qa_nil))))))
   (qss_cons (qs_set (i:=1) sc__law_maker.nd rfl (Or.inl rfl) (qe_op op_catTA (qv 1) (qe_tup (qa_cons (qe_tup (qa_cons (qe_tup qa_nil) qa_nil)) (qa_cons (qe_call G__law_plain hr rfl m__law_plain F__law_plain.kp b__law_plain .nil pass0 (qa_cons qe_int qa_nil)) (qa_cons (qe_call G__law_plain hr rfl m__law_plain F__law_plain.kp b__law_plain .nil pass0 (qa_cons qe_int qa_nil)) qa_nil))))))
   (qss_one (qs_ret (qe_op op_catTA (qv 1) (qe_tup (qa_cons (qe_op op_catTA (qe_tup (qa_cons (qe_tup qa_nil) qa_nil)) (qe_call G__law_plain hr rfl m__law_plain F__law_plain.kp b__law_plain .nil pass0 (qa_cons qe_int qa_nil))) (qa_cons (qe_call G__law_plain hr rfl m__law_plain F__law_plain.kp b__law_plain .nil pass0 (qa_cons qe_int qa_nil)) qa_nil)))))))),?_⟩
 have c3:=MT.bld_len m
 refine setQ (fun v=>[some x,some v]) (fun _=>rfl) (fun v H'=>Same H H'∧TR K H' (.node (MT.bld m++[W 1,wordT 0 [],W 4])) v) (fun R r=>⟨_,rfl,x,m,rfl,hx,hd,hd,hc,fun y1 H1 S1 t1=>⟨1,rfl,by decide,fun y2 H2 S2 t2=>⟨Nat.zero_le _,fun p3 g3=>⟨(by show 1≤sizeLine; decide),fun p4 g4=>?_⟩⟩⟩⟩) (fun v1 H1 h1=>?_)
 ·obtain⟨S3,t3⟩:=tupN (K:=K) (ts:=[]) g3 (TRs_nil.mpr rfl)
  obtain⟨S4,t4⟩:=tupN (K:=K) g4 (trs1 t3)
  refine⟨4,rfl,by decide,fun y5 H5 S5 t5=>⟨(by show 3≤sizeLine; decide),fun p6 g6=>?_⟩⟩
  obtain⟨S6,t6⟩:=tupN (K:=K) g6 (trs3 (t2.mono (.of (S3.trans (S4.trans S5)))) (t4.mono (.of S5)) t5)
  have S26:=S2.trans (S3.trans (S4.trans (S5.trans S6)))
  exact nCat (t1.mono (.of S26)) t6 (small (by show _+3≤_; lia)) (fun y7 H7 S7 t7=>r _ _ ⟨S1.trans (S26.trans S7),t7⟩)
 obtain⟨S1,t1⟩:=h1
 refine setQ (fun v=>[some x,some v]) (fun _=>rfl) (fun v H'=>Same H H'∧TR K H' (.node ((MT.bld m++[W 1,wordT 0 [],W 4])++[wordT 0 [],W 3,W 4])) v) (fun R r=>⟨_,rfl,Nat.zero_le _,fun p3 g3=>⟨(by show 1≤sizeLine; decide),fun p4 g4=>?_⟩⟩) (fun v2 H2 h2=>?_)
 ·obtain⟨S3,t3⟩:=tupN (K:=K) (ts:=[]) g3 (TRs_nil.mpr rfl)
  obtain⟨S4,t4⟩:=tupN (K:=K) g4 (trs1 t3)
  refine⟨3,rfl,by decide,fun y5 H5 S5 t5=>⟨4,rfl,by decide,fun y6 H6 S6 t6=>⟨(by show 3≤sizeLine; decide),fun p7 g7=>?_⟩⟩⟩
  obtain⟨S7,t7⟩:=tupN (K:=K) g7 (trs3 (t4.mono (.of (S5.trans S6))) (t5.mono (.of S6)) t6)
  have S37:=S3.trans (S4.trans (S5.trans (S6.trans S7)))
  exact nCat (t1.mono (.of S37)) t7 (small (by rw [List.length_append]; show _+3+3≤_; lia)) (fun y8 H8 S8 t8=>r _ _ ⟨S1.trans (S37.trans S8),t8⟩)
 obtain⟨S2,t2⟩:=h2
 refine⟨_,rfl,Nat.zero_le _,fun p3 g3=>⟨(by show 1≤sizeLine; decide),fun p4 g4=>?_⟩⟩
 obtain⟨S3,t3⟩:=tupN (K:=K) (ts:=[]) g3 (TRs_nil.mpr rfl)
 obtain⟨S4,t4⟩:=tupN (K:=K) g4 (trs1 t3)
 refine⟨1,rfl,by decide,fun y5 H5 S5 t5=>?_⟩
 refine nCat (ts:=[.node []]) (us:=[leavesT 1]) (t4.mono (.of S5)) t5 (small (by show 1+1≤1000000; decide)) (fun y6 H6 S6 t6=>⟨4,rfl,by decide,fun y7 H7 S7 t7=>⟨(by show 2≤sizeLine; decide),fun p8 g8=>?_⟩⟩)
 have t6:TR K H6 (wordT 0 [leavesT 1]) y6:=t6
 obtain⟨S8,t8⟩:=tupN (K:=K) g8 (trs2 (t6.mono (.of S7)) t7)
 have S38:=S3.trans (S4.trans (S5.trans (S6.trans (S7.trans S8))))
 refine nCat (t2.mono (.of S38)) t8 (small (by rw [List.length_append,List.length_append]; show _+3+3+2≤_; lia)) (fun y9 H9 S9 t9=>q _ _ (S2.trans (S38.trans S9)) ?_)
 rw [List.append_assoc,List.append_assoc] at t9
 exact t9
end
end Sw92
namespace Sw92
open PySem PySem.Spec PyProof.Rows L2 Sw
section
variable {P:Program}{w:World}{K:PySem.W.Frag}{mg:Str→Option Value}{base:Heap}{f:Addr}{fd:FuncData}
theorem ok_law (m_tuple:mg "tuple"=none) (m_range:mg "range"=none) (m_isinstance:mg "isinstance"=none)
  {a__law_deck:Addr}{d__law_deck:FuncData} (F__law_deck:Fun K "_law_deck" "_law_deck" s__law_deck a__law_deck d__law_deck) (G__law_deck:FnOk P w K mg base CX0 139 a__law_deck d__law_deck ["_law_script"] (spDeck K)) (b__law_deck:Binds K d__law_deck ["_law_script"] []) (m__law_deck:mg "_law_deck"=some (.ref a__law_deck))
  {a__law_next:Addr}{d__law_next:FuncData} (F__law_next:Fun K "_law_next" "_law_next" s__law_next a__law_next d__law_next) (G__law_next:FnOk P w K mg base CX0 139 a__law_next d__law_next ["_law_deck_here","_law_many"] spNext) (b__law_next:Binds K d__law_next ["_law_deck_here","_law_many"] []) (m__law_next:mg "_law_next"=some (.ref a__law_next))
  {a__law_marked:Addr}{d__law_marked:FuncData} (F__law_marked:Fun K "_law_marked" "_law_marked" s__law_marked a__law_marked d__law_marked) (G__law_marked:FnOk P w K mg base CX0 139 a__law_marked d__law_marked ["_law_deck_here","_law_deep","_law_marks"] (spMarked K 2)) (b__law_marked:Binds K d__law_marked ["_law_deck_here","_law_deep","_law_marks"] []) (m__law_marked:mg "_law_marked"=some (.ref a__law_marked))
  {a__law_tree:Addr}{d__law_tree:FuncData} (F__law_tree:Fun K "_law_tree" "_law_tree" s__law_tree a__law_tree d__law_tree) (G__law_tree:FnOk P w K mg base CX0 139 a__law_tree d__law_tree ["_law_deck_here","_law_deep"] (spTree K 3)) (b__law_tree:Binds K d__law_tree ["_law_deck_here","_law_deep"] []) (m__law_tree:mg "_law_tree"=some (.ref a__law_tree))
  {a_knot:Addr}{d_knot:FuncData} (F_knot:Fun K "knot" "knot" s_knot a_knot d_knot) (G_knot:FnOk P w K mg base CX0 139 a_knot d_knot ["text"] (spKnot K)) (b_knot:Binds K d_knot ["text"] []) (m_knot:mg "knot"=some (.ref a_knot))
  {a__law_maker:Addr}{d__law_maker:FuncData} (F__law_maker:Fun K "_law_maker" "_law_maker" s__law_maker a__law_maker d__law_maker) (G__law_maker:FnOk P w K mg base CX0 139 a__law_maker d__law_maker ["_law_tree_here"] (spMaker92 K)) (b__law_maker:Binds K d__law_maker ["_law_tree_here"] []) (m__law_maker:mg "_law_maker"=some (.ref a__law_maker))
  {a_run:Addr}{d_run:FuncData} (F_run:Fun K "run" "run" s_run a_run d_run) (G_run:FnOk P w K mg base CX0 139 a_run d_run ["text","tree","budget"] (spRun K)) (b_run:Binds K d_run ["text","tree","budget"] []) (m_run:mg "run"=some (.ref a_run))
  {a__law_filled:Addr}{d__law_filled:FuncData} (F__law_filled:Fun K "_law_filled" "_law_filled" s__law_filled a__law_filled d__law_filled) (G__law_filled:FnOk P w K mg base CX0 139 a__law_filled d__law_filled ["_law_tree_here","_law_own"] (spFilledM K 3)) (b__law_filled:Binds K d__law_filled ["_law_tree_here","_law_own"] []) (m__law_filled:mg "_law_filled"=some (.ref a__law_filled))
  (F:Fun K "law" "law" s_law f fd):FnOk P w K mg base CX0 140 f fd ["_law_script"] (spLaw K):=by
 refine okQ F sc_law (fun vs H Q E h=>?_) (fun cdv A outer s H vs Q E hr h=>?_)
 ·obtain⟨a,ns,rfl,_⟩:=h
  rfl
 obtain⟨a,ns,rfl,hl,h63,q⟩:=h
 have hE:=hr.un
 have hE:(A.deeper (envOfC "law" (defScope s_law) s.heap.objs.size f cdv)).units+401<cLine:=by lia
 refine⟨_,(qss_cons (qs_set (i:=1) sc_law.nd rfl (Or.inr rfl) (qe_call G__law_deck hr rfl m__law_deck F__law_deck.kp b__law_deck .nil pass0 (qa_cons (qv 0) qa_nil)))
   (qss_cons (qs_set (i:=2) sc_law.nd rfl (Or.inr rfl) (qe_op op_rep (qe_lst (qa_cons qe_int qa_nil)) (qe_call G__law_next hr rfl m__law_next F__law_next.kp b__law_next .nil pass0 (qa_cons (qv 1) (qa_cons qe_int qa_nil)))))
   (qss_cons (qs_set (i:=3) sc_law.nd rfl (Or.inl rfl) (qe_callTy call_tuple_of rfl m_tuple bt_tuple (qa_cons (qe_lc rfl (lc_free (fr:=["_law_deck_here","_law_marks"]) (js:=[1,2]) (sc:=defScope s_law) rfl rfl rfl (by decide +kernel) (by decide +kernel) (by decide +kernel) (by decide +kernel) (by exact⟨⟨rfl,rfl,rfl⟩,⟨⟨rfl,rfl,rfl⟩,trivial⟩⟩) (by decide +kernel) (fun y hy=>cell_has hy)) (qi_range1 rfl m_range (qa_cons (qe_call G__law_next hr rfl m__law_next F__law_next.kp b__law_next .nil pass0 (qa_cons (qv 1) (qa_cons qe_int qa_nil))) qa_nil)) (fun _ _ _ _ _=>(qe_call G__law_marked hr rfl m__law_marked F__law_marked.kp b__law_marked .nil pass0 (qa_cons (qv 1) (qa_cons qe_int (qa_cons (qv 2) qa_nil)))))) qa_nil)))
   (qss_cons (qs_set (i:=4) sc_law.nd rfl (Or.inl rfl) (qe_call G__law_tree hr rfl m__law_tree F__law_tree.kp b__law_tree .nil pass0 (qa_cons (qv 1) (qa_cons qe_int qa_nil))))
   (qss_cons (qs_set (i:=5) sc_law.nd rfl (Or.inl rfl) (qe_call G_knot hr rfl m_knot F_knot.kp b_knot .nil pass0 (qa_cons (qe_call G__law_maker hr rfl m__law_maker F__law_maker.kp b__law_maker .nil pass0 (qa_cons (qv 3) qa_nil)) qa_nil)))
   (qss_cons (qs_set (i:=6) sc_law.nd rfl (Or.inl rfl) (qe_call G_run hr rfl m_run F_run.kp b_run .nil pass0 (qa_cons (qv 5) (qa_cons (qv 4) (qa_cons qe_int qa_nil)))))
   (qss_one (qs_ret (qe_and (qe_callB call_isinstT rfl m_isinstance bt_isinstance (qa_cons (qv 6) (qa_cons (qe_bltn (v:=.ty "tuple") rfl m_tuple bt_tuple rfl) qa_nil))) (qe_one (qe_cmpR (op_eqD hE) (qe_slice sl_tupA (qv 6) qo_none (qo_some qe_int)) (qe_tup (qa_cons qe_str (qa_cons (qe_call G__law_filled hr rfl m__law_filled F__law_filled.kp b__law_filled .nil pass0 (qa_cons (qv 3) (qa_cons (qv 5) qa_nil))) qa_nil))) (nomark _)))))))))))),?_⟩
 refine setQ (fun v=>[some (.ref a),some (v),none,none,none,none,none]) (fun _=>rfl) (fun v H'=>∃ p,v=.ref p∧DkAt H' p) (fun R r=>⟨_,rfl,a,ns,rfl,hl,h63,fun p H1 S1 hp0 hk=>r _ _ ⟨p,rfl,hk⟩⟩) (fun v1 H1 h1=>?_)
 obtain⟨p,rfl,hk⟩:=h1
 refine setQ (fun v=>[some (.ref a),some (.ref p),some (v),none,none,none,none]) (fun _=>rfl) (fun v H'=>∃ (l:Addr) (k:Nat),v=.ref l∧DkAt H' p∧l≠p∧MkAt H' l k∧k≤2) (fun R r=>⟨(by show 1≤sizeLine; decide),fun l0 g0=>?_⟩) (fun v2 H2 h2=>?_)
 ·have D0:Dr p H1 (upd H1 l0 (.lst [.int 0])):=(Dr.refl hk).upd g0 (dk_ne hk g0)
  have h0:upd H1 l0 (.lst [.int 0]) l0=some (.lst [.int 0]):=upd_same
  generalize upd H1 l0 (.lst [.int 0])=H2 at D0 h0
  refine⟨_,rfl,p,3,rfl,by decide,D0.deck,fun i H3 i0 i1 D3=>⟨l0,i,[.int 0],rfl,rfl,D3.keep _ _ (dk_ne hk g0) h0,by lia,by lia,small (by show 1 * i.toNat≤_; lia),fun l gl=>r _ _ ⟨l,i.toNat,rfl,?_,dk_ne D3.deck gl,?_,by lia⟩⟩⟩
  ·exact (D3.upd (D3.free D0.deck gl) (dk_ne D3.deck gl)).deck
  ·show upd H3 l _ l=_
   rw [upd_same,flat_rep]
 obtain⟨l,k,rfl,hk2,nl,hm2,hk02⟩:=h2
 have p2:pbT 2=13:=rfl
 have p3:pbT 3=40:=rfl
 refine setQ (fun v=>[some (.ref a),some (.ref p),some (.ref l),some (v),none,none,none]) (fun _=>rfl) (fun v H'=>∃ ms,MR K H' (.node ms) v∧MT.Shp ms∧DkAt H' p) (fun R r=>⟨_,rfl,p,4,rfl,by decide,hk2,fun m H3 m0 m1 D3=>⟨m,rfl,by lia,by lia,?_⟩⟩) (fun v3 H3 h3=>?_)
 ·have D23:=D3.two nl hm2
  refine lc_mark (K:=K) (e:=2) (k:=k) D23.deck D23.mks (small (by lia)) (fun i H' R' k1 hi hk1 Dh hR=>⟨_,rfl,_,rfl,p,l,2,k1,rfl,by decide,nl,Dh.deck,Dh.mks,by lia,hR⟩) (fun D ys ms k' H' Dh h1 hlen htr hsh hs=>⟨D,ys,rfl,.inl ⟨SqL.of h1,fun p5 hp5=>r _ _ ⟨ms,MR_node.mpr ⟨p5,ys,rfl,SqT.of upd_same,htr.mono (Kt.new hp5)⟩,⟨?_,by lia,?_⟩,(Dh.same (same_new hp5 _)).deck⟩⟩⟩)
  ·have h5:=MT.cntL_le (b:=pbT 2) (ms:=ms) fun m hm=>(hsh m hm).1
   have h6:ms.length * pbT 2≤3 * pbT 2:=Nat.mul_le_mul_right _ (by lia)
   lia
  ·exact MT.depL_le fun m hm=>by have:=(hsh m hm).2; lia
 obtain⟨ms,hms,shp,hk3⟩:=h3
 refine setQ (fun v=>[some (.ref a),some (.ref p),some (.ref l),some (v3),some (v),none,none]) (fun _=>rfl) (fun v H'=>∃ x,MR K H' (.node ms) v3∧TR K H' x v∧B 41 41 x) (fun R r=>⟨_,rfl,p,3,rfl,by decide,hk3,fun y t H4 D4 ht hs=>r _ _ ⟨t,hms.mono (D4.kt hk3),ht,⟨by have:=hs.1; lia,by have:=hs.2; lia⟩⟩⟩) (fun v4 H4 h4=>?_)
 obtain⟨x,hms4,tx4,bx⟩:=h4
 have bf:=MT.mkr_B shp
 have sane:=MT.sane92 shp bx
 obtain⟨run1,run2⟩:=MT.run92 (x:=x) shp
 obtain⟨F1,F2⟩:=MT.F_size shp
 obtain⟨⟨bk1,bk2⟩,_⟩:=B_knotJ bf
 obtain⟨s1,s2,s3⟩:=shp
 have hd3:MT.dep (.node ms)≤3:=by rw [MT.dep]; exact s3
 have hc3:MT.cnt (.node ms)≤1000:=by rw [MT.cnt]; lia
 refine setQ (fun v=>[some (.ref a),some (.ref p),some (.ref l),some (v3),some (v4),some (v),none]) (fun _=>rfl) (fun v H'=>Same H4 H'∧TR K H' (.node (knotT (MT.mkr (.node ms)))) v) (fun R r=>⟨_,rfl,v3,.node ms,rfl,hms4,hd3,hc3,fun y5 H5 S5 t5=>⟨y5,MT.mkr (.node ms),rfl,t5,bf.le (by lia) (by lia),fun y6 H6 S6 t6=>r _ _ ⟨S5.trans S6,t6⟩⟩⟩) (fun v5 H5 h5=>?_)
 obtain⟨S5,tk5⟩:=h5
 have hms5:=hms4.mono (K:=K) (.of S5)
 have tx5:=tx4.mono (K:=K) (.of S5)
 refine setQ (fun v=>[some (.ref a),some (.ref p),some (.ref l),some (v3),some (v4),some (v5),some (v)]) (fun _=>rfl) (fun v H'=>∃ q6 y6 n6,v=.ref q6∧Same H5 H'∧SqT K H' q6 [.str toldS,y6,n6]∧TR K H' (.node (MT.fillL (.node (knotT (MT.mkr (.node ms)))) ms)) y6) (fun R r=>⟨_,rfl,_,rfl,v5,v4,.node (knotT (MT.mkr (.node ms))),x,400000,rfl,tk5,tx5,sane _,fun q8 y8 H8 S8 hp8 tv8=>?_⟩) (fun v6 H6 h6=>?_)
 ·rw [show wordS 400000 [.node (knotT (MT.mkr (.node ms)))] [x]=toldS from if_pos run1] at hp8
  rw [show tellT 400000 [.node (knotT (MT.mkr (.node ms)))] [x]=ats (goT 400000 [.node (knotT (MT.mkr (.node ms)))] [x]).2.1 0 from if_pos run1,run2] at tv8
  exact r _ _ ⟨q8,y8,_,rfl,S8,hp8,tv8⟩
 obtain⟨q6,y6,n6,rfl,S6,hp6,ty6⟩:=h6
 refine⟨_,rfl,q6,_,"tuple",true,rfl,hp6,by rfl,_,rfl,iteT ?_⟩
 refine⟨_,rfl,2,rfl,q6,_,rfl,hp6,fun a7 H7 S7 h7=>⟨_,rfl,_,rfl,v3,.node ms,v5,.node (knotT (MT.mkr (.node ms))),rfl,hms5.mono (.of (S6.trans S7)),tk5.mono (.of (S6.trans S7)),hd3,hc3,fun y8 H8 S8 t8=>⟨(by show 2≤sizeLine; decide),fun p9 g9=>?_⟩⟩⟩
 rw [MT.fill] at t8
 generalize MT.fillL (.node (knotT (MT.mkr (.node ms)))) ms=F at *
 have S9:=same_new g9 (.tup [.str toldS,y8])
 have h7:SqT K H7 a7 [.str toldS,y6]:=h7
 have dA:DR K (upd H8 p9 (.tup [.str toldS,y8])) (.t [.s toldS,ofT (.node F)]) (.ref a7):=DR2 (sqT_mono (.of (S8.trans S9)) h7) (DR_s.mpr rfl) (ty6.mono (.of (S7.trans (S8.trans S9)))).dr
 have dB:DR K (upd H8 p9 (.tup [.str toldS,y8])) (.t [.s toldS,ofT (.node F)]) (.ref p9):=DR2 (SqT.of upd_same) (DR_s.mpr rfl) (t8.mono (.of S9)).dr
 refine⟨_,_,dA,dB,?_,?_⟩
 ·rw [Dt.deep,Dt.deepL,Dt.deepL,Dt.deepL,ofT_deep,Dt.deep,T.deep_node]
  lia
 rw [Dt.beq_self]
 exact q _
end
end Sw92
namespace Sw92
open PySem PySem.Spec PyProof.Rows L2 Sw
abbrev s_Fronted___init__:Stmt:=inClass (top 62) 0
abbrev s_Later___init__:Stmt:=inClass (top 63) 0
abbrev s_Word___init__:Stmt:=inClass (top 73) 0
abbrev s_Word_body_parts:Stmt:=inClass (top 73) 1
abbrev s_Text___init__:Stmt:=inClass (top 74) 0
abbrev s_Text_word_at:Stmt:=inClass (top 74) 1
abbrev s_Going___init__:Stmt:=inClass (top 75) 0
abbrev s_Walk___init__:Stmt:=inClass (top 76) 0
abbrev s_Walk_at_end:Stmt:=inClass (top 76) 1
abbrev s_Walk_top:Stmt:=inClass (top 76) 2
abbrev s_Walk_tally:Stmt:=inClass (top 76) 3
abbrev s_Walk_step:Stmt:=inClass (top 76) 5
abbrev s_Walk_move:Stmt:=inClass (top 76) 6
theorem sc_Fronted___init__:FnScope ["self","item","behind"] ["self","item","behind"] (defScope s_Fronted___init__):=⟨rfl,rfl,rfl,by decide +kernel,rfl,by decide +kernel,by decide +kernel⟩
theorem sc_Later___init__:FnScope ["self","tree","place"] ["self","tree","place"] (defScope s_Later___init__):=⟨rfl,rfl,rfl,by decide +kernel,rfl,by decide +kernel,by decide +kernel⟩
theorem sc_Word___init__:FnScope ["self","tree"] ["self","tree"] (defScope s_Word___init__):=⟨rfl,rfl,rfl,by decide +kernel,rfl,by decide +kernel,by decide +kernel⟩
theorem sc_Word_body_parts:FnScope ["self"] ["self"] (defScope s_Word_body_parts):=⟨rfl,rfl,rfl,by decide +kernel,rfl,by decide +kernel,by decide +kernel⟩
theorem sc_Text___init__:FnScope ["self","tree"] ["self","tree"] (defScope s_Text___init__):=⟨rfl,rfl,rfl,by decide +kernel,rfl,by decide +kernel,by decide +kernel⟩
theorem sc_Text_word_at:FnScope ["self","place"] ["self","place"] (defScope s_Text_word_at):=⟨rfl,rfl,rfl,by decide +kernel,rfl,by decide +kernel,by decide +kernel⟩
theorem sc_Going___init__:FnScope ["self","text"] ["self","text"] (defScope s_Going___init__):=⟨rfl,rfl,rfl,by decide +kernel,rfl,by decide +kernel,by decide +kernel⟩
theorem sc_Walk___init__:FnScope ["self","stand","budget"] ["self","stand","budget"] (defScope s_Walk___init__):=⟨rfl,rfl,rfl,by decide +kernel,rfl,by decide +kernel,by decide +kernel⟩
theorem sc_Walk_at_end:FnScope ["self"] ["self"] (defScope s_Walk_at_end):=⟨rfl,rfl,rfl,by decide +kernel,rfl,by decide +kernel,by decide +kernel⟩
theorem sc_Walk_top:FnScope ["self"] ["self"] (defScope s_Walk_top):=⟨rfl,rfl,rfl,by decide +kernel,rfl,by decide +kernel,by decide +kernel⟩
theorem sc_Walk_tally:FnScope ["self"] ["self"] (defScope s_Walk_tally):=⟨rfl,rfl,rfl,by decide +kernel,rfl,by decide +kernel,by decide +kernel⟩
theorem sc_Walk_step:FnScope ["self","going","word","step","taken"] ["self"] (defScope s_Walk_step):=⟨rfl,rfl,rfl,by decide +kernel,rfl,by decide +kernel,by decide +kernel⟩
theorem sc_Walk_move:FnScope ["self","step","going","word"] ["self","step","going","word"] (defScope s_Walk_move):=⟨rfl,rfl,rfl,by decide +kernel,rfl,by decide +kernel,by decide +kernel⟩
end Sw92
namespace Sw92
open PySem PySem.Spec PyProof.Rows L2 Sw
section
variable {P:Program}{w:World}{K:PySem.W.Frag}{mg:Str→Option Value}{base:Heap}{f:Addr}{fd:FuncData}{CFronted CLater CWord CText CGoing CWalk:Addr}
theorem ok_Fronted___init__ (O:Own K CFronted CLater CWord CText CGoing CWalk)
  (F:Fun K "__init__" "Fronted.__init__" s_Fronted___init__ f fd):FnOk P w K mg base CX0 31 f fd ["self","item","behind"] (spFrInit CFronted):=by
 refine okQ F sc_Fronted___init__ (fun vs H Q E h=>?_) (fun cdv A outer s H vs Q E hr h=>?_)
 ·obtain⟨o,dx,y,z,rfl,_⟩:=h
  rfl
 obtain⟨o,dx,y,z,rfl,ho,q⟩:=h
 refine⟨_,(qss_cons (qs_fld (qv 0) (qv 1) rfl)
   (qss_one (qs_fld (qv 0) (qv 2) rfl))),?_⟩
 refine⟨_,rfl,_,rfl,o,CFronted,dx,_,rfl,ho,O.rF.cl,O.fi,by show 0<1000; decide,?_⟩
 refine⟨_,rfl,_,rfl,o,CFronted,dx,_,rfl,upd_same,O.rF.cl,O.fb,by show 1<1000; decide,?_⟩
 have e:upd (upd H o (.ins CFronted dx (putF "item" y []))) o (.ins CFronted dx (putF "behind" z (putF "item" y [])))=upd H o (.ins CFronted dx (fF y z)):=by
  rw [updU,putTwo (by decide +kernel)]
  rfl
 exact e ▸ q
theorem ok_Later___init__ (O:Own K CFronted CLater CWord CText CGoing CWalk)
  (F:Fun K "__init__" "Later.__init__" s_Later___init__ f fd):FnOk P w K mg base CX0 31 f fd ["self","tree","place"] (spLaInit CLater):=by
 refine okQ F sc_Later___init__ (fun vs H Q E h=>?_) (fun cdv A outer s H vs Q E hr h=>?_)
 ·obtain⟨o,dx,v,p,rfl,_⟩:=h
  rfl
 obtain⟨o,dx,v,p,rfl,ho,q⟩:=h
 refine⟨_,(qss_cons (qs_fld (qv 0) (qv 1) rfl)
   (qss_one (qs_fld (qv 0) (qv 2) rfl))),?_⟩
 refine⟨_,rfl,_,rfl,o,CLater,dx,_,rfl,ho,O.rL.cl,O.lt,by show 0<1000; decide,?_⟩
 refine⟨_,rfl,_,rfl,o,CLater,dx,_,rfl,upd_same,O.rL.cl,O.lp,by show 1<1000; decide,?_⟩
 have e:upd (upd H o (.ins CLater dx (putF "tree" v []))) o (.ins CLater dx (putF "place" (.int (p:Int)) (putF "tree" v [])))=upd H o (.ins CLater dx (fL v p)):=by
  rw [updU,putTwo (by decide +kernel)]
  rfl
 exact e ▸ q
theorem ok_Going___init__ (O:Own K CFronted CLater CWord CText CGoing CWalk)
  (F:Fun K "__init__" "Going.__init__" s_Going___init__ f fd):FnOk P w K mg base CX0 31 f fd ["self","text"] (spGoInit CGoing):=by
 refine okQ F sc_Going___init__ (fun vs H Q E h=>?_) (fun cdv A outer s H vs Q E hr h=>?_)
 ·obtain⟨o,dx,a,rfl,_⟩:=h
  rfl
 obtain⟨o,dx,a,rfl,ho,q⟩:=h
 refine⟨_,(qss_cons (qs_fld (qv 0) (qv 1) rfl)
   (qss_one (qs_fld (qv 0) qe_int rfl))),?_⟩
 refine⟨_,rfl,_,rfl,o,CGoing,dx,_,rfl,ho,O.cGoing,O.gt,by show 0<1000; decide,?_⟩
 refine⟨_,rfl,o,CGoing,dx,_,rfl,upd_same,O.cGoing,O.gp,by show 1<1000; decide,?_⟩
 have e:upd (upd H o (.ins CGoing dx (putF "text" (.ref a) []))) o (.ins CGoing dx (putF "place" (.int 0) (putF "text" (.ref a) [])))=upd H o (.ins CGoing dx (fG a 0)):=by
  rw [updU,putTwo (by decide +kernel)]
  rfl
 exact e ▸ q
theorem ok_Text___init__ (O:Own K CFronted CLater CWord CText CGoing CWalk)
  (F:Fun K "__init__" "Text.__init__" s_Text___init__ f fd):FnOk P w K mg base CX0 31 f fd ["self","tree"] (spTxInit CText):=by
 refine okQ F sc_Text___init__ (fun vs H Q E h=>?_) (fun cdv A outer s H vs Q E hr h=>?_)
 ·obtain⟨o,dx,v,rfl,_⟩:=h
  rfl
 obtain⟨o,dx,v,rfl,ho,q⟩:=h
 refine⟨_,(qss_cons (qs_fld (qv 0) (qv 1) rfl)
   (qss_one (qs_fld (qv 0) (qe_lst qa_nil) rfl))),?_⟩
 refine⟨_,rfl,_,rfl,o,CText,dx,_,rfl,ho,O.cText,O.tt,by show 0<1000; decide,?_⟩
 refine⟨Nat.zero_le _,fun W g=>⟨_,rfl,o,CText,dx,putF "tree" v [],rfl,?_,O.cText,O.tw,by show 1<1000; decide,?_⟩⟩
 ·have nW:o≠W:=ne_of_none (h:=upd_same) g
  rw [upd_ne nW,upd_same]
 ·have nW:o≠W:=ne_of_none (h:=upd_same) g
  have hW:H W=none:=by rw [upd_ne (Ne.symm nW)] at g; exact g
  have e:upd (upd (upd H o (.ins CText dx (putF "tree" v []))) W (.lst [])) o (.ins CText dx (putF "words" (.ref W) (putF "tree" v [])))=upd (upd H W (.lst [])) o (.ins CText dx (fT v W)):=by
   rw [updC nW (H:=H),updU,putTwo (by decide +kernel)]
   rfl
  exact e ▸ q W hW
theorem ok_first_of (O:Own K CFronted CLater CWord CText CGoing CWalk) (m_isinstance:mg "isinstance"=none)
  {a_first:Addr}{d_first:FuncData} (F_first:Fun K "first" "first" s_first a_first d_first) (G_first:FnOk P w K mg base CX0 31 a_first d_first ["tree"] (spFirst K)) (b_first:Binds K d_first ["tree"] []) (m_first:mg "first"=some (.ref a_first))
  (m_Fronted:mg "Fronted"=some (.ref CFronted))
  (m_Later:mg "Later"=some (.ref CLater))
  (F:Fun K "first_of" "first_of" s_first_of f fd):FnOk P w K mg base CX0 32 f fd ["row"] (spFirstOf K CFronted CLater CWord CText):=by
 refine okQ F sc_first_of (fun vs H Q E h=>?_) (fun cdv A outer s H vs Q E hr h=>?_)
 ·obtain⟨x,t,M,H₀,rfl,_⟩:=h
  rfl
 obtain⟨x,t,M,H₀,rfl,g,hx,hd,q⟩:=h
 refine⟨_,(qss_cons (qs_if (qt_val (qe_callB call_isinstO rfl m_isinstance bt_isinstance (qa_cons (qv 0) (qa_cons (qe_glob (v:=.ref CFronted) rfl m_Fronted rfl) qa_nil)))) (qss_one (qs_ret (qe_fld (qv 0) rfl))) qss_nil)
   (qss_cons (qs_if (qt_val (qe_callB call_isinstO rfl m_isinstance bt_isinstance (qa_cons (qv 0) (qa_cons (qe_glob (v:=.ref CLater) rfl m_Later rfl) qa_nil)))) (qss_one (qs_ret (qe_ix ix_tup (qe_fld (qv 0) rfl) (qe_fld (qv 0) rfl) (fun _ _=>rfl)))) qss_nil)
   (qss_one (qs_ret (qe_call G_first hr rfl m_first F_first.kp b_first .nil pass0 (qa_cons (qv 0) qa_nil)))))),?_⟩
 rcases hx.cases g with hu | ⟨a,dx,y,z,u,ts,rfl,ha,rfl,hy,hz⟩
 ·rcases hu with ht | ⟨a,dx,v,ts,p,rfl,ha,hv,hp,hl,rfl⟩
  ·obtain⟨b,ys,rfl,hb,_⟩:=TR_kids' ht
   refine⟨_,rfl,_,CFronted,false,rfl,.inr ⟨b,ys,rfl,hb,O.iTF⟩,_,rfl,iteF ?_⟩
   refine⟨_,rfl,_,CLater,false,rfl,.inr ⟨b,ys,rfl,hb,O.iTL⟩,_,rfl,iteF ?_⟩
   exact⟨_,rfl,_,t,rfl,ht,hd,fun y H' S h=>q y H' S (.inl h)⟩
  ·refine⟨_,rfl,_,CFronted,false,rfl,.inl ⟨_,O.rL.ty ha,O.iLF⟩,_,rfl,iteF ?_⟩
   refine⟨_,rfl,_,CLater,true,rfl,.inl ⟨_,O.rL.ty ha,O.iLL⟩,_,rfl,iteT ?_⟩
   obtain⟨b,ys,rfl,hb,hys⟩:=TR_node.mp hv
   obtain⟨w',ew⟩:∃ w',ts[p]?=some w':=⟨_,List.getElem?_eq_getElem hp⟩
   obtain⟨x',ex,tx'⟩:=hys.at ew
   refine⟨_,rfl,a,CLater,dx,_,_,rfl,ha,O.rL.cl,O.lt,lk_eq _ _ _,_,rfl,a,CLater,dx,_,_,rfl,ha,O.rL.cl,O.lp,(lk_ne (by decide +kernel) _ _).trans (lk_eq _ _ _),b,ys,p,x',rfl,rfl,hb,atI_nat ex,q _ _ (Same.refl _) (.inl ?_)⟩
   have:ats (T.node (ts.drop p)).kids 0=w':=by
    show ((ts.drop p)[0]?).getD leaf=w'
    rw [List.getElem?_drop,Nat.add_zero,ew]
    rfl
   rw [this]
   exact tx'
 ·refine⟨_,rfl,_,CFronted,true,rfl,.inl ⟨_,O.rF.ty ha,O.iFF⟩,_,rfl,iteT ?_⟩
  exact⟨_,rfl,a,CFronted,dx,_,_,rfl,ha,O.rF.cl,O.fi,lk_eq _ _ _,q _ _ (Same.refl _) hy⟩
theorem ok_later (O:Own K CFronted CLater CWord CText CGoing CWalk) (m_len:mg "len"=none)
  (m_Later:mg "Later"=some (.ref CLater))
  {a_Later___init__:Addr}{d_Later___init__:FuncData} (MK_Later:Mk K CLater a_Later___init__) (G_Later___init__:FnOk P w K mg base CX0 31 a_Later___init__ d_Later___init__ ["self","tree","place"] (spLaInit CLater)) (b_Later___init__:Binds K d_Later___init__ ["self","tree","place"] [])
  (F:Fun K "later" "later" s_later f fd):FnOk P w K mg base CX0 33 f fd ["tree","place"] (spLater K CFronted CLater CWord CText):=by
 refine okQ F sc_later (fun vs H Q E h=>?_) (fun cdv A outer s H vs Q E hr h=>?_)
 ·obtain⟨x,ts,p,M,H₀,rfl,_⟩:=h
  rfl
 obtain⟨x,ts,p,M,H₀,rfl,g,ht,hl,q⟩:=h
 refine⟨_,(qss_one (qs_ret (qe_ifExp (qt_cmpR op_lt (qv 1) (qe_callB call_len_seq rfl m_len bt_len (qa_cons (qv 0) qa_nil)) (nomark _)) (qe_make MK_Later G_Later___init__ hr rfl m_Later b_Later___init__ .nil pass0 (qa_cons (qv 0) (qa_cons (qv 1) qa_nil))) (qe_tup qa_nil)))),?_⟩
 obtain⟨b,ys,rfl,hb,hys⟩:=TR_node.mp ht
 have hyl:=hys.length
 refine⟨_,rfl,_,rfl,b,ys,rfl,.inr hb,_,_,rfl,rfl,_,rfl,ite2 (fun h=>?_) (fun h=>?_)⟩
 ·have hp:p<ts.length:=by have:=of_decide_eq_true h; lia
  refine⟨_,rfl,_,rfl,fun o dx ho hd ne=>⟨o,dx,_,p,rfl,mk_at,?_⟩⟩
  have S:=mk_same (C:=CLater) (fs:=fL (.ref b) p) ho hd ne
  have e:upd (mkO H o dx CLater []) o (.ins CLater dx (fL (.ref b) p))=mkO H o dx CLater (fL (.ref b) p):=mk_put
  have fin:Q (.ref o) (mkO H o dx CLater (fL (.ref b) p)):=q _ (setM M o (.row (.node (ts.drop p)))) _ S (.role g S ho ⟨_,mk_at⟩ (.inr ⟨dx,_,ts,p,mk_at,ht.mono (.of S),hp,hl,rfl⟩)) (.inr ⟨o,rfl,setM_same⟩)
  exact⟨rfl,e ▸ fin⟩
 ·have hp:ts.length≤p:=by
   have:¬ ((p:Int)<(ys.length:Int)):=fun z=>h (decide_eq_true z)
   lia
  refine⟨Nat.zero_le _,fun p1 g1=>?_⟩
  obtain⟨S1,t1⟩:=tupN (K:=K) (ts:=[]) g1 (TRs_nil.mpr rfl)
  refine q _ M _ S1 (.grow g S1) (.inl ?_)
  rw [List.drop_eq_nil_of_le hp]
  exact t1
theorem ok_rest_of (O:Own K CFronted CLater CWord CText CGoing CWalk) (m_isinstance:mg "isinstance"=none)
  {a_later:Addr}{d_later:FuncData} (F_later:Fun K "later" "later" s_later a_later d_later) (G_later:FnOk P w K mg base CX0 33 a_later d_later ["tree","place"] (spLater K CFronted CLater CWord CText)) (b_later:Binds K d_later ["tree","place"] []) (m_later:mg "later"=some (.ref a_later))
  (m_Fronted:mg "Fronted"=some (.ref CFronted))
  (m_Later:mg "Later"=some (.ref CLater))
  (F:Fun K "rest_of" "rest_of" s_rest_of f fd):FnOk P w K mg base CX0 34 f fd ["row"] (spRestOf K CFronted CLater CWord CText):=by
 refine okQ F sc_rest_of (fun vs H Q E h=>?_) (fun cdv A outer s H vs Q E hr h=>?_)
 ·obtain⟨x,t,M,H₀,rfl,_⟩:=h
  rfl
 obtain⟨x,t,M,H₀,rfl,g,hx,hd,hk,q⟩:=h
 refine⟨_,(qss_cons (qs_if (qt_val (qe_callB call_isinstO rfl m_isinstance bt_isinstance (qa_cons (qv 0) (qa_cons (qe_glob (v:=.ref CFronted) rfl m_Fronted rfl) qa_nil)))) (qss_one (qs_ret (qe_fld (qv 0) rfl))) qss_nil)
   (qss_cons (qs_if (qt_val (qe_callB call_isinstO rfl m_isinstance bt_isinstance (qa_cons (qv 0) (qa_cons (qe_glob (v:=.ref CLater) rfl m_Later rfl) qa_nil)))) (qss_one (qs_ret (qe_call G_later hr rfl m_later F_later.kp b_later .nil pass0 (qa_cons (qe_fld (qv 0) rfl) (qa_cons (qe_op op_add (qe_fld (qv 0) rfl) qe_int) qa_nil))))) qss_nil)
   (qss_one (qs_ret (qe_call G_later hr rfl m_later F_later.kp b_later .nil pass0 (qa_cons (qv 0) (qa_cons qe_int qa_nil))))))),?_⟩
 rcases hx.cases g with hu | ⟨a,dx,y,z,u,ts,rfl,ha,rfl,hy,hz⟩
 ·rcases hu with ht | ⟨a,dx,v,ts,p,rfl,ha,hv,hp,hl,rfl⟩
  ·obtain⟨b,ys,rfl,hb,_⟩:=TR_kids' ht
   refine⟨_,rfl,_,CFronted,false,rfl,.inr ⟨b,ys,rfl,hb,O.iTF⟩,_,rfl,iteF ?_⟩
   refine⟨_,rfl,_,CLater,false,rfl,.inr ⟨b,ys,rfl,hb,O.iTL⟩,_,rfl,iteF ?_⟩
   exact⟨_,rfl,_,t.kids,1,M,H₀,rfl,g,TR_kids ht,hk,fun y M' H' S G h=>q y M' H' S G h⟩
  ·refine⟨_,rfl,_,CFronted,false,rfl,.inl ⟨_,O.rL.ty ha,O.iLF⟩,_,rfl,iteF ?_⟩
   refine⟨_,rfl,_,CLater,true,rfl,.inl ⟨_,O.rL.ty ha,O.iLL⟩,_,rfl,iteT ?_⟩
   refine⟨_,rfl,a,CLater,dx,_,_,rfl,ha,O.rL.cl,O.lt,lk_eq _ _ _,_,rfl,a,CLater,dx,_,_,rfl,ha,O.rL.cl,O.lp,(lk_ne (by decide +kernel) _ _).trans (lk_eq _ _ _),_,_,rfl,rfl,v,ts,p+1,M,H₀,rfl,g,hv,hl,fun y M' H' S G h=>q y M' H' S G ?_⟩
   have:loadT (T.node (ts.drop p))=.node (ts.drop (p+1)):=by
    show T.node ((ts.drop p).drop 1)=_
    rw [List.drop_drop]
   rw [this]
   exact h
 ·refine⟨_,rfl,_,CFronted,true,rfl,.inl ⟨_,O.rF.ty ha,O.iFF⟩,_,rfl,iteT ?_⟩
  exact⟨_,rfl,a,CFronted,dx,_,_,rfl,ha,O.rF.cl,O.fb,(lk_ne (by decide +kernel) _ _).trans (lk_eq _ _ _),q _ M _ (Same.refl _) (.refl g) hz⟩
theorem ok_unfronted (O:Own K CFronted CLater CWord CText CGoing CWalk) (m_isinstance:mg "isinstance"=none)
  (m_Later:mg "Later"=some (.ref CLater))
  (F:Fun K "unfronted" "unfronted" s_unfronted f fd):FnOk P w K mg base CX0 31 f fd ["row"] (spUnfr K CLater):=by
 refine okQ F sc_unfronted (fun vs H Q E h=>?_) (fun cdv A outer s H vs Q E hr h=>?_)
 ·obtain⟨x,t,rfl,_⟩:=h
  rfl
 obtain⟨x,t,rfl,hu,q⟩:=h
 refine⟨_,(qss_cons (qs_if (qt_val (qe_callB call_isinstO rfl m_isinstance bt_isinstance (qa_cons (qv 0) (qa_cons (qe_glob (v:=.ref CLater) rfl m_Later rfl) qa_nil)))) (qss_one (qs_ret (qe_slice sl_tupA (qe_fld (qv 0) rfl) (qo_some (qe_fld (qv 0) rfl)) qo_none))) qss_nil)
   (qss_one (qs_ret (qv 0)))),?_⟩
 rcases hu with ht | ⟨a,dx,v,ts,p,rfl,ha,hv,hp,hl,rfl⟩
 ·obtain⟨b,ys,rfl,hb,_⟩:=TR_kids' ht
  refine⟨_,rfl,_,CLater,false,rfl,.inr ⟨b,ys,rfl,hb,O.iTL⟩,_,rfl,iteF ?_⟩
  exact⟨_,rfl,q _ _ (Same.refl _) ht⟩
 ·refine⟨_,rfl,_,CLater,true,rfl,.inl ⟨_,O.rL.ty ha,O.iLL⟩,_,rfl,iteT ?_⟩
  obtain⟨b,ys,rfl,hb,hys⟩:=TR_node.mp hv
  refine⟨_,rfl,a,CLater,dx,_,_,rfl,ha,O.rL.cl,O.lt,lk_eq _ _ _,_,rfl,a,CLater,dx,_,_,rfl,ha,O.rL.cl,O.lp,(lk_ne (by decide +kernel) _ _).trans (lk_eq _ _ _),(p:Int),rfl,b,ys,rfl,hb,fun p1 H1 S1 h1=>q _ _ S1 (TR_mk h1 ?_)⟩
  rw [cut_from]
  exact (hys.drop p).mono (.of S1)
theorem ok_parts_within (O:Own K CFronted CLater CWord CText CGoing CWalk) (m_isinstance:mg "isinstance"=none)
  {a_unfronted:Addr}{d_unfronted:FuncData} (F_unfronted:Fun K "unfronted" "unfronted" s_unfronted a_unfronted d_unfronted) (G_unfronted:FnOk P w K mg base CX0 31 a_unfronted d_unfronted ["row"] (spUnfr K CLater)) (b_unfronted:Binds K d_unfronted ["row"] []) (m_unfronted:mg "unfronted"=some (.ref a_unfronted))
  (m_Fronted:mg "Fronted"=some (.ref CFronted))
  (F:Fun K "parts_within" "parts_within" s_parts_within f fd):FnOk P w K mg base CX0 32 f fd ["row","most"] (spPartsW K CFronted CLater CWord CText):=by
 refine okQ F sc_parts_within (fun vs H Q E h=>?_) (fun cdv A outer s H vs Q E hr h=>?_)
 ·obtain⟨x,t,M,H₀,m,rfl,_⟩:=h
  rfl
 obtain⟨x,t,M,H₀,m,rfl,g,hx,hz,q⟩:=h
 refine⟨_,(qss_cons (qs_set (i:=2) sc_parts_within.nd rfl (Or.inl rfl) (qe_lst (qa_cons (qv 0) qa_nil)))
   (qss_cons (qs_set (i:=3) sc_parts_within.nd rfl (Or.inl rfl) qe_int)
   (qss_cons (qs_while PassesOwn.never (QW.pt (qw_and (qt_truth (qv 2) (fun _=>rfl)) (qw_and1 (qt_cmpR op_le (qv 3) (qv 1) (nomark _))))) (qss_cons (qs_set (i:=4) sc_parts_within.nd rfl (Or.inl rfl) (qe_bm0 PySem.F.plainAttrs_list PySem.F.slot_list_pop PySem.F.type_list_pop mt_pop (qv 2)))
   (qss_one (qs_if (qt_val (qe_callB call_isinstO rfl m_isinstance bt_isinstance (qa_cons (qv 4) (qa_cons (qe_glob (v:=.ref CFronted) rfl m_Fronted rfl) qa_nil)))) (qss_cons (qs_expr (qe_bm PySem.F.plainAttrs_list PySem.F.slot_list_append PySem.F.type_list_append mt_append (qv 2) (qa_cons (qe_fld (qv 4) rfl) qa_nil)))
   (qss_one (qs_expr (qe_bm PySem.F.plainAttrs_list PySem.F.slot_list_append PySem.F.type_list_append mt_append (qv 2) (qa_cons (qe_fld (qv 4) rfl) qa_nil))))) (qss_cons (qs_aug (i:=3) sc_parts_within.nd rfl (Or.inl rfl) qe_int ip_add)
   (qss_one (qs_expr (qe_bm PySem.F.plainAttrs_list PySem.F.slot_list_extend PySem.F.type_list_extend mt_extT (qv 2) (qa_cons (qe_call G_unfronted hr rfl m_unfronted F_unfronted.kp b_unfronted .nil pass0 (qa_cons (qv 4) qa_nil)) qa_nil)))))))))
   (qss_one (qs_ret (qv 3)))))),?_⟩
 refine⟨_,rfl,(by show 1≤sizeLine; decide),fun p hp=>?_⟩
 refine⟨WPW K M H x m t.parts p,⟨_,[x],[t],0,none,rfl,same_new hp _,upd_same,All2.one (hx.mono (Kt.new hp) fun _ _ z=>z),by rw [T.partsL_cons,T.partsL_nil]; lia,rfl⟩,?_⟩
 rintro μ σ H' ⟨ys,ts,c,o,rfl,S,hl,ha,hc,rfl⟩
 refine⟨_,rfl,!ys.isEmpty,.inl ⟨ys,SqL.of hl,rfl⟩,ite2 (fun hb=>?_) (fun hb=>?_)⟩
 ·refine⟨_,rfl,_,rfl,_,_,rfl,rfl,_,rfl,ite2 (fun hle=>?_) (fun hle=>?_)⟩
  ·have hne:ys≠[]:=by rintro rfl; exact absurd hb (by decide)
   obtain⟨u,ts0,y,rfl,hy,ha0,hu⟩:=all_lastD ha hne
   have hyl:=ha0.length
   rw [List.length_reverse] at hyl
   have hpp:=T.partsL_cons u ts0
   have hlp:=T.len_le_parts ts0
   have hup:=T.parts_pos u
   refine⟨fun σ' H'=>∃ m',m'<2 * T.partsL (u::ts0) - (u::ts0).length∧WPW K M H x m t.parts p m' σ' H',fun _ _ h=>h,?_⟩
   refine⟨_,rfl,.inl ⟨rfl,_,SqL.of hl⟩,p,ys,y,rfl,rfl,hl,hy,?_⟩
   have k1:=Ki.lst (o:=.lst ys.dropLast) hl
   have g1:=g.grow S
   rcases hu.cases g1 with hu | ⟨a,dx,y1,z1,u1,ts1,rfl,ha1,rfl,hy1,hz1⟩
   ·have hu1:=hu.mono k1
    refine⟨_,rfl,y,CFronted,false,rfl,hu1.notF O,_,rfl,iteF ?_⟩
    refine⟨_,rfl,_,_,rfl,rfl,?_⟩
    refine⟨_,rfl,.inl ⟨rfl,_,SqL.of upd_same⟩,_,rfl,y,u,rfl,hu1,fun y2 H2 S2 t2=>?_⟩
    obtain⟨b2,zs2,rfl,hb2,hz2⟩:=TR_kids' t2
    have hzl:=hz2.length
    have hk:=T.parts_kids u
    have hlk:=T.len_le_parts u.kids
    have h2:=S2 _ _ (upd_same (H:=H') (a:=p) (o:=.lst ys.dropLast))
    refine⟨p,b2,ys.dropLast,zs2,rfl,rfl,h2,hb2,smallM (by lia),?_⟩
    refine⟨_,?_,ys.dropLast++zs2,u.kids.reverse++ts0,c+1,_,rfl,?_,upd_same,?_,?_,rfl⟩
    ·rw [T.partsL_append,partsL_rev,List.length_append,List.length_reverse,hpp]
     show _<2 * _ - (ts0.length+1)
     lia
    ·exact same_upd ((same_upd S hp).trans S2) hp
    ·rw [List.reverse_append,List.reverse_reverse]
     exact All2.append (all_row (k1.kt.trans ((Kt.of S2).trans (Kt.lst h2))) ha0) (all_row (Kt.lst h2) (trs_all hz2))
    ·rw [T.partsL_append,partsL_rev]
     lia
   ·refine⟨_,rfl,_,CFronted,true,rfl,.inl ⟨_,O.rF.ty (k1.ins _ _ _ _ ha1),O.iFF⟩,_,rfl,iteT ?_⟩
    refine⟨_,rfl,.inl ⟨rfl,_,SqL.of upd_same⟩,_,rfl,a,CFronted,dx,_,_,rfl,k1.ins _ _ _ _ ha1,O.rF.cl,O.fi,lk_eq _ _ _,p,_,_,rfl,rfl,upd_same,smallM' (by lia),?_⟩
    rw [updU]
    have k2:=Ki.lst (o:=.lst (ys.dropLast++[y1])) hl
    refine⟨_,rfl,.inl ⟨rfl,_,SqL.of upd_same⟩,_,rfl,a,CFronted,dx,_,_,rfl,k2.ins _ _ _ _ ha1,O.rF.cl,O.fb,(lk_ne (by decide +kernel) _ _).trans (lk_eq _ _ _),p,_,_,rfl,rfl,upd_same,smallM' (by rw [List.length_append,List.length_singleton]; lia),?_⟩
    rw [updU]
    have k3:=Ki.lst (o:=.lst (ys.dropLast++[y1]++[z1])) hl
    have e1:=T.parts_node (u1::ts1)
    have e2:=T.partsL_cons u1 ts1
    have e3:=T.parts_node ts1
    refine⟨_,?_,ys.dropLast++[y1]++[z1],.node ts1::u1::ts0,c,_,rfl,same_upd S hp,upd_same,?_,?_,rfl⟩
    ·rw [T.partsL_cons,T.partsL_cons,hpp]
     show _ - (ts0.length+1+1)<_ - (ts0.length+1)
     lia
    ·rw [List.reverse_cons,List.reverse_cons]
     exact All2.append (All2.append (all_row k3.kt ha0) (All2.one (hy1.mono k3.kt fun _ _ z=>z))) (All2.one (hz1.mono k3.kt fun _ _ z=>z))
    ·rw [T.partsL_cons,T.partsL_cons]
     lia
  ·have hle':m<c:=by
    have:¬ ((c:Int)≤(m:Int)):=fun z=>hle (decide_eq_true z)
    lia
   exact⟨_,rfl,q c _ S (fun z=>by lia) (fun _=>hle')⟩
 ·have hys:ys=[]:=by
   cases ys with
   | nil=>rfl
   | cons _ _=>exact absurd rfl hb
  subst hys
  have hts:=all_nil ha
  subst hts
  rw [T.partsL_nil] at hc
  exact iteF ⟨_,rfl,q c _ S (fun _=>by lia) (fun _=>by lia)⟩
theorem ok_as_tree (O:Own K CFronted CLater CWord CText CGoing CWalk) (m_isinstance:mg "isinstance"=none) (m_tuple:mg "tuple"=none)
  {a_unfronted:Addr}{d_unfronted:FuncData} (F_unfronted:Fun K "unfronted" "unfronted" s_unfronted a_unfronted d_unfronted) (G_unfronted:FnOk P w K mg base CX0 31 a_unfronted d_unfronted ["row"] (spUnfr K CLater)) (b_unfronted:Binds K d_unfronted ["row"] []) (m_unfronted:mg "unfronted"=some (.ref a_unfronted))
  (m_Fronted:mg "Fronted"=some (.ref CFronted))
  (F:Fun K "as_tree" "as_tree" s_as_tree f fd):FnOk P w K mg base CX0 32 f fd ["row"] (spAsTree K CFronted CLater CWord CText):=by
 refine okQ F sc_as_tree (fun vs H Q E h=>?_) (fun cdv A outer s H vs Q E hr h=>?_)
 ·obtain⟨x,t,M,H₀,rfl,_⟩:=h
  rfl
 obtain⟨x,t,M,H₀,rfl,g,hx,hz,q⟩:=h
 refine⟨_,(qss_cons (qs_set (i:=1) sc_as_tree.nd rfl (Or.inl rfl) (qe_lst (qa_cons (qv 0) qa_nil)))
   (qss_cons (qs_set (i:=2) sc_as_tree.nd rfl (Or.inl rfl) (qe_lst (qa_cons (qe_lst qa_nil) qa_nil)))
   (qss_one (qs_while PassesOwn.never (qt_val qe_bl) (qss_cons (qs_set (i:=3) sc_as_tree.nd rfl (Or.inl rfl) (qe_ix ix_list (qv 1) (qe_un un_neg qe_int) (fun _ _=>rfl)))
   (qss_cons (qs_if (qt_val (qe_callB call_isinstO rfl m_isinstance bt_isinstance (qa_cons (qv 3) (qa_cons (qe_glob (v:=.ref CFronted) rfl m_Fronted rfl) qa_nil)))) (qss_cons (qs_asg (qe_fld (qv 3) rfl) (qg_sub (qv 1) (qe_un un_neg qe_int) set_list))
   (qss_cons (qs_expr (qe_bm PySem.F.plainAttrs_list PySem.F.slot_list_append PySem.F.type_list_append mt_append (qv 1) (qa_cons (qe_fld (qv 3) rfl) qa_nil)))
   (qss_cons (qs_expr (qe_bm PySem.F.plainAttrs_list PySem.F.slot_list_append PySem.F.type_list_append mt_append (qv 2) (qa_cons (qe_lst qa_nil) qa_nil)))
   (qss_one qs_continue)))) qss_nil)
   (qss_cons (qs_expr (qe_bm0 PySem.F.plainAttrs_list PySem.F.slot_list_pop PySem.F.type_list_pop mt_pop (qv 1)))
   (qss_cons (qs_set (i:=4) sc_as_tree.nd rfl (Or.inl rfl) (qe_op op_catTA (qe_callTy call_tuple_of rfl m_tuple bt_tuple (qa_cons (qe_bm0 PySem.F.plainAttrs_list PySem.F.slot_list_pop PySem.F.type_list_pop mt_pop (qv 2)) qa_nil)) (qe_call G_unfronted hr rfl m_unfronted F_unfronted.kp b_unfronted .nil pass0 (qa_cons (qv 3) qa_nil))))
   (qss_cons (qs_if (qt_not (qt_truth (qv 1) (fun _=>rfl))) (qss_one (qs_ret (qv 4))) qss_nil)
   (qss_one (qs_expr (qe_bm PySem.F.plainAttrs_list PySem.F.slot_list_append PySem.F.type_list_append mt_append (qe_ix ix_list (qv 2) (qe_un un_neg qe_int) (fun _ _=>rfl)) (qa_cons (qv 4) qa_nil))))))))))))),?_⟩
 refine⟨_,rfl,(by show 1≤sizeLine; decide),fun pa ga=>?_⟩
 refine⟨Nat.zero_le _,fun pq gq=>⟨(by show 1≤sizeLine; decide),fun pt gt=>?_⟩⟩
 have Sa:=same_new ga (.lst [x])
 have Sq:=same_new gq (.lst [])
 have St:=same_new gt (.lst [V.ref pq])
 have n1:pa≠pq:=ne_of_none (h:=upd_same) gq
 have hpa:upd (upd H pa (.lst [x])) pq (.lst []) pa=some (.lst [x]):=by rw [upd_ne n1,upd_same]
 have n2:pa≠pt:=ne_of_none hpa gt
 have n3:pq≠pt:=ne_of_none (h:=upd_same) gt
 have a0:AsT K H (upd (upd (upd H pa (.lst [x])) pq (.lst [])) pt (.lst [V.ref pq])) pt pa [V.ref pq] [[]] [x]:=by
  have hq0:H pq=none:=Sa.free gq
  have ht0:H pt=none:=(Sa.trans Sq).free gt
  refine⟨⟨ht0,(Sa.trans Sq).trans St,upd_same,All2.one ⟨pq,[],rfl,hq0,by rw [upd_ne n3,upd_same],TRs_nil.mpr rfl⟩,?_⟩,ga,by rw [upd_ne n2]; exact hpa,?_⟩
  ·simp [Ne.symm n3]
  ·simp [n1,n2]
 have S0:=(Sa.trans Sq).trans St
 generalize upd (upd (upd H pa (.lst [x])) pq (.lst [])) pt (.lst [V.ref pq])=Hs at a0 S0
 refine⟨fun μ σ H'=>∃ (ys zs:List V) (st:List (List T)) (as:List T) (o3 o4:Option V),σ=[some x,some (.ref pa),some (.ref pt),o3,o4]∧AsT K H H' pt pa ys st zs∧All2 (RV K M H') as.reverse zs∧as≠[]∧st.length=as.length∧valT st as=t∧T.partsL as+(st.map List.length).sum≤t.parts∧μ=2 * T.partsL as - as.length,⟨_,[.ref pq],[x],[[]],[t],none,none,rfl,a0,All2.one (hx.mono (.of S0) fun _ _ z=>z),by simp,rfl,by show T.node ([]++t.kids)=t; cases t; rfl,by rw [T.partsL_cons,T.partsL_nil]; show _+0≤_; lia,rfl⟩,?_⟩
 rintro μ σ H1 ⟨ys,zs,st,as,o3,o4,rfl,A1,ha,hne,hlen,hval,hsum,rfl⟩
 refine⟨_,rfl,iteT ?_⟩
 have hzne:zs≠[]:=by
  rintro rfl
  exact hne (all_nil ha)
 obtain⟨u,as0,zs0,y,rfl,rfl,ha0,hu⟩:=all_last ha hzne
 have hzl:=ha0.length
 rw [List.length_reverse] at hzl
 have hpp:=T.partsL_cons u as0
 have hlp:=T.len_le_parts as0
 have hup:=T.parts_pos u
 have g1:=g.grow A1.rows.same
 refine⟨fun σ' H'=>∃ m',m'<2 * T.partsL (u::as0) - (u::as0).length∧∃ (ys zs:List V) (st:List (List T)) (as:List T) (o3 o4:Option V),σ'=[some x,some (.ref pa),some (.ref pt),o3,o4]∧AsT K H H' pt pa ys st zs∧All2 (RV K M H') as.reverse zs∧as≠[]∧st.length=as.length∧valT st as=t∧T.partsL as+(st.map List.length).sum≤t.parts∧m'=2 * T.partsL as - as.length,fun _ _ h=>h,?_⟩
 refine⟨_,rfl,1,rfl,pa,_,_,_,rfl,rfl,SqL.of A1.at_,at_last,?_⟩
 rcases hu.cases g1 with hu | ⟨a,dx,y1,z1,u1,ts1,rfl,ha1,rfl,hy1,hz1⟩
 ·refine⟨_,rfl,y,CFronted,false,rfl,hu.notF O,_,rfl,iteF ?_⟩
  have hk:=T.parts_kids u
  refine⟨_,rfl,.inl ⟨rfl,_,SqL.of A1.at_⟩,pa,_,_,rfl,rfl,A1.at_,last_snoc _ _,?_⟩
  rw [drop_snoc]
  have k1:=Ki.lst (o:=.lst zs0) A1.at_
  have A2:AsT K H (upd H1 pa (.lst zs0)) pt pa ys st zs0:=A1.place
  generalize upd H1 pa (.lst zs0)=H2 at k1 A2
  have hu2:=hu.mono k1
  have ha2:=all_row k1.kt ha0
  obtain⟨l,st0,rfl⟩:∃ l st0,st=l::st0:=by
   cases st with
   | nil=>exact absurd hlen (by simp)
   | cons l st0=>exact⟨l,st0,rfl⟩
  obtain⟨ys0,b,xs,rfl,nRb,hb,hxs,A3⟩:=A2.shut
  refine⟨_,rfl,.inl ⟨rfl,_,SqL.of A2.rows.at_⟩,pt,_,_,rfl,rfl,A2.rows.at_,last_snoc _ _,?_⟩
  rw [drop_snoc]
  have k3:=Ki.lst (o:=.lst ys0) A2.rows.at_
  have hb3:upd H2 pt (.lst ys0) b=some (.lst xs):=by rw [upd_ne (Ne.symm nRb)]; exact hb
  have hxs3:=hxs.mono k3.kt
  generalize upd H2 pt (.lst ys0)=H3 at k3 A3 hb3 hxs3
  refine⟨b,xs,rfl,.inl ⟨SqL.of hb3,fun p4 g4=>?_⟩⟩
  obtain⟨S4,t4⟩:=tupN (K:=K) g4 hxs3
  have hu4:=(hu2.mono k3).mono (Ki.of S4)
  have hsl:(List.map List.length (l::st0)).sum=l.length+(List.map List.length st0).sum:=rfl
  refine⟨_,rfl,y,u,rfl,hu4,fun y5 H5 S5 t5=>?_⟩
  have t5':TR K H5 (.node u.kids) y5:=TR_kids t5
  have hlk:=T.len_le_parts u.kids
  refine nCat (t4.mono (.of S5)) t5' (smallM (by lia)) (fun z6 H6 S6 t6=>?_)
  have S36:=S4.trans (S5.trans S6)
  have A6:=A3.grow S36
  refine⟨_,rfl,!zs0.isEmpty,.inl ⟨zs0,SqL.of A6.at_,rfl⟩,ite2 (fun he=>?_) (fun he=>?_)⟩
  ·have hz0:zs0=[]:=by
    cases zs0 with
    | nil=>rfl
    | cons _ _=>exact absurd he (by simp)
   subst hz0
   have:=all_nil ha0
   subst this
   have hs0:st0=[]:=by
    have:st0.length+1=0+1:=hlen
    exact List.length_eq_zero_iff.mp (by lia)
   subst hs0
   refine⟨_,rfl,q _ _ A6.rows.same ?_⟩
   rw [← hval]
   exact t6
  ·have hz0:zs0≠[]:=by rintro rfl; exact he rfl
   have has0:as0≠[]:=by
    rintro rfl
    cases ha0
    exact hz0 rfl
   obtain⟨l',st1,rfl⟩:∃ l' st1,st0=l'::st1:=by
    cases st0 with
    | nil =>
     have h1:0+1=as0.length+1:=hlen
     exact absurd (List.length_eq_zero_iff.mp (by lia)) has0
    | cons l' st1=>exact⟨l',st1,rfl⟩
   obtain⟨ys1,c,ws,rfl,hc,hwl,A7⟩:=A6.add t6
   have hsl2:(List.map List.length (l'::st1)).sum=l'.length+(List.map List.length st1).sum:=rfl
   refine⟨_,rfl,1,rfl,pt,_,_,_,rfl,rfl,SqL.of A6.rows.at_,at_last,.inl ⟨rfl,_,SqL.of hc⟩,_,rfl,c,_,_,rfl,rfl,hc,smallM' (by lia),?_⟩
   refine⟨_,?_,_,zs0,_,as0,_,_,rfl,A7,?_,has0,?_,?_,?_,rfl⟩
   ·rw [hpp]
    show _<_ - (as0.length+1)
    lia
   ·exact all_row (k3.kt.trans ((Kt.of S36).trans (Kt.lst hc))) ha2
   ·have h1:st1.length+1+1=as0.length+1:=hlen
    show st1.length+1=as0.length
    lia
   ·rw [← hval]
    cases as0 with
    | nil=>exact absurd rfl has0
    | cons _ _=>rw [valT]
   ·show _+((l'++[_]).length+(List.map List.length st1).sum)≤_
    rw [List.length_append,List.length_singleton]
    lia
 ·have e1:=T.parts_node (u1::ts1)
  have e2:=T.partsL_cons u1 ts1
  have e3:=T.parts_node ts1
  refine⟨_,rfl,_,CFronted,true,rfl,.inl ⟨_,O.rF.ty ha1,O.iFF⟩,_,rfl,iteT ?_⟩
  refine⟨_,rfl,a,CFronted,dx,_,_,rfl,ha1,O.rF.cl,O.fb,(lk_ne (by decide +kernel) _ _).trans (lk_eq _ _ _),_,rfl,1,rfl,pa,_,-1,_,rfl,rfl,A1.at_,ix_last _ _,?_⟩
  rw [set_last]
  have k1:=Ki.lst (o:=.lst (zs0++[z1])) A1.at_
  have A2:AsT K H (upd H1 pa (.lst (zs0++[z1]))) pt pa ys st (zs0++[z1]):=A1.place
  generalize upd H1 pa (.lst (zs0++[z1]))=H2 at k1 A2
  refine⟨_,rfl,.inl ⟨rfl,_,SqL.of A2.at_⟩,_,rfl,a,CFronted,dx,_,_,rfl,k1.ins _ _ _ _ ha1,O.rF.cl,O.fi,lk_eq _ _ _,pa,_,_,rfl,rfl,A2.at_,smallM' (by rw [List.length_append,List.length_singleton]; lia),?_⟩
  have k2:=Ki.lst (o:=.lst (zs0++[z1]++[y1])) A2.at_
  have A3:AsT K H (upd H2 pa (.lst (zs0++[z1]++[y1]))) pt pa ys st (zs0++[z1]++[y1]):=A2.place
  generalize upd H2 pa (.lst (zs0++[z1]++[y1]))=H3 at k2 A3
  refine⟨_,rfl,.inl ⟨rfl,_,SqL.of A3.rows.at_⟩,Nat.zero_le _,fun pn gn=>⟨pt,_,_,rfl,rfl,same_new gn _ _ _ A3.rows.at_,?_,?_⟩⟩
  ·have hyl:=A3.rows.rows.length
   rw [List.length_reverse] at hyl
   exact smallM' (by
    have h1:st.length=as0.length+1:=hlen
    lia)
  ·have A4:=A3.enter gn
   have k4:Kt H3 (upd (upd H3 pn (.lst [])) pt (.lst (ys++[.ref pn]))):=(Kt.new gn).trans (Kt.lst (same_new gn _ _ _ A3.rows.at_))
   have k:=k1.kt.trans (k2.kt.trans k4)
   obtain⟨l,st0,rfl⟩:∃ l st0,st=l::st0:=by
    cases st with
    | nil=>exact absurd hlen (by simp)
    | cons l st0=>exact⟨l,st0,rfl⟩
   refine⟨_,?_,_,_,_,u1::.node ts1::as0,_,_,rfl,A4,?_,by simp,?_,?_,?_,rfl⟩
   ·rw [T.partsL_cons,T.partsL_cons,hpp]
    show _ - (as0.length+1+1)<_ - (as0.length+1)
    lia
   ·rw [List.reverse_cons,List.reverse_cons]
    exact All2.append (All2.append (all_row k ha0) (All2.one (hz1.mono k fun _ _ z=>z))) (All2.one (hy1.mono k fun _ _ z=>z))
   ·have h1:(l::st0).length=as0.length+1:=hlen
    show (l::st0).length+1=as0.length+1+1
    rw [h1]
   ·rw [val_open]
    exact hval
   ·have e9:(List.map List.length ([]::l::st0)).sum=(List.map List.length (l::st0)).sum:=by simp
    rw [T.partsL_cons,T.partsL_cons,e9]
    lia
end
end Sw92
namespace Sw92
open PySem PySem.Spec PyProof.Rows L2 Sw
section
variable {P:Program}{w:World}{K:PySem.W.Frag}{mg:Str→Option Value}{base:Heap}{f:Addr}{fd:FuncData}{CFronted CLater CWord CText CGoing CWalk:Addr}
theorem ok_place_of (O:Own K CFronted CLater CWord CText CGoing CWalk) {u_FORK:Value} (m_FORK:mg "FORK"=some u_FORK) (r_FORK:RelV (.int 7) u_FORK) {u_FORK_NO:Value} (m_FORK_NO:mg "FORK_NO"=some u_FORK_NO) (r_FORK_NO:RelV (.int 8) u_FORK_NO) {u_FORK_YES:Value} (m_FORK_YES:mg "FORK_YES"=some u_FORK_YES) (r_FORK_YES:RelV (.int 7) u_FORK_YES) {u_WHILE:Value} (m_WHILE:mg "WHILE"=some u_WHILE) (r_WHILE:RelV (.int 8) u_WHILE) {u_WHILE_PAST:Value} (m_WHILE_PAST:mg "WHILE_PAST"=some u_WHILE_PAST) (r_WHILE_PAST:RelV (.int 10) u_WHILE_PAST) {u_WHILE_INTO:Value} (m_WHILE_INTO:mg "WHILE_INTO"=some u_WHILE_INTO) (r_WHILE_INTO:RelV (.int 9) u_WHILE_INTO) {u_NAMELESS:Value} (m_NAMELESS:mg "NAMELESS"=some u_NAMELESS) (r_NAMELESS:RelV (.int 9) u_NAMELESS) {u_NO_WORD:Value} (m_NO_WORD:mg "NO_WORD"=some u_NO_WORD) (r_NO_WORD:RelV (.int 11) u_NO_WORD)
  (F:Fun K "place_of" "place_of" s_place_of f fd):FnOk P w K mg base CX0 31 f fd ["sort","top"] (spPlace K CFronted CLater CWord CText):=by
 refine okQ F sc_place_of (fun vs H Q E h=>?_) (fun cdv A outer s H vs Q E hr h=>?_)
 ·obtain⟨k,x,t,M,H₀,rfl,_⟩:=h
  rfl
 obtain⟨k,x,t,M,H₀,rfl,g,hx,hd,q⟩:=h
 have hE:=hr.un
 have hE:(A.deeper (envOfC "place_of" (defScope s_place_of) s.heap.objs.size f cdv)).units+401<cLine:=by lia
 refine⟨_,(qss_cons (qs_if (qt_cmpR op_eq (qv 0) (qe_glob (v:=.int 7) rfl m_FORK r_FORK) (nomark _)) (qss_one (qs_ret (qe_ifExp (qt_cmpR (op_eqRow hE) (qv 1) (qe_tup qa_nil) (nomark _)) (qe_glob (v:=.int 8) rfl m_FORK_NO r_FORK_NO) (qe_glob (v:=.int 7) rfl m_FORK_YES r_FORK_YES)))) qss_nil)
   (qss_cons (qs_if (qt_cmpR op_eq (qv 0) (qe_glob (v:=.int 8) rfl m_WHILE r_WHILE) (nomark _)) (qss_one (qs_ret (qe_ifExp (qt_cmpR (op_eqRow hE) (qv 1) (qe_tup qa_nil) (nomark _)) (qe_glob (v:=.int 10) rfl m_WHILE_PAST r_WHILE_PAST) (qe_glob (v:=.int 9) rfl m_WHILE_INTO r_WHILE_INTO)))) qss_nil)
   (qss_one (qs_ret (qe_ifExp (qt_cmpR op_eq (qv 0) (qe_glob (v:=.int 9) rfl m_NAMELESS r_NAMELESS) (nomark _)) (qe_glob (v:=.int 11) rfl m_NO_WORD r_NO_WORD) (qv 0)))))),?_⟩
 refine⟨_,rfl,rfl,_,rfl,ite2 (fun h7=>?_) (fun h7=>?_)⟩
 ·have h7:k=7:=by have:=V.int.inj (of_decide_eq_true h7); lia
  refine⟨_,rfl,Nat.zero_le _,fun p gp=>eq_leaf O g hx (by lia) gp ⟨_,rfl,ite2 (fun he=>?_) (fun he=>?_)⟩⟩
  ·have:=q _ (same_new gp (.tup []))
   rw [placeT,if_pos h7,if_pos (of_decide_eq_true he)] at this
   exact this
  ·have:=q _ (same_new gp (.tup []))
   rw [placeT,if_pos h7,if_neg (fun z=>he (decide_eq_true z))] at this
   exact this
 have h7:¬ k=7:=fun z=>h7 (decide_eq_true (by rw [z]; rfl))
 refine⟨_,rfl,rfl,_,rfl,ite2 (fun h8=>?_) (fun h8=>?_)⟩
 ·have h8:k=8:=by have:=V.int.inj (of_decide_eq_true h8); lia
  refine⟨_,rfl,Nat.zero_le _,fun p gp=>eq_leaf O g hx (by lia) gp ⟨_,rfl,ite2 (fun he=>?_) (fun he=>?_)⟩⟩
  ·have:=q _ (same_new gp (.tup []))
   rw [placeT,if_neg h7,if_pos h8,if_pos (of_decide_eq_true he)] at this
   exact this
  ·have:=q _ (same_new gp (.tup []))
   rw [placeT,if_neg h7,if_pos h8,if_neg (fun z=>he (decide_eq_true z))] at this
   exact this
 have h8:¬ k=8:=fun z=>h8 (decide_eq_true (by rw [z]; rfl))
 refine⟨_,rfl,rfl,_,rfl,ite2 (fun h9=>?_) (fun h9=>?_)⟩
 ·have h9:k=9:=by have:=V.int.inj (of_decide_eq_true h9); lia
  have:=q _ (Same.refl H)
  rw [placeT,if_neg h7,if_neg h8,if_pos h9] at this
  exact this
 ·have h9:¬ k=9:=fun z=>h9 (decide_eq_true (by rw [z]; rfl))
  have:=q _ (Same.refl H)
  rw [placeT,if_neg h7,if_neg h8,if_neg h9] at this
  exact⟨_,rfl,this⟩
theorem ok_Word___init__ (O:Own K CFronted CLater CWord CText CGoing CWalk) {u_FORK:Value} (m_FORK:mg "FORK"=some u_FORK) (r_FORK:RelV (.int 7) u_FORK) {u_WHILE:Value} (m_WHILE:mg "WHILE"=some u_WHILE) (r_WHILE:RelV (.int 8) u_WHILE)
  {a_sort_of:Addr}{d_sort_of:FuncData} (F_sort_of:Fun K "sort_of" "sort_of" s_sort_of a_sort_of d_sort_of) (G_sort_of:FnOk P w K mg base CX0 33 a_sort_of d_sort_of ["word"] (spSortL K)) (b_sort_of:Binds K d_sort_of ["word"] []) (m_sort_of:mg "sort_of"=some (.ref a_sort_of))
  {a_load_of:Addr}{d_load_of:FuncData} (F_load_of:Fun K "load_of" "load_of" s_load_of a_load_of d_load_of) (G_load_of:FnOk P w K mg base CX0 33 a_load_of d_load_of ["word"] (spRest K)) (b_load_of:Binds K d_load_of ["word"] []) (m_load_of:mg "load_of"=some (.ref a_load_of))
  {a_first:Addr}{d_first:FuncData} (F_first:Fun K "first" "first" s_first a_first d_first) (G_first:FnOk P w K mg base CX0 33 a_first d_first ["tree"] (spFirst K)) (b_first:Binds K d_first ["tree"] []) (m_first:mg "first"=some (.ref a_first))
  {a_rest:Addr}{d_rest:FuncData} (F_rest:Fun K "rest" "rest" s_rest a_rest d_rest) (G_rest:FnOk P w K mg base CX0 33 a_rest d_rest ["tree"] (spRest K)) (b_rest:Binds K d_rest ["tree"] []) (m_rest:mg "rest"=some (.ref a_rest))
  (m_Text:mg "Text"=some (.ref CText))
  {a_Text___init__:Addr}{d_Text___init__:FuncData} (MK_Text:Mk K CText a_Text___init__) (G_Text___init__:FnOk P w K mg base CX0 32 a_Text___init__ d_Text___init__ ["self","tree"] (spTxInit CText)) (b_Text___init__:Binds K d_Text___init__ ["self","tree"] [])
  (F:Fun K "__init__" "Word.__init__" s_Word___init__ f fd):FnOk P w K mg base CX0 34 f fd ["self","tree"] (spWdInit K CFronted CLater CWord CText):=by
 refine okQ F sc_Word___init__ (fun vs H Q E h=>?_) (fun cdv A outer s H vs Q E hr h=>?_)
 ·obtain⟨o,dx,x,w',M,H₀,rfl,_⟩:=h
  rfl
 obtain⟨o,dx,x,w',M,H₀,rfl,g,hm,ho,hx,hd,q⟩:=h
 refine⟨_,(qss_cons (qs_fld (qv 0) (qe_call G_sort_of hr rfl m_sort_of F_sort_of.kp b_sort_of .nil pass0 (qa_cons (qv 1) qa_nil)) rfl)
   (qss_cons (qs_fld (qv 0) (qe_call G_load_of hr rfl m_load_of F_load_of.kp b_load_of .nil pass0 (qa_cons (qv 1) qa_nil)) rfl)
   (qss_cons (qs_fld (qv 0) qe_non rfl)
   (qss_cons (qs_fld (qv 0) qe_non rfl)
   (qss_cons (qs_fld (qv 0) qe_non rfl)
   (qss_cons (qs_fld (qv 0) qe_non rfl)
   (qss_cons (qs_if (qt_cmpR op_eq (qe_fld (qv 0) rfl) (qe_glob (v:=.int 7) rfl m_FORK r_FORK) (nomark _)) (qss_cons (qs_fld (qv 0) (qe_make MK_Text G_Text___init__ hr rfl m_Text b_Text___init__ .nil pass0 (qa_cons (qe_call G_first hr rfl m_first F_first.kp b_first .nil pass0 (qa_cons (qe_fld (qv 0) rfl) qa_nil)) qa_nil)) rfl)
   (qss_one (qs_fld (qv 0) (qe_make MK_Text G_Text___init__ hr rfl m_Text b_Text___init__ .nil pass0 (qa_cons (qe_call G_rest hr rfl m_rest F_rest.kp b_rest .nil pass0 (qa_cons (qe_fld (qv 0) rfl) qa_nil)) qa_nil)) rfl))) qss_nil)
   (qss_one (qs_if (qt_cmpR op_eq (qe_fld (qv 0) rfl) (qe_glob (v:=.int 8) rfl m_WHILE r_WHILE) (nomark _)) (qss_one (qs_fld (qv 0) (qe_make MK_Text G_Text___init__ hr rfl m_Text b_Text___init__ .nil pass0 (qa_cons (qe_fld (qv 0) rfl) qa_nil)) rfl)) qss_nil))))))))),?_⟩
 refine⟨_,rfl,x,w',rfl,hx,hd,fun H1 S1=>⟨_,rfl,o,CWord,dx,[],rfl,S1 _ _ ho,O.cWord,O.wk,by show 0<1000; decide,?_⟩⟩
 rw [pd1]
 have kt {u:HO}{Ha:Hp}{fs:List (Str×V)} (h:Ha o=some (.ins CWord dx fs)):Kt Ha (upd Ha o u):=Kt.ins h
 have G1:Go K CFronted CLater CWord CText (fun a=>a=o) M M H₀ H (upd H1 o (.ins CWord dx (d1 (.int (sortT w':Nat))))):=Go.mutX (.grow g S1) hm rfl (kt (S1 _ _ ho))
 have O1:∀ c u,H c=some u→c≠o→upd H1 o (.ins CWord dx (d1 (.int (sortT w':Nat)))) c=some u:=fun c u h n=>by rw [upd_ne n]; exact S1 _ _ h
 have h1:upd H1 o (.ins CWord dx (d1 (.int (sortT w':Nat)))) o=some (.ins CWord dx (d1 (.int (sortT w':Nat)))):=upd_same
 generalize upd H1 o (.ins CWord dx (d1 (.int (sortT w':Nat))))=H2 at G1 O1 h1
 refine⟨_,rfl,x,w',rfl,hx.mono G1.kt,fun v H3 S3 tv=>⟨_,rfl,o,CWord,dx,_,rfl,S3 _ _ h1,O.cWord,O.wl,by show 1<1000; decide,?_⟩⟩
 rw [pd2]
 have G3:Go K CFronted CLater CWord CText (fun a=>a=o) M M H₀ H (upd H3 o (.ins CWord dx (d2 (.int (sortT w':Nat)) v))):=Go.mutX (G1.trans (.grow G1.gh S3)) hm rfl (kt (S3 _ _ h1))
 have O3:∀ c u,H c=some u→c≠o→upd H3 o (.ins CWord dx (d2 (.int (sortT w':Nat)) v)) c=some u:=fun c u h n=>by rw [upd_ne n]; exact S3 _ _ (O1 c u h n)
 have tv3:TR K (upd H3 o (.ins CWord dx (d2 (.int (sortT w':Nat)) v))) (loadT w') v:=tv.mono (kt (S3 _ _ h1))
 have h3:upd H3 o (.ins CWord dx (d2 (.int (sortT w':Nat)) v)) o=some (.ins CWord dx (d2 (.int (sortT w':Nat)) v)):=upd_same
 generalize upd H3 o (.ins CWord dx (d2 (.int (sortT w':Nat)) v))=H4 at G3 O3 tv3 h3
 refine⟨_,rfl,o,CWord,dx,_,rfl,h3,O.cWord,O.wy,by show 2<1000; decide,?_⟩
 rw [pd3]
 refine⟨_,rfl,o,CWord,dx,_,rfl,upd_same,O.cWord,O.wn,by show 3<1000; decide,?_⟩
 rw [pd4,updU]
 refine⟨_,rfl,o,CWord,dx,_,rfl,upd_same,O.cWord,O.wb,by show 4<1000; decide,?_⟩
 rw [pd5,updU]
 refine⟨_,rfl,o,CWord,dx,_,rfl,upd_same,O.cWord,O.ws,by show 5<1000; decide,?_⟩
 rw [pd6,updU]
 have G5:Go K CFronted CLater CWord CText (fun a=>a=o) M M H₀ H (upd H4 o (.ins CWord dx (fD (sortT w') v .non .non .non .non))):=Go.mutX G3 hm rfl (kt h3)
 have O5:∀ c u,H c=some u→c≠o→upd H4 o (.ins CWord dx (fD (sortT w') v .non .non .non .non)) c=some u:=fun c u h n=>by rw [upd_ne n]; exact O3 c u h n
 have tv5:TR K (upd H4 o (.ins CWord dx (fD (sortT w') v .non .non .non .non))) (loadT w') v:=tv3.mono (kt h3)
 have h5:upd H4 o (.ins CWord dx (fD (sortT w') v .non .non .non .non)) o=some (.ins CWord dx (fD (sortT w') v .non .non .non .non)):=upd_same
 generalize upd H4 o (.ins CWord dx (fD (sortT w') v .non .non .non .non))=H5 at G5 O5 tv5 h5
 have hdl:(loadT w').deep≤400:=Nat.le_trans (deep_load w') hd
 dsimp only
 refine ifAll (fun σ' H'=>σ'=[some (.ref o),some x]∧∃ M' y n,Go K CFronted CLater CWord CText (fun a=>a=o) M M' H₀ H H'∧(∀ c u,H c=some u→c≠o→H' c=some u)∧H' o=some (.ins CWord dx (fD (sortT w') v y n .non .non))∧TR K H' (loadT w') v∧W7 M' w' y n) (fun σ' H6 h6=>?_) (fun A' B' hA hB=>⟨_,rfl,o,CWord,dx,_,_,rfl,h5,O.cWord,O.wk,ldK,rfl,_,rfl,ite2 (fun h=>hA _ fun N hN=>?_) (fun h=>hB _ ⟨rfl,M,.non,.non,G5,O5,h5,tv5,fun z=>absurd (decide_eq_true (by rw [z]; rfl)) h⟩)⟩)
 rotate_left
 ·refine⟨_,rfl,o,CWord,dx,_,_,rfl,h5,O.cWord,O.wl,ldL,v,loadT w',rfl,tv5,hdl,fun y1 H6 S6 t6=>fun a da ha hda ne=>⟨a,da,y1,rfl,mk_at,fun W hW=>⟨rfl,_,rfl,o,CWord,dx,fD (sortT w') v .non .non .non .non,rfl,?_,O.cWord,O.wy,by show 6<1000; decide,?_⟩⟩⟩
  ·obtain⟨_,S7,_⟩:=Go.newText (X:=fun a=>a=o) (G5.trans (.grow G5.gh S6)).gh t6 ha hda ne hW
   exact S7 _ _ (S6 _ _ h5)
  obtain⟨G7,S7,tx7⟩:=Go.newText (X:=fun a=>a=o) (G5.trans (.grow G5.gh S6)).gh t6 ha hda ne hW
  have h7:=S7 _ _ (S6 _ _ h5)
  have tv7:=tv5.mono (.of (S6.trans S7))
  have O7:∀ c u,H c=some u→c≠o→_:=fun c u h n=>S7 _ _ (S6 _ _ (O5 c u h n))
  have G7':=(G5.trans (.grow G5.gh S6)).trans G7
  generalize setM (setM M W (.words (ats (loadT w').kids 0))) a (.text (ats (loadT w').kids 0) W)=M7 at G7' tx7
  generalize upd (upd (mkO H6 a da CText []) W (.lst [])) a (.ins CText da (fT y1 W))=H7 at S7 h7 tv7 O7 G7'
  rw [pdY]
  have hm7:=G7'.ext _ _ hm
  have G8:=G7'.mutX (u:=.ins CWord dx (fD (sortT w') v (.ref a) .non .non .non)) hm7 rfl (kt h7)
  have O8:∀ c u,H c=some u→c≠o→upd H7 o (.ins CWord dx (fD (sortT w') v (.ref a) .non .non .non)) c=some u:=fun c u h n=>by rw [upd_ne n]; exact O7 c u h n
  have tv8:=tv7.mono (kt (u:=.ins CWord dx (fD (sortT w') v (.ref a) .non .non .non)) h7)
  have h8:upd H7 o (.ins CWord dx (fD (sortT w') v (.ref a) .non .non .non)) o=some (.ins CWord dx (fD (sortT w') v (.ref a) .non .non .non)):=upd_same
  generalize upd H7 o (.ins CWord dx (fD (sortT w') v (.ref a) .non .non .non))=H8 at G8 O8 tv8 h8
  refine⟨_,rfl,o,CWord,dx,_,_,rfl,h8,O.cWord,O.wl,ldL,v,loadT w',rfl,tv8,fun y9 H9 S9 t9=>fun c dc hc hdc ne9=>⟨c,dc,y9,rfl,mk_at,fun W9 hW9=>⟨rfl,_,rfl,o,CWord,dx,fD (sortT w') v (.ref a) .non .non .non,rfl,?_,O.cWord,O.wn,by show 6<1000; decide,?_⟩⟩⟩
  ·obtain⟨_,S10,_⟩:=Go.newText (X:=fun a=>a=o) (G8.trans (.grow G8.gh S9)).gh t9 hc hdc ne9 hW9
   exact S10 _ _ (S9 _ _ h8)
  obtain⟨G10,S10,tx10⟩:=Go.newText (X:=fun a=>a=o) (G8.trans (.grow G8.gh S9)).gh t9 hc hdc ne9 hW9
  have h10:=S10 _ _ (S9 _ _ h8)
  have tv10:=tv8.mono (.of (S9.trans S10))
  have G10':=(G8.trans (.grow G8.gh S9)).trans G10
  have tx7':=tx7.ext G10
  rw [pdN]
  refine hN _ _ ⟨rfl,_,.ref a,.ref c,G10'.mutX (G10'.ext _ _ hm) rfl (kt h10),fun c u h n=>by rw [upd_ne n]; exact S10 _ _ (S9 _ _ (O8 c u h n)),upd_same,tv10.mono (kt h10),fun _=>⟨a,c,rfl,rfl,tx7',tx10⟩⟩
 obtain⟨rfl,M6,y6,n6,G6,O6,h6,tv6,w7⟩:=h6
 refine⟨_,rfl,o,CWord,dx,_,_,rfl,h6,O.cWord,O.wk,ldK,rfl,_,rfl,ite2 (fun h=>?_) (fun h=>?_)⟩
 ·refine⟨_,rfl,o,CWord,dx,_,_,rfl,h6,O.cWord,O.wl,ldL,fun a da ha hda ne=>⟨a,da,v,rfl,mk_at,fun W hW=>⟨rfl,_,rfl,o,CWord,dx,fD (sortT w') v y6 n6 .non .non,rfl,?_,O.cWord,O.wb,by show 6<1000; decide,?_⟩⟩⟩
  ·obtain⟨_,S7,_⟩:=Go.newText (X:=fun a=>a=o) G6.gh tv6 ha hda ne hW
   exact S7 _ _ h6
  obtain⟨G7,S7,tx7⟩:=Go.newText (X:=fun a=>a=o) G6.gh tv6 ha hda ne hW
  have h7:=S7 _ _ h6
  have G7':=G6.trans G7
  rw [pdB]
  exact q _ _ v y6 n6 (.ref a) (G7'.mutX (G7'.ext _ _ hm) rfl (kt h7)) (fun c u h n=>by rw [upd_ne n]; exact S7 _ _ (O6 c u h n)) upd_same ((tv6.mono (.of S7)).mono (kt h7)) (fun z=>by
   obtain⟨ay,an,e1,e2,e3,e4⟩:=w7 z
   exact⟨ay,an,e1,e2,e3.ext G7,e4.ext G7⟩) (fun _=>⟨a,rfl,tx7⟩)
 ·exact q M6 H6 v y6 n6 .non G6 O6 h6 tv6 w7 (fun z=>absurd (decide_eq_true (by rw [z]; rfl)) h)
theorem ok_Word_body_parts (O:Own K CFronted CLater CWord CText CGoing CWalk)
  {a_parts:Addr}{d_parts:FuncData} (F_parts:Fun K "parts" "parts" s_parts a_parts d_parts) (G_parts:FnOk P w K mg base CX0 32 a_parts d_parts ["tree"] (spPartsM K)) (b_parts:Binds K d_parts ["tree"] []) (m_parts:mg "parts"=some (.ref a_parts))
  (F:Fun K "body_parts" "Word.body_parts" s_Word_body_parts f fd):FnOk P w K mg base CX0 33 f fd ["self"] (spBodyP K CFronted CLater CWord CText):=by
 refine okQ F sc_Word_body_parts (fun vs H Q E h=>?_) (fun cdv A outer s H vs Q E hr h=>?_)
 ·obtain⟨b,w',M,H₀,rfl,_⟩:=h
  rfl
 obtain⟨b,w',M,H₀,rfl,g,hm,hz,q⟩:=h
 refine⟨_,(qss_cons (qs_if (qt_cmpR op_isN (qe_fld (qv 0) rfl) qe_non (nomark _)) (qss_one (qs_fld (qv 0) (qe_call G_parts hr rfl m_parts F_parts.kp b_parts .nil pass0 (qa_cons (qe_fld (qv 0) rfl) qa_nil)) rfl)) qss_nil)
   (qss_one (qs_ret (qe_fld (qv 0) rfl)))),?_⟩
 obtain⟨dx,v,y,n,bd,sz,hb,tv,c7,c8,hs⟩:=g.ok b _ hm
 have fin:∀ H' sz',Go K CFronted CLater CWord CText (fun _=>False) M M H₀ H H'→H' b=some (.ins CWord dx (fD (sortT w') v y n bd sz'))→sz'=.int ((loadT w').parts:Nat)→tRet (tFld K (tVar 0) "size") { nx:=fun x H'=>Q .non H',rt:=Q,bk:=fun _ _=>False,ct:=fun _ _=>False } [some (.ref b)] H':=fun H' sz' G hb' e=>by
  subst e
  exact⟨_,rfl,b,CWord,dx,_,_,rfl,hb',O.cWord,O.ws,ldS,q _ G⟩
 refine⟨_,rfl,b,CWord,dx,_,_,rfl,hb,O.cWord,O.ws,ldS,rfl,_,rfl,ite2 (fun h=>?_) (fun h=>?_)⟩
 ·refine⟨_,rfl,b,CWord,dx,_,_,rfl,hb,O.cWord,O.wl,ldL,v,loadT w',rfl,tv,hz,fun H1 S1=>⟨_,rfl,b,CWord,dx,_,rfl,S1 _ _ hb,O.cWord,O.ws,by show 6<1000; decide,?_⟩⟩
  rw [pdS]
  have k1:Kt H1 (upd H1 b (.ins CWord dx (fD (sortT w') v y n bd (.int ((loadT w').parts:Nat))))):=Kt.ins (S1 _ _ hb)
  have g1:=g.grow S1
  have g2:=g1.put hm k1 ⟨dx,v,y,n,bd,_,upd_same,(tv.mono (.of S1)).mono k1,c7,c8,.inr rfl⟩
  refine fin _ _ ⟨fun _ _ z=>z,fun a ha _=>?_,(Kt.of S1).trans k1,g2,fun W t ws h1 h2=>⟨ws,?_,Nat.le_refl _⟩⟩ upd_same rfl
  ·have:a≠b:=fun z=>by rw [z,hm] at ha; cases ha
   rw [upd_ne this]
   obtain⟨u,e⟩:=g.has a _ ha
   exact (S1 _ _ e).trans e.symm
  ·have:W≠b:=fun z=>by rw [z,hm] at h1; cases h1
   rw [upd_ne this]
   exact S1 _ _ h2
 ·rcases hs with hs | hs
  ·exact absurd (by rw [hs]; rfl) h
  ·exact fin _ _ (.refl g) hb hs
theorem ok_Text_word_at (O:Own K CFronted CLater CWord CText CGoing CWalk) (m_len:mg "len"=none)
  (m_Word:mg "Word"=some (.ref CWord))
  {a_Word___init__:Addr}{d_Word___init__:FuncData} (MK_Word:Mk K CWord a_Word___init__) (G_Word___init__:FnOk P w K mg base CX0 34 a_Word___init__ d_Word___init__ ["self","tree"] (spWdInit K CFronted CLater CWord CText)) (b_Word___init__:Binds K d_Word___init__ ["self","tree"] [])
  (F:Fun K "word_at" "Text.word_at" s_Text_word_at f fd):FnOk P w K mg base CX0 36 f fd ["self","place"] (spWordAt K CFronted CLater CWord CText):=by
 refine okQ F sc_Text_word_at (fun vs H Q E h=>?_) (fun cdv A outer s H vs Q E hr h=>?_)
 ·obtain⟨a,t,W,p,M,H₀,ws,rfl,_⟩:=h
  rfl
 obtain⟨a,t,W,p,M,H₀,ws,rfl,g,hm,hW,hpw,hpk0,hd,hkl,q0,q⟩:=h
 refine⟨_,(qss_cons (qs_if (qt_cmpR op_eq (qv 1) (qe_callB call_len_seq rfl m_len bt_len (qa_cons (qe_fld (qv 0) rfl) qa_nil)) (nomark _)) (qss_one (qs_ret qe_non)) qss_nil)
   (qss_cons (qs_if (qt_cmpR op_eq (qv 1) (qe_callB call_len_seq rfl m_len bt_len (qa_cons (qe_fld (qv 0) rfl) qa_nil)) (nomark _)) (qss_one (qs_expr (qe_bm PySem.F.plainAttrs_list PySem.F.slot_list_append PySem.F.type_list_append mt_append (qe_fld (qv 0) rfl) (qa_cons (qe_make MK_Word G_Word___init__ hr rfl m_Word b_Word___init__ .nil pass0 (qa_cons (qe_ix ix_tup (qe_fld (qv 0) rfl) (qv 1) (fun _ _=>rfl)) qa_nil)) qa_nil)))) qss_nil)
   (qss_one (qs_ret (qe_ix ix_list (qe_fld (qv 0) rfl) (qv 1) (fun _ _=>rfl)))))),?_⟩
 obtain⟨dx,v,ha,tv,hMW⟩:=g.ok a _ hm
 obtain⟨bt,ys,rfl,hbt,hys⟩:=TR_kids' tv
 have hyl:=hys.length
 obtain⟨xs0,hW0,hl0,hit⟩:=g.ok W _ hMW
 have e0:xs0=ws:=by rw [hW] at hW0; cases hW0; rfl
 subst e0
 refine⟨_,rfl,_,rfl,a,CText,dx,_,_,rfl,ha,O.cText,O.tt,lk_eq _ _ _,bt,ys,rfl,.inr hbt,rfl,_,rfl,ite2 (fun h=>?_) (fun h=>?_)⟩
 ·have h:=V.int.inj (of_decide_eq_true h)
  exact q0 (by lia)
 have hpk:p≠t.kids.length:=fun z=>h (decide_eq_true (by rw [z,← hyl]))
 obtain⟨w',ew⟩:∃ w',t.kids[p]?=some w':=⟨_,List.getElem?_eq_getElem (by lia)⟩
 obtain⟨x',ex,tx'⟩:=hys.at ew
 have lw:List.lookup ("words":Str) (fT (.ref bt) W)=some (.ref W):=(lk_ne (by decide +kernel) _ _).trans (lk_eq _ _ _)
 dsimp only [tNext]
 refine ifAll (fun σ' H'=>σ'=[some (.ref a),some (.int (p:Int))]∧∃ M' b ws',Go K CFronted CLater CWord CText (fun _=>False) M M' H₀ H H'∧M' b=some (.word w')∧H' a=some (.ins CText dx (fT (.ref bt) W))∧H' W=some (.lst ws')∧ws'[p]?=some (.ref b)) (fun σ' H6 h6=>?_) (fun A' B' hA hB=>⟨_,rfl,_,rfl,a,CText,dx,_,_,rfl,ha,O.cText,O.tw,lw,W,xs0,rfl,.inl (SqL.of hW),rfl,_,rfl,ite2 (fun h=>hA _ fun N hN=>?_) (fun h=>hB _ ⟨rfl,?_⟩)⟩)
 ·obtain⟨rfl,M',b,ws',G,hb,ha',hW',hb'⟩:=h6
  refine⟨_,rfl,a,CText,dx,_,_,rfl,ha',O.cText,O.tw,lw,_,rfl,W,ws',p,.ref b,rfl,rfl,SqL.of hW',atI_nat hb',q w' ew b M' H6 G hb fun ws2 e2=>?_⟩
  rw [hW'] at e2
  cases e2
  exact (List.getElem?_eq_some_iff.mp hb').1
 ·have hpl:p=xs0.length:=by have:=V.int.inj (of_decide_eq_true h); lia
  have dw':w'.deep≤400:=by have:=deep_kid ew; lia
  refine⟨_,rfl,a,CText,dx,_,_,rfl,ha,O.cText,O.tw,lw,.inl ⟨rfl,_,SqL.of hW⟩,_,rfl,a,CText,dx,_,_,rfl,ha,O.cText,O.tt,lk_eq _ _ _,_,rfl,bt,ys,p,x',rfl,rfl,hbt,atI_nat ex,fun b db hb hdb ne=>?_⟩
  have G1:=Go.made (X:=fun _=>False) (C:=CWord) (fs:=[]) g hb hdb ne
  have S1:=mk_same (C:=CWord) (fs:=[]) hb hdb ne
  refine⟨b,db,x',w',setM M b .mine,H₀,rfl,G1.gh,setM_same,mk_at,tx'.mono (.of S1),dw',fun M' H' v1 y n bd G2 O2 h2 tv2 c7 c8=>⟨rfl,W,xs0,_,rfl,rfl,?_,smallM' (by lia),?_⟩⟩
  ·exact O2 W _ (S1 _ _ hW) (ne_of_none hW hb)
  have hbM:M' b=some .mine:=G2.ext _ _ setM_same
  have nbW:W≠b:=ne_of_none hW hb
  have hW2:=O2 W _ (S1 _ _ hW) nbW
  have ha2:=O2 a _ (S1 _ _ ha) (ne_of_none ha hb)
  have hMW':M' W=some (.words t):=G2.ext _ _ (G1.ext _ _ hMW)
  have nba:∀ c r,M c=some r→c≠b:=fun c r hc z=>by
   obtain⟨u,e⟩:=g.has c r hc
   rw [z,hb] at e
   cases e
  have ext':∀ c r,r≠.mine→M' c=some r→setM M' b (.word w') c=some r:=fun c r hr hc=>by
   rw [setM_ne (fun z=>by rw [z,hbM] at hc; cases hc; exact hr rfl)]
   exact hc
  have g3:Gh K CFronted CLater CWord CText (setM M' b (.word w')) H₀ H':=G2.gh.role (.inr hbM) (G2.gh.new _ _ hbM) ⟨_,h2⟩ ⟨db,v1,y,n,bd,.non,h2,tv2,fun z=>by
   obtain⟨ay,an,e1,e2,⟨W1,e3⟩,W2,e4⟩:=c7 z
   exact⟨ay,an,e1,e2,⟨W1,ext' _ _ (by simp) e3⟩,W2,ext' _ _ (by simp) e4⟩,fun z=>by
   obtain⟨ab,e1,W1,e2⟩:=c8 z
   exact⟨ab,e1,W1,ext' _ _ (by simp) e2⟩,.inl rfl⟩
  have k4:Kt H' (upd H' W (.lst (xs0++[.ref b]))):=Kt.lst hW2
  have g4:=g3.put (ext' _ _ (by simp) hMW') k4 ⟨xs0++[.ref b],upd_same,by rw [List.length_append,List.length_singleton]; lia,fun j z hz=>by
   by_cases hj:j<xs0.length
   ·rw [List.getElem?_append_left hj] at hz
    obtain⟨c,w2,e1,e2,e3⟩:=hit j z hz
    exact⟨c,w2,e1,e2,ext' _ _ (by simp) (G2.ext _ _ (G1.ext _ _ e3))⟩
   ·have hj2:j<(xs0++[V.ref b]).length:=(List.getElem?_eq_some_iff.mp hz).1
    rw [List.length_append,List.length_singleton] at hj2
    have hj3:j=xs0.length:=by lia
    subst hj3
    rw [List.getElem?_append_right (Nat.le_refl _),Nat.sub_self] at hz
    cases hz
    exact⟨b,w',rfl,by rw [← hpl]; exact ew,setM_same⟩⟩
  refine hN _ _ ⟨rfl,setM M' b (.word w'),b,xs0++[.ref b],⟨fun c r hc=>?_,fun c hc _=>?_,(Kt.of S1).trans (G2.kt.trans k4),g4,fun W' t' ws' e1 e2=>?_⟩,setM_same,by rw [upd_ne (fun z=>by rw [z,hW] at ha; cases ha)]; exact ha2,upd_same,by rw [hpl]; simp⟩
  ·rw [setM_ne (nba c r hc)]
   exact G2.ext _ _ (G1.ext _ _ hc)
  ·obtain⟨u,e⟩:=g.has c _ hc
   have ncW:c≠W:=fun z=>by rw [z,hMW] at hc; cases hc
   rw [upd_ne ncW,O2 c u (S1 _ _ e) (nba c _ hc)]
   exact e.symm
  ·have e3:=O2 W' _ (S1 _ _ e2) (nba W' _ e1)
   by_cases hWW:W'=W
   ·subst hWW
    rw [hW] at e2
    cases e2
    exact⟨_,upd_same,by rw [List.length_append,List.length_singleton]; lia⟩
   ·exact⟨ws',by rw [upd_ne hWW]; exact e3,Nat.le_refl _⟩
 ·have hpl:p≠xs0.length:=fun z=>h (decide_eq_true (by rw [z]))
  obtain⟨z,ez⟩:∃ z,xs0[p]?=some z:=⟨_,List.getElem?_eq_getElem (by lia)⟩
  obtain⟨b,w2,rfl,e2,e3⟩:=hit p z ez
  rw [ew] at e2
  cases e2
  exact⟨M,b,xs0,.refl g,e3,ha,hW,ez⟩
end
end Sw92
namespace Sw92
open PySem PySem.Spec PyProof.Rows L2 Sw
section
variable {P:Program}{w:World}{K:PySem.W.Frag}{mg:Str→Option Value}{base:Heap}{f:Addr}{fd:FuncData}{CFronted CLater CWord CText CGoing CWalk:Addr}
theorem ok_work (O:Own K CFronted CLater CWord CText CGoing CWalk) {u_LAY:Value} (m_LAY:mg "LAY"=some u_LAY) (r_LAY:RelV (.int 0) u_LAY) {u_DROP:Value} (m_DROP:mg "DROP"=some u_DROP) (r_DROP:RelV (.int 1) u_DROP) {u_TWIN:Value} (m_TWIN:mg "TWIN"=some u_TWIN) (r_TWIN:RelV (.int 2) u_TWIN) {u_SWAP:Value} (m_SWAP:mg "SWAP"=some u_SWAP) (r_SWAP:RelV (.int 3) u_SWAP) {u_FRONT:Value} (m_FRONT:mg "FRONT"=some u_FRONT) (r_FRONT:RelV (.int 4) u_FRONT) {u_PART:Value} (m_PART:mg "PART"=some u_PART) (r_PART:RelV (.int 5) u_PART) {u_TURN:Value} (m_TURN:mg "TURN"=some u_TURN) (r_TURN:RelV (.int 6) u_TURN)
  {a_rest_of:Addr}{d_rest_of:FuncData} (F_rest_of:Fun K "rest_of" "rest_of" s_rest_of a_rest_of d_rest_of) (G_rest_of:FnOk P w K mg base CX0 35 a_rest_of d_rest_of ["row"] (spRestOf K CFronted CLater CWord CText)) (b_rest_of:Binds K d_rest_of ["row"] []) (m_rest_of:mg "rest_of"=some (.ref a_rest_of))
  {a_first_of:Addr}{d_first_of:FuncData} (F_first_of:Fun K "first_of" "first_of" s_first_of a_first_of d_first_of) (G_first_of:FnOk P w K mg base CX0 35 a_first_of d_first_of ["row"] (spFirstOf K CFronted CLater CWord CText)) (b_first_of:Binds K d_first_of ["row"] []) (m_first_of:mg "first_of"=some (.ref a_first_of))
  (m_Fronted:mg "Fronted"=some (.ref CFronted))
  {a_Fronted___init__:Addr}{d_Fronted___init__:FuncData} (MK_Fronted:Mk K CFronted a_Fronted___init__) (G_Fronted___init__:FnOk P w K mg base CX0 34 a_Fronted___init__ d_Fronted___init__ ["self","item","behind"] (spFrInit CFronted)) (b_Fronted___init__:Binds K d_Fronted___init__ ["self","item","behind"] [])
  (F:Fun K "work" "work" s_work f fd):FnOk P w K mg base CX0 36 f fd ["step","load","stack"] (spWork K CFronted CLater CWord CText):=by
 refine okQ F sc_work (fun vs H Q E h=>?_) (fun cdv A outer s H vs Q E hr h=>?_)
 ·obtain⟨k,y,S,l,sk,rows,M,H₀,rfl,_⟩:=h
  rfl
 obtain⟨k,y,S,l,sk,rows,M,H₀,rfl,g,hm,hS,hrs,hy,hlk,hb,hkl,q⟩:=h
 refine⟨_,(qss_one (qs_if (qt_cmpR op_eq (qv 0) (qe_glob (v:=.int 0) rfl m_LAY r_LAY) (nomark _)) (qss_one (qs_expr (qe_bm PySem.F.plainAttrs_list PySem.F.slot_list_append PySem.F.type_list_append mt_append (qv 2) (qa_cons (qv 1) qa_nil)))) (qss_one (qs_if (qt_cmpR op_eq (qv 0) (qe_glob (v:=.int 1) rfl m_DROP r_DROP) (nomark _)) (qss_one (qs_expr (qe_bm0 PySem.F.plainAttrs_list PySem.F.slot_list_pop PySem.F.type_list_pop mt_pop (qv 2)))) (qss_one (qs_if (qt_cmpR op_eq (qv 0) (qe_glob (v:=.int 2) rfl m_TWIN r_TWIN) (nomark _)) (qss_one (qs_expr (qe_bm PySem.F.plainAttrs_list PySem.F.slot_list_append PySem.F.type_list_append mt_append (qv 2) (qa_cons (qe_ix ix_list (qv 2) (qe_un un_neg qe_int) (fun _ _=>rfl)) qa_nil)))) (qss_one (qs_if (qt_cmpR op_eq (qv 0) (qe_glob (v:=.int 3) rfl m_SWAP r_SWAP) (nomark _)) (qss_one (qs_expr (qe_bm PySem.F.plainAttrs_list PySem.F.slot_list_append PySem.F.type_list_append mt_append (qv 2) (qa_cons (qe_bm PySem.F.plainAttrs_list PySem.F.slot_list_pop PySem.F.type_list_pop mt_popAt (qv 2) (qa_cons (qe_un un_neg qe_int) qa_nil)) qa_nil)))) (qss_one (qs_if (qt_cmpR op_eq (qv 0) (qe_glob (v:=.int 4) rfl m_FRONT r_FRONT) (nomark _)) (qss_cons (qs_set (i:=3) sc_work.nd rfl (Or.inl rfl) (qe_bm0 PySem.F.plainAttrs_list PySem.F.slot_list_pop PySem.F.type_list_pop mt_pop (qv 2)))
   (qss_one (qs_expr (qe_bm PySem.F.plainAttrs_list PySem.F.slot_list_append PySem.F.type_list_append mt_append (qv 2) (qa_cons (qe_make MK_Fronted G_Fronted___init__ hr rfl m_Fronted b_Fronted___init__ .nil pass0 (qa_cons (qv 3) (qa_cons (qe_bm0 PySem.F.plainAttrs_list PySem.F.slot_list_pop PySem.F.type_list_pop mt_pop (qv 2)) qa_nil))) qa_nil))))) (qss_one (qs_if (qt_cmpR op_eq (qv 0) (qe_glob (v:=.int 5) rfl m_PART r_PART) (nomark _)) (qss_cons (qs_set (i:=4) sc_work.nd rfl (Or.inl rfl) (qe_bm0 PySem.F.plainAttrs_list PySem.F.slot_list_pop PySem.F.type_list_pop mt_pop (qv 2)))
   (qss_cons (qs_expr (qe_bm PySem.F.plainAttrs_list PySem.F.slot_list_append PySem.F.type_list_append mt_append (qv 2) (qa_cons (qe_call G_rest_of hr rfl m_rest_of F_rest_of.kp b_rest_of .nil pass0 (qa_cons (qv 4) qa_nil)) qa_nil)))
   (qss_one (qs_expr (qe_bm PySem.F.plainAttrs_list PySem.F.slot_list_append PySem.F.type_list_append mt_append (qv 2) (qa_cons (qe_call G_first_of hr rfl m_first_of F_first_of.kp b_first_of .nil pass0 (qa_cons (qv 4) qa_nil)) qa_nil)))))) (qss_one (qs_if (qt_cmpR op_eq (qv 0) (qe_glob (v:=.int 6) rfl m_TURN r_TURN) (nomark _)) (qss_one (qs_expr (qe_bm PySem.F.plainAttrs_list PySem.F.slot_list_append PySem.F.type_list_append mt_append (qv 2) (qa_cons (qe_bm PySem.F.plainAttrs_list PySem.F.slot_list_pop PySem.F.type_list_pop mt_popAt (qv 2) (qa_cons (qe_un un_neg qe_int) qa_nil)) qa_nil)))) qss_nil)))))))))))))),?_⟩
 have hrl:=hrs.length
 rw [List.length_reverse] at hrl
 have hsl:sk.length≤8000010:=by
  have h1:=hb.2
  rw [T.parts_node] at h1
  have:=T.len_le_parts sk
  lia
 refine⟨_,rfl,rfl,_,rfl,ite2 (fun h=>?_) (fun h0=>?_)⟩
 ·have h:k=0:=by have:=V.int.inj (of_decide_eq_true h); lia
  subst h
  refine⟨_,rfl,.inl ⟨rfl,_,SqL.of hS⟩,_,rfl,S,rows,y,rfl,rfl,hS,smallM' (by lia),q M _ _ (Go.list g hm hS) upd_same ?_⟩
  show All2 _ (l::sk).reverse _
  rw [List.reverse_cons]
  exact All2.append (all_row (Kt.lst hS) hrs) (All2.one (.inl (hy.mono (Kt.lst hS))))
 have h0:¬ k=0:=fun z=>h0 (decide_eq_true (by rw [z]; rfl))
 refine⟨_,rfl,rfl,_,rfl,ite2 (fun h=>?_) (fun h1=>?_)⟩
 ·have h:k=1:=by have:=V.int.inj (of_decide_eq_true h); lia
  subst h
  obtain⟨a,sk0,r0,ya,rfl,rfl,h0,ha⟩:=all_last hrs (by rintro rfl; have h1:1≤sk.length:=hlk; simp at hrl; lia)
  refine⟨_,rfl,.inl ⟨rfl,_,SqL.of hS⟩,S,_,_,rfl,rfl,hS,last_snoc _ _,?_⟩
  rw [drop_snoc]
  exact q M _ _ (Go.list g hm hS) upd_same (all_row (Kt.lst hS) h0)
 have h1:¬ k=1:=fun z=>h1 (decide_eq_true (by rw [z]; rfl))
 refine⟨_,rfl,rfl,_,rfl,ite2 (fun h=>?_) (fun h2=>?_)⟩
 ·have h:k=2:=by have:=V.int.inj (of_decide_eq_true h); lia
  subst h
  obtain⟨a,sk0,r0,ya,rfl,rfl,h0,ha⟩:=all_last hrs (by rintro rfl; have h1:1≤sk.length:=hlk; simp at hrl; lia)
  refine⟨_,rfl,.inl ⟨rfl,_,SqL.of hS⟩,_,rfl,1,rfl,S,_,_,_,rfl,rfl,SqL.of hS,at_last,S,_,ya,rfl,rfl,hS,smallM' (by lia),q M _ _ (Go.list g hm hS) upd_same ?_⟩
  show All2 _ (a::a::sk0).reverse _
  rw [List.reverse_cons]
  exact All2.append (all_row (Kt.lst hS) hrs) (All2.one (ha.mono (Kt.lst hS) fun _ _ z=>z))
 have h2:¬ k=2:=fun z=>h2 (decide_eq_true (by rw [z]; rfl))
 refine⟨_,rfl,rfl,_,rfl,ite2 (fun h=>?_) (fun h3=>?_)⟩
 ·have h:k=3:=by have:=V.int.inj (of_decide_eq_true h); lia
  subst h
  obtain⟨a,c,sk0,r0,ya,yc,rfl,rfl,h0,ha,hc⟩:=all_last2 hrs hlk
  refine⟨_,rfl,.inl ⟨rfl,_,SqL.of hS⟩,_,rfl,.inl ⟨rfl,_,SqL.of hS⟩,2,rfl,S,_,-2,_,_,rfl,rfl,hS,by decide,by decide,si2 _ _ _,gt2 _ _ _,?_⟩
  rw [er2]
  refine⟨S,_,yc,rfl,rfl,upd_same,smallM' (by simp only [List.length_append,List.length_singleton] at hrl ⊢; lia),?_⟩
  rw [updU]
  refine q M _ _ (Go.list g hm hS) upd_same ?_
  have k:=Kt.lst (o:=.lst (r0++[ya]++[yc])) hS
  show All2 _ (c::a::sk0).reverse _
  rw [List.reverse_cons,List.reverse_cons]
  exact All2.append (All2.append (all_row k h0) (All2.one (ha.mono k fun _ _ z=>z))) (All2.one (hc.mono k fun _ _ z=>z))
 have h3:¬ k=3:=fun z=>h3 (decide_eq_true (by rw [z]; rfl))
 refine⟨_,rfl,rfl,_,rfl,ite2 (fun h=>?_) (fun h4=>?_)⟩
 ·have h:k=4:=by have:=V.int.inj (of_decide_eq_true h); lia
  subst h
  obtain⟨a,c,sk0,r0,ya,yc,rfl,rfl,h0,ha,hc⟩:=all_last2 hrs hlk
  refine⟨_,rfl,.inl ⟨rfl,_,SqL.of hS⟩,S,_,_,rfl,rfl,hS,last_snoc _ _,?_⟩
  rw [drop_snoc]
  refine⟨_,rfl,.inl ⟨rfl,_,SqL.of upd_same⟩,_,rfl,_,rfl,.inl ⟨rfl,_,SqL.of upd_same⟩,S,_,_,rfl,rfl,upd_same,last_snoc _ _,?_⟩
  rw [drop_snoc,updU]
  have G1:=Go.list (ys:=r0) g hm hS
  have k1:=Kt.lst (o:=.lst r0) hS
  have hS1:upd H S (.lst r0) S=some (.lst r0):=upd_same
  have h01:=all_row k1 h0
  have ha1:=ha.mono (M':=M) k1 fun _ _ z=>z
  have hc1:=hc.mono (M':=M) k1 fun _ _ z=>z
  generalize upd H S (.lst r0)=H1 at G1 k1 hS1 h01 ha1 hc1
  refine fun o dx ho hd ne=>⟨o,dx,ya,yc,rfl,mk_at,⟨rfl,S,r0,_,rfl,rfl,?_,smallM' (by simp only [List.length_append,List.length_singleton] at hrl; lia),?_⟩⟩
  ·rw [upd_ne (ne_of_none hS1 ho)]
   exact mk_same (C:=CFronted) (fs:=[]) ho hd ne _ _ hS1
  rw [mk_put]
  have S2:=mk_same (C:=CFronted) (fs:=fF ya yc) ho hd ne
  have nSo:S≠o:=ne_of_none hS1 ho
  have ro:∀ p t,M p=some (.row t)→setM M o (.row (.node (a::c.kids))) p=some (.row t):=fun p t e=>by
   rw [setM_ne (fun z=>by rw [z,G1.gh.fresh ho] at e; cases e)]
   exact e
  have G2:Go K CFronted CLater CWord CText (fun a=>a=S) M (setM M o (.row (.node (a::c.kids)))) H₀ H1 (mkO H1 o dx CFronted (fF ya yc)) :=
   Go.role G1.gh S2 ho ⟨_,mk_at⟩ (.inl ⟨dx,ya,yc,a,c.kids,mk_at,rfl,ha1.mono (.of S2) ro,by cases c; exact hc1.mono (.of S2) ro⟩)
  have hS2:=S2 _ _ hS1
  have h02:=h01.imp fun _ _ z=>z.mono (.of S2) ro
  have hm2:setM M o (.row (.node (a::c.kids))) S=some .mine:=by rw [setM_ne nSo]; exact hm
  have hMo:setM M o (.row (.node (a::c.kids))) o=some (.row (.node (a::c.kids))):=setM_same
  generalize setM M o (.row (.node (a::c.kids)))=M2 at G2 h02 hm2 hMo
  generalize mkO H1 o dx CFronted (fF ya yc)=H2 at G2 hS2 h02
  refine q M2 _ _ ((G1.trans G2).mutX hm2 rfl (Kt.lst hS2)) upd_same ?_
  show All2 _ (T.node (a::c.kids)::sk0).reverse _
  rw [List.reverse_cons]
  exact All2.append (all_row (Kt.lst hS2) h02) (All2.one (.inr ⟨o,rfl,hMo⟩))
 have h4:¬ k=4:=fun z=>h4 (decide_eq_true (by rw [z]; rfl))
 refine⟨_,rfl,rfl,_,rfl,ite2 (fun h=>?_) (fun h5=>?_)⟩
 ·have h:k=5:=by have:=V.int.inj (of_decide_eq_true h); lia
  subst h
  obtain⟨a,sk0,r0,ya,rfl,rfl,h0,ha⟩:=all_last hrs (by rintro rfl; have h1:1≤sk.length:=hlk; simp at hrl; lia)
  have da:a.deep≤400:=by
   have h1:=hb.1
   rw [T.deep_node,T.deepL_cons] at h1
   lia
  have ka:a.kids.length≤8000000:=hkl a (by simp)
  refine⟨_,rfl,.inl ⟨rfl,_,SqL.of hS⟩,S,_,_,rfl,rfl,hS,last_snoc _ _,?_⟩
  rw [drop_snoc]
  have G1:=Go.list (ys:=r0) g hm hS
  have k1:=Kt.lst (o:=.lst r0) hS
  have hS1:upd H S (.lst r0) S=some (.lst r0):=upd_same
  have h01:=all_row k1 h0
  have ha1:=ha.mono (M':=M) k1 fun _ _ z=>z
  generalize upd H S (.lst r0)=H1 at G1 k1 hS1 h01 ha1
  refine⟨_,rfl,.inl ⟨rfl,_,SqL.of hS1⟩,_,rfl,ya,a,M,H₀,rfl,G1.gh,ha1,da,ka,fun y2 M2 H2 S2 G2 r2=>?_⟩
  have hS2:=S2 _ _ hS1
  have hm2:=G2.ext _ _ hm
  have h02:=h01.imp fun _ _ z=>G2.rv z
  have ha2:=G2.rv ha1
  have G2':=G1.trans (G2.weak fun _ z=>z.elim)
  refine⟨S,r0,y2,rfl,rfl,hS2,smallM' (by simp only [List.length_append,List.length_singleton] at hrl; lia),?_⟩
  have G3:=G2'.mutX (u:=.lst (r0++[y2])) hm2 rfl (Kt.lst hS2)
  have k3:=Kt.lst (o:=.lst (r0++[y2])) hS2
  have hS3:upd H2 S (.lst (r0++[y2])) S=some (.lst (r0++[y2])):=upd_same
  have h03:=all_row k3 h02
  have ha3:=ha2.mono (M':=M2) k3 fun _ _ z=>z
  have r3:=r2.mono (M':=M2) k3 fun _ _ z=>z
  generalize upd H2 S (.lst (r0++[y2]))=H3 at G3 k3 hS3 h03 ha3 r3
  refine⟨_,rfl,.inl ⟨rfl,_,SqL.of hS3⟩,_,rfl,ya,a,M2,H₀,rfl,G3.gh,ha3,da,fun y4 H4 S4 r4=>?_⟩
  have hS4:=S4 _ _ hS3
  refine⟨S,_,y4,rfl,rfl,hS4,smallM' (by simp only [List.length_append,List.length_singleton] at hrl ⊢; lia),?_⟩
  have G4:=G3.trans (.grow G3.gh S4)
  have k5:=Kt.lst (o:=.lst (r0++[y2]++[y4])) hS4
  refine q M2 _ _ (G4.mutX hm2 rfl (Kt.lst hS4)) upd_same ?_
  show All2 _ (ats a.kids 0::loadT a::sk0).reverse _
  rw [List.reverse_cons,List.reverse_cons]
  exact All2.append (All2.append (all_row ((Kt.of S4).trans k5) h03) (All2.one (r3.mono ((Kt.of S4).trans k5) fun _ _ z=>z))) (All2.one (r4.mono k5 fun _ _ z=>z))
 have h5:¬ k=5:=fun z=>h5 (decide_eq_true (by rw [z]; rfl))
 refine⟨_,rfl,rfl,_,rfl,ite2 (fun h=>?_) (fun h6=>?_)⟩
 ·have h:k=6:=by have:=V.int.inj (of_decide_eq_true h); lia
  subst h
  obtain⟨a,c,e,sk0,r0,ya,yc,ye,rfl,rfl,h0,ha,hc,he⟩:=all_last3 hrs hlk
  refine⟨_,rfl,.inl ⟨rfl,_,SqL.of hS⟩,_,rfl,.inl ⟨rfl,_,SqL.of hS⟩,3,rfl,S,_,-3,_,_,rfl,rfl,hS,by decide,by decide,si3 _ _ _ _,gt3 _ _ _ _,?_⟩
  rw [er3]
  refine⟨S,_,ye,rfl,rfl,upd_same,smallM' (by simp only [List.length_append,List.length_singleton] at hrl ⊢; lia),?_⟩
  rw [updU]
  refine q M _ _ (Go.list g hm hS) upd_same ?_
  have k:=Kt.lst (o:=.lst (r0++[yc]++[ya]++[ye])) hS
  show All2 _ (e::a::c::sk0).reverse _
  rw [List.reverse_cons,List.reverse_cons,List.reverse_cons]
  exact All2.append (All2.append (All2.append (all_row k h0) (All2.one (hc.mono k fun _ _ z=>z))) (All2.one (ha.mono k fun _ _ z=>z))) (All2.one (he.mono k fun _ _ z=>z))
 have h6:¬ k=6:=fun z=>h6 (decide_eq_true (by rw [z]; rfl))
 refine q M H rows (.refl g) hS ?_
 rw [work_ge (show 7≤k by lia)]
 exact hrs
end
end Sw92
namespace Sw92
open PySem PySem.Spec PyProof.Rows L2 Sw
section
variable {P:Program}{w:World}{K:PySem.W.Frag}{mg:Str→Option Value}{base:Heap}{f:Addr}{fd:FuncData}{CFronted CLater CWord CText CGoing CWalk:Addr}
theorem ok_Walk_at_end (O:Own K CFronted CLater CWord CText CGoing CWalk)
  (F:Fun K "at_end" "Walk.at_end" s_Walk_at_end f fd):FnOk P w K mg base CX0 31 f fd ["self"] (spAtEnd K CFronted CLater CWord CText CGoing CWalk):=by
 refine okQ F sc_Walk_at_end (fun vs H Q E h=>?_) (fun cdv A outer s H vs Q E hr h=>?_)
 ·obtain⟨o,M,H₀,tx,sk,num,b,rfl,_⟩:=h
  rfl
 obtain⟨o,M,H₀,tx,sk,num,b,rfl,w',q⟩:=h
 refine⟨_,(qss_one (qs_ret (qe_notT (qe_fld (qv 0) rfl)))),?_⟩
 obtain⟨dx,G,S,N,gs,rows,w'⟩:=w'
 have hgl:=w'.gos.length
 rw [List.length_reverse] at hgl
 refine⟨_,rfl,o,CWalk,dx,_,_,rfl,w'.ob,O.cWalk,O.kg,lwG,!gs.isEmpty,.inl ⟨gs,SqL.of w'.hG,rfl⟩,?_⟩
 have e:(!(!gs.isEmpty))=decide (tx=[]):=by
  rw [Bool.not_not]
  cases tx with
  | nil =>
   have:gs=[]:=List.length_eq_zero_iff.mp (by simpa using hgl)
   rw [this]
   rfl
  | cons t r =>
   cases gs with
   | nil=>simp at hgl
   | cons _ _=>rfl
 rw [e]
 exact q
theorem ok_Walk_top (O:Own K CFronted CLater CWord CText CGoing CWalk)
  (F:Fun K "top" "Walk.top" s_Walk_top f fd):FnOk P w K mg base CX0 31 f fd ["self"] (spTop K CFronted CLater CWord CText CGoing CWalk):=by
 refine okQ F sc_Walk_top (fun vs H Q E h=>?_) (fun cdv A outer s H vs Q E hr h=>?_)
 ·obtain⟨o,M,H₀,tx,sk,num,b,rfl,_⟩:=h
  rfl
 obtain⟨o,M,H₀,tx,sk,num,b,rfl,w',q⟩:=h
 refine⟨_,(qss_one (qs_ret (qe_ifExp (qt_truth (qe_fld (qv 0) rfl) (fun _=>rfl)) (qe_ix ix_list (qe_fld (qv 0) rfl) (qe_un un_neg qe_int) (fun _ _=>rfl)) (qe_tup qa_nil)))),?_⟩
 obtain⟨dx,G,S,N,gs,rows,w'⟩:=w'
 refine⟨_,rfl,o,CWalk,dx,_,_,rfl,w'.ob,O.cWalk,O.ks,lwS,!rows.isEmpty,.inl ⟨rows,SqL.of w'.hS,rfl⟩,ite2 (fun h=>?_) (fun h=>?_)⟩
 ·have hne:rows≠[]:=by rintro rfl; exact absurd h (by decide)
  obtain⟨a,sk0,r0,ya,rfl,rfl,h0,ha⟩:=all_last w'.sts hne
  exact⟨_,rfl,o,CWalk,dx,_,_,rfl,w'.ob,O.cWalk,O.ks,lwS,1,rfl,S,_,_,_,rfl,rfl,SqL.of w'.hS,at_last,q _ _ (Same.refl _) ha⟩
 ·have hr:rows=[]:=by
   cases rows with
   | nil=>rfl
   | cons _ _=>exact absurd rfl h
  subst hr
  have:=all_nil w'.sts
  subst this
  refine⟨Nat.zero_le _,fun p1 g1=>?_⟩
  obtain⟨S1,t1⟩:=tupN (K:=K) (ts:=[]) g1 (TRs_nil.mpr rfl)
  exact q _ _ S1 (.inl t1)
theorem ok_Walk_tally (O:Own K CFronted CLater CWord CText CGoing CWalk) (m_tuple:mg "tuple"=none)
  (F:Fun K "tally" "Walk.tally" s_Walk_tally f fd):FnOk P w K mg base CX0 31 f fd ["self"] (spTally K CFronted CLater CWord CText CGoing CWalk):=by
 refine okQ F sc_Walk_tally (fun vs H Q E h=>?_) (fun cdv A outer s H vs Q E hr h=>?_)
 ·obtain⟨o,M,H₀,tx,sk,num,b,rfl,_⟩:=h
  rfl
 obtain⟨o,M,H₀,tx,sk,num,b,rfl,w',q⟩:=h
 refine⟨_,(qss_one (qs_ret (qe_callTy call_tuple_of rfl m_tuple bt_tuple (qa_cons (qe_fld (qv 0) rfl) qa_nil)))),?_⟩
 obtain⟨dx,G,S,N,gs,rows,w'⟩:=w'
 exact⟨_,rfl,o,CWalk,dx,_,_,rfl,w'.ob,O.cWalk,O.kn,lwN,N,_,rfl,.inl ⟨SqL.of w'.hN,fun l hl=>q _ _ (same_new hl _) (SqT.of upd_same)⟩⟩
end
end Sw92
namespace Sw92
open PySem PySem.Spec PyProof.Rows L2 Sw
section
variable {P:Program}{w:World}{K:PySem.W.Frag}{mg:Str→Option Value}{base:Heap}{f:Addr}{fd:FuncData}{CFronted CLater CWord CText CGoing CWalk:Addr}
theorem ok_Walk___init__ (O:Own K CFronted CLater CWord CText CGoing CWalk) (m_reversed:mg "reversed"=none) (m_list:mg "list"=none) {u_PLACES:Value} (m_PLACES:mg "PLACES"=some u_PLACES) (r_PLACES:RelV (.int 15) u_PLACES)
  (m_Going:mg "Going"=some (.ref CGoing))
  (m_Text:mg "Text"=some (.ref CText))
  {a_Going___init__:Addr}{d_Going___init__:FuncData} (MK_Going:Mk K CGoing a_Going___init__) (G_Going___init__:FnOk P w K mg base CX0 31 a_Going___init__ d_Going___init__ ["self","text"] (spGoInit CGoing)) (b_Going___init__:Binds K d_Going___init__ ["self","text"] [])
  {a_Text___init__:Addr}{d_Text___init__:FuncData} (MK_Text:Mk K CText a_Text___init__) (G_Text___init__:FnOk P w K mg base CX0 31 a_Text___init__ d_Text___init__ ["self","tree"] (spTxInit CText)) (b_Text___init__:Binds K d_Text___init__ ["self","tree"] [])
  (F:Fun K "__init__" "Walk.__init__" s_Walk___init__ f fd):FnOk P w K mg base CX0 33 f fd ["self","stand","budget"] (spWkInit K CFronted CLater CWord CText CGoing CWalk):=by
 refine okQ F sc_Walk___init__ (fun vs H Q E h=>?_) (fun cdv A outer s H vs Q E hr h=>?_)
 ·obtain⟨o,dx,x,tx,sk,b,M,H₀,rfl,_⟩:=h
  rfl
 obtain⟨o,dx,x,tx,sk,b,M,H₀,rfl,g,hm,ho,hx,bx,bs,q⟩:=h
 refine⟨_,(qss_cons (qs_fld (qv 0) (qe_lc rfl (lc_free (fr:=[]) (js:=[]) (sc:=defScope s_Walk___init__) rfl rfl rfl (by decide +kernel) (by decide +kernel) (by decide +kernel) (by decide +kernel) (by exact trivial) (by decide +kernel) (fun y hy=>cell_has hy)) (qi_revT rfl m_reversed (qe_ix ix_tup (qv 1) qe_int (fun _ _=>rfl))) (fun _ _ _ _ _=>(qe_make MK_Going G_Going___init__ hr rfl m_Going b_Going___init__ .nil pass0 (qa_cons (qe_make MK_Text G_Text___init__ hr rfl m_Text b_Text___init__ .nil pass0 (qa_cons (qv 0) qa_nil)) qa_nil)))) rfl)
   (qss_cons (qs_fld (qv 0) (qe_listRev rfl rfl m_list m_reversed rfl (qe_ix ix_tup (qv 1) qe_int (fun _ _=>rfl))) rfl)
   (qss_cons (qs_fld (qv 0) (qe_op op_rep (qe_lst (qa_cons qe_int qa_nil)) (qe_glob (v:=.int 15) rfl m_PLACES r_PLACES)) rfl)
   (qss_one (qs_fld (qv 0) (qv 2) rfl))))),?_⟩
 obtain⟨ax,xs,rfl,hax,hxs⟩:=TR_node.mp hx
 obtain⟨x0,r0,rfl,t0,hr⟩:=TRs_cons.mp hxs
 obtain⟨x1,r1,rfl,t1,hr1⟩:=TRs_cons.mp hr
 obtain⟨a0,ys0,rfl,h0,hy0⟩:=TR_node.mp t0
 obtain⟨a1,ys1,rfl,h1,hy1⟩:=TR_node.mp t1
 have l0:=hy0.length
 have l1:=hy1.length
 have hsl:sk.length≤8000000:=by
  have h1:=bs.2
  rw [T.parts_node] at h1
  have:=T.len_le_parts sk
  lia
 refine⟨_,rfl,ax,_,0,_,rfl,rfl,hax,atI_nat (j:=0) rfl,a0,ys0,rfl,h0,lc_revT (fun D i ys H'=>H D=none∧∃ M',Go K CFronted CLater CWord CText (fun _=>False) M M' H₀ H H'∧M' D=some .mine∧H' D=some (.lst ys)∧ys.length=i∧All2 (GoAt CGoing M' H') (tx.reverse.take i) ys∧ys.Nodup) (smallM (by have:=bx.1; lia)) (fun D hD=>⟨hD,setM M D .mine,Go.mineNew g hD,setM_same,upd_same,rfl,by rw [List.take_zero]; exact .nil,List.nodup_nil⟩) (fun D i ys H' j=>⟨j.2.choose_spec.2.2.1,j.2.choose_spec.2.2.2.1,sqT_mono j.2.choose_spec.1.kt h0⟩) (fun D i x ys H1 R hxi j hR=>?_) (fun D gs H1 j=>?_)⟩
 ·obtain⟨hD,M1,G1,mD,h1D,hyl,hgo,nd⟩:=j
  obtain⟨t,et,ht⟩:=rev_get hy0 hxi
  have hbt:B 389 8000000 t:=bx.2 t (by have:=List.mem_of_getElem? et; rw [List.mem_reverse] at this; exact this)
  refine⟨_,rfl,fun a da ha hda ne=>⟨a,da,x,rfl,mk_at,fun W hW=>⟨rfl,fun gg dg hg hdg ne2=>⟨gg,dg,a,rfl,mk_at,⟨rfl,?_⟩⟩⟩⟩⟩
  obtain⟨G2,S2,tx2⟩:=Go.newText (X:=fun _=>False) G1.gh (ht.mono G1.kt) ha hda ne hW
  generalize setM (setM M1 W (.words t)) a (.text t W)=M2 at G2 tx2
  generalize upd (upd (mkO H1 a da CText []) W (.lst [])) a (.ins CText da (fT x W))=H2 at G2 S2 hg hdg
  rw [updU,← (show mkO H2 gg dg CGoing (fG a 0)=upd (upd H2 dg (.own gg)) gg (.ins CGoing dg (fG a 0)) from rfl)]
  have G3:Go K CFronted CLater CWord CText (fun _=>False) M2 (setM M2 gg .mine) H₀ H2 (mkO H2 gg dg CGoing (fG a 0)):=Go.made G2.gh hg hdg ne2
  have S3:=mk_same (C:=CGoing) (fs:=fG a 0) hg hdg ne2
  have gn:=GoAt.new (CG:=CGoing) G2.gh tx2 hbt hg hdg ne2
  have hD3:=S3 _ _ (S2 _ _ h1D)
  have mD3:=G3.ext _ _ (G2.ext _ _ mD)
  have hnew:(.ref gg:V) ∉ ys:=fun z=>by
   obtain⟨k,hk⟩:=List.mem_iff_getElem?.mp z
   obtain⟨t',_,g',_,_,_,_,_,e,_,h2,_⟩:=hgo.get hk
   cases e
   have:=S2 _ _ h2
   rw [hg] at this
   cases this
  generalize mkO H2 gg dg CGoing (fG a 0)=H3 at G3 S3 gn hD3
  generalize setM M2 gg .mine=M3 at G3 gn mD3
  have Gl:Go K CFronted CLater CWord CText (fun c=>c=D) M3 M3 H₀ H3 (upd H3 D (.lst (ys++[.ref gg]))):=.list G3.gh mD3 hD3
  have Gs:Go K CFronted CLater CWord CText (fun c=>c=D) M1 M3 H₀ H1 (upd H3 D (.lst (ys++[.ref gg]))):=((G2.trans G3).weak fun _ z=>z.elim).trans Gl
  refine hR _ _ hD3 ⟨hD,M3,((G1.trans G2).trans G3).mutN mD3 (by rw [g.fresh hD]; simp) (Kt.lst hD3),mD3,upd_same,by rw [List.length_append,hyl]; rfl,?_,?_⟩
  ·rw [take_get et]
   exact All2.append (hgo.imp fun _ _ z=>z.go Gs (z.nl h1D) G1.gh) (All2.one (gn.go Gl (gn.nl hD3) G3.gh))
  ·refine List.nodup_append.mpr ⟨nd,by simp,fun c hc e he=>?_⟩
   rw [List.mem_singleton.mp he]
   exact fun z=>hnew (z ▸ hc)
 obtain⟨hD,M1,G1,mD,h1D,hyl,hgo,nd⟩:=j
 rw [List.take_of_length_le (by rw [List.length_reverse]; lia)] at hgo
 have ho1:H1 o=some (.ins CWalk dx []):=(G1.mine o hm id).trans ho
 have noD:o≠D:=ne_of_none ho hD
 have kt {u:HO}{Ha:Hp}{fs:List (Str×V)} (h:Ha o=some (.ins CWalk dx fs)):Kt Ha (upd Ha o u):=Kt.ins h
 refine⟨_,rfl,o,CWalk,dx,[],rfl,ho1,O.cWalk,O.kg,by show 0<1000; decide,?_⟩
 rw [pw1]
 have G2:=(G1.weak (Y:=fun c=>c=o) fun _ z=>z.elim).mutX (u:=.ins CWalk dx (w1 D)) (G1.ext _ _ hm) rfl (kt ho1)
 have Gq:Go K CFronted CLater CWord CText (fun c=>c=o) M1 M1 H₀ H1 (upd H1 o (.ins CWalk dx (w1 D))):=Go.mutX (.refl G1.gh) (G1.ext _ _ hm) rfl (kt ho1)
 have hgo2:=hgo.imp fun t x z=>z.go Gq (fun gx e z2=>by
  obtain⟨g',_,_,_,_,_,e',_,h2,_⟩:=z
  rw [e] at e'
  cases e'
  rw [z2,ho1] at h2
  have h3:=(HO.ins.inj (Option.some.inj h2)).2.2
  exact absurd (congrArg List.length h3) (by simp [fG])) G1.gh
 have h2D:upd H1 o (.ins CWalk dx (w1 D)) D=some (.lst gs):=by rw [upd_ne (Ne.symm noD)]; exact h1D
 have h2o:upd H1 o (.ins CWalk dx (w1 D)) o=some (.ins CWalk dx (w1 D)):=upd_same
 generalize upd H1 o (.ins CWalk dx (w1 D))=H2 at G2 hgo2 h2D h2o
 have hm1:=G1.ext _ _ hm
 refine⟨_,rfl,ax,_,1,_,rfl,rfl,sqT_mono G2.kt hax,atI_nat (j:=1) rfl,a1,ys1,rfl,sqT_mono G2.kt h1,fun l hl=>⟨_,rfl,o,CWalk,dx,w1 D,rfl,?_,O.cWalk,O.ks,by show 1<1000; decide,?_⟩⟩
 ·rw [upd_ne (ne_of_none h2o hl)]; exact h2o
 rw [pw2]
 have hsts:All2 (RV K M1 H2) sk.reverse ys1.reverse:=(trs_all (hy1.mono G2.kt)).rev
 have G3a:Go K CFronted CLater CWord CText (fun c=>c=o) M1 (setM M1 l .mine) H₀ H2 (upd H2 l (.lst ys1.reverse)):=Go.mineNew G2.gh hl
 have h3o:upd H2 l (.lst ys1.reverse) o=some (.ins CWalk dx (w1 D)):=by rw [upd_ne (ne_of_none h2o hl)]; exact h2o
 have h3D:upd H2 l (.lst ys1.reverse) D=some (.lst gs):=by rw [upd_ne (ne_of_none h2D hl)]; exact h2D
 have nDl:D≠l:=ne_of_none h2D hl
 have h3l:upd H2 l (.lst ys1.reverse) l=some (.lst ys1.reverse):=upd_same
 have m3l:setM M1 l .mine l=some .mine:=setM_same
 generalize upd H2 l (.lst ys1.reverse)=H3 at G3a h3o h3D h3l
 generalize setM M1 l .mine=M3 at G3a m3l
 have hm3:=G3a.ext _ _ hm1
 have G3:=G3a.mutX (u:=.ins CWalk dx (w2 D l)) hm3 rfl (kt h3o)
 have nlo:l≠o:=fun z=>by rw [z,h3o] at h3l; cases h3l
 have nog:∀ {Ma:Mp}{Ha:Hp}{fs:List (Str×V)}{t:T}{x:V},Ha o=some (.ins CWalk dx fs)→(∀ a p,fs≠fG a p)→GoAt CGoing Ma Ha t x→∀ gx,x=.ref gx→¬ gx=o:=fun hh hne z gx e z2=>by
  obtain⟨g',_,_,_,_,_,e',_,h2,_⟩:=z
  rw [e] at e'
  cases e'
  rw [z2,hh] at h2
  exact hne _ _ (HO.ins.inj (Option.some.inj h2)).2.2
 have n1:∀ a p,w1 D≠fG a p:=fun a p z=>absurd (congrArg List.length z) (by simp [fG,w1])
 have hgo4:=hgo2.imp fun t x z=>z.go G3 (nog h2o n1 z) G2.gh
 have hsts4:=hsts.imp fun _ _ z=>G3.rv z
 have h4D:upd H3 o (.ins CWalk dx (w2 D l)) D=some (.lst gs):=by rw [upd_ne (Ne.symm noD)]; exact h3D
 have h4l:upd H3 o (.ins CWalk dx (w2 D l)) l=some (.lst ys1.reverse):=by rw [upd_ne nlo]; exact h3l
 have h4o:upd H3 o (.ins CWalk dx (w2 D l)) o=some (.ins CWalk dx (w2 D l)):=upd_same
 generalize upd H3 o (.ins CWalk dx (w2 D l))=H4 at G3 hgo4 hsts4 h4D h4l h4o
 have z63:(2:Int) ^ 63=9223372036854775808:=by decide
 refine⟨(by show 1≤sizeLine; decide),fun p5 g5=>⟨p5,15,[.int 0],rfl,rfl,upd_same,by lia,by lia,(by show 1 * 15≤sizeLine; decide),fun n g6=>?_⟩⟩
 have e0:(List.replicate (15:Int).toNat [V.int 0]).flatten=zero15.map nv:=rfl
 rw [e0]
 have S5:=same_new g5 (.lst [V.int 0])
 have G5:Go K CFronted CLater CWord CText (fun c=>c=o) M3 M3 H₀ H4 (upd H4 p5 (.lst [V.int 0])):=.grow G3.gh S5
 have G6a:Go K CFronted CLater CWord CText (fun c=>c=o) M3 (setM M3 n .mine) H₀ (upd H4 p5 (.lst [V.int 0])) (upd (upd H4 p5 (.lst [V.int 0])) n (.lst (zero15.map nv))):=Go.mineNew G5.gh g6
 have S6:=S5.trans (same_new g6 (.lst (zero15.map nv)))
 have h6n:upd (upd H4 p5 (.lst [V.int 0])) n (.lst (zero15.map nv)) n=some (.lst (zero15.map nv)):=upd_same
 have m6n:setM M3 n .mine n=some .mine:=setM_same
 have n4:H4 n=none:=S5.free g6
 have G6:=G5.trans G6a
 generalize upd (upd H4 p5 (.lst [V.int 0])) n (.lst (zero15.map nv))=H6 at G6 G6a S6 h6n
 generalize setM M3 n .mine=M6 at G6 G6a m6n
 have h6o:=S6 _ _ h4o
 refine⟨_,rfl,o,CWalk,dx,w2 D l,rfl,h6o,O.cWalk,O.kn,by show 2<1000; decide,?_⟩
 rw [pw3]
 refine⟨_,rfl,_,rfl,o,CWalk,dx,w3 D l n,rfl,upd_same,O.cWalk,O.kl,by show 3<1000; decide,?_⟩
 rw [pw4,updU]
 have hm6:=G6.ext _ _ hm3
 have G7:=G6.mutX (u:=.ins CWalk dx (fW D l n b)) hm6 rfl (kt h6o)
 have n2:∀ a p,w2 D l≠fG a p:=fun a p z=>by
  have h1:((Str.ofString "goings",V.ref D):Str×V)=(Str.ofString "text",V.ref a):=(List.cons.inj z).1
  have h2:Str.ofString "goings"=Str.ofString "text":=congrArg Prod.fst h1
  exact absurd h2 (by decide +kernel)
 have hgo7:=hgo4.imp fun t x z=>z.go G7 (nog h4o n2 z) G3.gh
 have hsts7:=hsts4.imp fun _ _ z=>G7.rv z
 have nno:n≠o:=fun z=>by rw [z,h6o] at h6n; cases h6n
 have mD6:=G6.ext _ _ (G3a.ext _ _ mD)
 exact q M6 _ ⟨dx,D,l,n,gs,ys1.reverse,G7.gh,upd_same,hm6,mD6,G6.ext _ _ m3l,m6n,by rw [upd_ne (Ne.symm noD)]; exact S6 _ _ h4D,by rw [upd_ne nlo]; exact S6 _ _ h4l,by rw [upd_ne nno]; exact h6n,hgo7,hsts7,rfl,nDl,ne_of_none h4D n4,ne_of_none h4l n4,nd⟩
end
end Sw92
namespace Sw92
open PySem PySem.Spec PyProof.Rows L2 Sw
section
variable {P:Program}{w:World}{K:PySem.W.Frag}{mg:Str→Option Value}{base:Heap}{f:Addr}{fd:FuncData}{CFronted CLater CWord CText CGoing CWalk:Addr}
theorem ok_Walk_move (O:Own K CFronted CLater CWord CText CGoing CWalk) {u_SHUT:Value} (m_SHUT:mg "SHUT"=some u_SHUT) (r_SHUT:RelV (.int 12) u_SHUT) {u_WHILE_INTO:Value} (m_WHILE_INTO:mg "WHILE_INTO"=some u_WHILE_INTO) (r_WHILE_INTO:RelV (.int 9) u_WHILE_INTO) {u_BODIES:Value} (m_BODIES:mg "BODIES"=some u_BODIES) (r_BODIES:RelV (.int 14) u_BODIES) {u_FORK_YES:Value} (m_FORK_YES:mg "FORK_YES"=some u_FORK_YES) (r_FORK_YES:RelV (.int 7) u_FORK_YES) {u_FORK_NO:Value} (m_FORK_NO:mg "FORK_NO"=some u_FORK_NO) (r_FORK_NO:RelV (.int 8) u_FORK_NO)
  {a_work:Addr}{d_work:FuncData} (F_work:Fun K "work" "work" s_work a_work d_work) (G_work:FnOk P w K mg base CX0 36 a_work d_work ["step","load","stack"] (spWork K CFronted CLater CWord CText)) (b_work:Binds K d_work ["step","load","stack"] []) (m_work:mg "work"=some (.ref a_work))
  (m_Going:mg "Going"=some (.ref CGoing))
  {a_Word_body_parts:Addr}{d_Word_body_parts:FuncData} (M_Word_body_parts:Meth K CWord "body_parts" a_Word_body_parts) (G_Word_body_parts:FnOk P w K mg base CX0 36 a_Word_body_parts d_Word_body_parts ["self"] (spBodyP K CFronted CLater CWord CText)) (b_Word_body_parts:Binds K d_Word_body_parts ["self"] [])
  {a_Going___init__:Addr}{d_Going___init__:FuncData} (MK_Going:Mk K CGoing a_Going___init__) (G_Going___init__:FnOk P w K mg base CX0 35 a_Going___init__ d_Going___init__ ["self","text"] (spGoInit CGoing)) (b_Going___init__:Binds K d_Going___init__ ["self","text"] [])
  (F:Fun K "move" "Walk.move" s_Walk_move f fd):FnOk P w K mg base CX0 37 f fd ["self","step","going","word"] (spMove K CFronted CLater CWord CText CGoing CWalk):=by
 refine okQ F sc_Walk_move (fun vs H Q E h=>?_) (fun cdv A outer s H vs Q E hr h=>?_)
 ·obtain⟨o,dx,G,S,N,gs0,g,rows,p,rest,sp,num,b,k,wv,M,H₀,rfl,_⟩:=h
  rfl
 obtain⟨o,dx,G,S,N,gs0,g,rows,p,rest,sp,num,b,k,wv,M,H₀,rfl,w0,hlk,hb,hkl,hrest,h⟩:=h
 refine⟨_,(qss_cons (qs_if (qt_cmpR op_eq (qv 1) (qe_glob (v:=.int 12) rfl m_SHUT r_SHUT) (nomark _)) (qss_cons (qs_expr (qe_bm0 PySem.F.plainAttrs_list PySem.F.slot_list_pop PySem.F.type_list_pop mt_pop (qe_fld (qv 0) rfl)))
   (qss_one qs_retN)) qss_nil)
   (qss_cons (qs_if (qt_cmpR op_eq (qv 1) (qe_glob (v:=.int 9) rfl m_WHILE_INTO r_WHILE_INTO) (nomark _)) (qss_cons (qs_augS (qe_fld (qv 0) rfl) (qe_glob (v:=.int 14) rfl m_BODIES r_BODIES) get_list (qe_meth0 (qv 3) O.cWord M_Word_body_parts G_Word_body_parts hr b_Word_body_parts .nil pass0) ip_add set_list)
   (qss_cons (qs_expr (qe_bm PySem.F.plainAttrs_list PySem.F.slot_list_append PySem.F.type_list_append mt_append (qe_fld (qv 0) rfl) (qa_cons (qe_make MK_Going G_Going___init__ hr rfl m_Going b_Going___init__ .nil pass0 (qa_cons (qe_fld (qv 3) rfl) qa_nil)) qa_nil)))
   (qss_one qs_retN))) qss_nil)
   (qss_cons (qs_fldaug (qv 2) qe_int in_add)
   (qss_one (qs_if (qt_cmpR op_eq (qv 1) (qe_glob (v:=.int 7) rfl m_FORK_YES r_FORK_YES) (nomark _)) (qss_one (qs_expr (qe_bm PySem.F.plainAttrs_list PySem.F.slot_list_append PySem.F.type_list_append mt_append (qe_fld (qv 0) rfl) (qa_cons (qe_make MK_Going G_Going___init__ hr rfl m_Going b_Going___init__ .nil pass0 (qa_cons (qe_fld (qv 3) rfl) qa_nil)) qa_nil)))) (qss_one (qs_if (qt_cmpR op_eq (qv 1) (qe_glob (v:=.int 8) rfl m_FORK_NO r_FORK_NO) (nomark _)) (qss_one (qs_expr (qe_bm PySem.F.plainAttrs_list PySem.F.slot_list_append PySem.F.type_list_append mt_append (qe_fld (qv 0) rfl) (qa_cons (qe_make MK_Going G_Going___init__ hr rfl m_Going b_Going___init__ .nil pass0 (qa_cons (qe_fld (qv 3) rfl) qa_nil)) qa_nil)))) (qss_one (qs_expr (qe_call G_work hr rfl m_work F_work.kp b_work .nil pass0 (qa_cons (qv 1) (qa_cons (qe_fld (qv 3) rfl) (qa_cons (qe_fld (qv 0) rfl) qa_nil))))))))))))),?_⟩
 have hgl:=w0.gos.length
 rw [List.length_reverse,List.length_cons,List.length_append,List.length_singleton] at hgl
 rcases h with⟨rfl,q⟩ | ⟨w',ws,bw,tx',s',num',rfl,rfl,hbw,rdy,mv,bx',hz,q⟩
 ·refine⟨_,rfl,rfl,_,rfl,ite2 (fun _=>?_) (fun h=>absurd (by decide) h)⟩
  have hgo:=w0.gos
  rw [List.reverse_cons] at hgo
  obtain⟨gs1,y,e1,hg0,_⟩:=All2.snoc hgo
  obtain⟨rfl,_⟩:=List.append_inj' e1 rfl
  refine⟨_,rfl,o,CWalk,dx,_,_,rfl,w0.ob,O.cWalk,O.kg,lwG,.inl ⟨rfl,_,SqL.of w0.hG⟩,G,_,_,rfl,rfl,w0.hG,last_snoc _ _,?_⟩
  rw [drop_snoc]
  exact q M _ ⟨dx,G,S,N,gs0,rows,w0.setG hg0 (List.nodup_append.mp w0.nd).1⟩
 have hw:=w0.gh.ok bw _ hbw
 have n12:¬ k=12:=fun z=>by
  rcases mv with⟨h,_⟩ | ⟨h,_⟩ | ⟨h,_⟩ | ⟨h,_⟩ <;> lia
 refine⟨_,rfl,rfl,_,rfl,ite2 (fun h=>absurd (by have:=V.int.inj (of_decide_eq_true h); lia) n12) (fun _=>?_)⟩
 dsimp only [tNext]
 rcases mv with⟨rfl,s8,rfl,rfl,rfl⟩ | mv
 ·refine⟨_,rfl,rfl,_,rfl,ite2 (fun _=>?_) (fun h=>absurd (by decide) h)⟩
  obtain⟨dw,v,y,n,bd,sz,hw1,tv,c7,c8,hs⟩:=hw
  refine⟨_,rfl,o,CWalk,dx,_,_,rfl,w0.ob,O.cWalk,O.kn,lwN,N,_,_,_,rfl,rfl,SqL.of w0.hN,at_nv (k:=14) w0.n15 (by lia),_,rfl,bw,dw,_,rfl,hw1,ldNo (by decide +kernel) (by decide +kernel) (by decide +kernel) (by decide +kernel) (by decide +kernel) (by decide +kernel),bw,w',M,H₀,rfl,w0.gh,hbw,hz,fun H1 G1=>⟨_,_,rfl,rfl,N,_,_,14,rfl,rfl,(w0.go G1).hN,ixN_nat (j:=14) (by rw [List.length_map,w0.n15]; lia),?_⟩⟩
  rw [setN_eq]
  have w1:=(w0.go G1).setN (num':=num.set 14 (num.getD 14 0+(loadT w').parts)) (by rw [List.length_set]; exact w0.n15)
  generalize upd H1 N (.lst ((num.set 14 (num.getD 14 0+(loadT w').parts)).map nv))=H2 at w1
  obtain⟨dw,v,y,n,bd,sz,hw1,tv,c7,c8,hs⟩:=w1.gh.ok bw _ hbw
  obtain⟨ab,rfl,htx⟩:=c8 s8
  refine⟨_,rfl,o,CWalk,dx,_,_,rfl,w1.ob,O.cWalk,O.kg,lwG,.inl ⟨rfl,_,SqL.of w1.hG⟩,_,rfl,bw,CWord,dw,_,_,rfl,hw1,O.cWord,O.wb,ldB,fun gg dg hg hdg ne=>⟨gg,dg,ab,rfl,mk_at,⟨rfl,G,gs0++[.ref g],_,rfl,rfl,?_,?_,?_⟩⟩⟩
  ·rw [updU]
   exact mk_same (C:=CGoing) (fs:=fG ab 0) hg hdg ne _ _ w1.hG
  ·exact smallM' (by simp only [List.length_append,List.length_singleton]; lia)
  rw [updU,← (show mkO H2 gg dg CGoing (fG ab 0)=upd (upd H2 dg (.own gg)) gg (.ins CGoing dg (fG ab 0)) from rfl)]
  obtain⟨k1,k2,k3⟩:=w1.newG htx (bx'.2 _ (by simp)) hg hdg ne
  exact q _ _ ⟨dx,G,S,N,_,rows,k1.push k2 k3⟩
 have n9:¬ k=9:=fun z=>by
  rcases mv with⟨h,_⟩ | ⟨h,_⟩ | ⟨h,_⟩ <;> lia
 refine⟨_,rfl,rfl,_,rfl,ite2 (fun h=>absurd (by have:=V.int.inj (of_decide_eq_true h); lia) n9) (fun _=>?_)⟩
 dsimp only [tNext]
 obtain⟨dg,a,W,j,tt,wl,mg,hg,ma,hW,hj,hdr,hbt⟩:=rdy
 refine⟨_,rfl,g,CGoing,dg,_,_,rfl,hg,O.cGoing,O.gp,lgP,_,_,rfl,rfl,dg,_,hg,by show 2<1000; decide,?_⟩
 rw [show putF "place" (.int ((j:Int)+1)) (fG a j)=fG a (j+1) from pgP (q:=j+1)]
 have w1:=w0.onto mg hg ma hW hj hdr hbt
 generalize upd H g (.ins CGoing dg (fG a (j+1)))=H1 at w1
 obtain⟨dw,v,y,n,bd,sz,hw1,tv,c7,c8,hs⟩:=w1.gh.ok bw _ hbw
 rcases mv with⟨rfl,s7,rfl,rfl,rfl⟩ | ⟨rfl,s7,rfl,rfl,rfl⟩ | ⟨hk,rfl,rfl,rfl⟩
 ·refine⟨_,rfl,rfl,_,rfl,ite2 (fun _=>?_) (fun h=>absurd (by decide) h)⟩
  obtain⟨ay,an,rfl,rfl,hty,htn⟩:=c7 s7
  refine⟨_,rfl,o,CWalk,dx,_,_,rfl,w1.ob,O.cWalk,O.kg,lwG,.inl ⟨rfl,_,SqL.of w1.hG⟩,_,rfl,bw,CWord,dw,_,_,rfl,hw1,O.cWord,O.wy,ldY,fun gg dg hg hdg ne=>⟨gg,dg,ay,rfl,mk_at,⟨rfl,G,gs0++[.ref g],_,rfl,rfl,?_,?_,?_⟩⟩⟩
  ·rw [updU]
   exact mk_same (C:=CGoing) (fs:=fG ay 0) hg hdg ne _ _ w1.hG
  ·exact smallM' (by simp only [List.length_append,List.length_singleton]; lia)
  rw [updU,← (show mkO H1 gg dg CGoing (fG ay 0)=upd (upd H1 dg (.own gg)) gg (.ins CGoing dg (fG ay 0)) from rfl)]
  obtain⟨k1,k2,k3⟩:=w1.newG hty (bx'.2 _ (by simp)) hg hdg ne
  exact q _ _ ⟨dx,G,S,N,_,rows,k1.push k2 k3⟩
 ·refine⟨_,rfl,rfl,_,rfl,ite2 (fun h=>absurd h (by decide)) (fun _=>?_)⟩
  refine⟨_,rfl,rfl,_,rfl,ite2 (fun _=>?_) (fun h=>absurd (by decide) h)⟩
  obtain⟨ay,an,rfl,rfl,hty,htn⟩:=c7 s7
  refine⟨_,rfl,o,CWalk,dx,_,_,rfl,w1.ob,O.cWalk,O.kg,lwG,.inl ⟨rfl,_,SqL.of w1.hG⟩,_,rfl,bw,CWord,dw,_,_,rfl,hw1,O.cWord,O.wn,ldN,fun gg dg hg hdg ne=>⟨gg,dg,an,rfl,mk_at,⟨rfl,G,gs0++[.ref g],_,rfl,rfl,?_,?_,?_⟩⟩⟩
  ·rw [updU]
   exact mk_same (C:=CGoing) (fs:=fG an 0) hg hdg ne _ _ w1.hG
  ·exact smallM' (by simp only [List.length_append,List.length_singleton]; lia)
  rw [updU,← (show mkO H1 gg dg CGoing (fG an 0)=upd (upd H1 dg (.own gg)) gg (.ins CGoing dg (fG an 0)) from rfl)]
  obtain⟨k1,k2,k3⟩:=w1.newG htn (bx'.2 _ (by simp)) hg hdg ne
  exact q _ _ ⟨dx,G,S,N,_,rows,k1.push k2 k3⟩
 ·refine⟨_,rfl,rfl,_,rfl,ite2 (fun h=>absurd (show k=7 by have:=V.int.inj (of_decide_eq_true h); lia) (by lia)) (fun _=>?_)⟩
  refine⟨_,rfl,rfl,_,rfl,ite2 (fun h=>absurd (show k=8 by have:=V.int.inj (of_decide_eq_true h); lia) (by lia)) (fun _=>?_)⟩
  exact⟨_,rfl,_,rfl,bw,CWord,dw,_,_,rfl,hw1,O.cWord,O.wl,ldL,_,rfl,o,CWalk,dx,_,_,rfl,w1.ob,O.cWalk,O.ks,lwS,k,v,S,loadT w',sp,rows,M,H₀,rfl,w1.gh,w1.mS,w1.hS,w1.sts,tv,hlk,hb,hkl,fun M' H' rows' G' hS' hr'=>q M' H' ⟨dx,G,S,N,_,rows',w1.setS G' hS' hr'⟩⟩
end
end Sw92
namespace Sw92
open PySem PySem.Spec PyProof.Rows L2 Sw
section
variable {P:Program}{w:World}{K:PySem.W.Frag}{mg:Str→Option Value}{base:Heap}{f:Addr}{fd:FuncData}{CFronted CLater CWord CText CGoing CWalk:Addr}
theorem ok_Walk_step (O:Own K CFronted CLater CWord CText CGoing CWalk) (m_len:mg "len"=none) {u_SHUT:Value} (m_SHUT:mg "SHUT"=some u_SHUT) (r_SHUT:RelV (.int 12) u_SHUT) {u_TWIN:Value} (m_TWIN:mg "TWIN"=some u_TWIN) (r_TWIN:RelV (.int 2) u_TWIN) {u_COPIED:Value} (m_COPIED:mg "COPIED"=some u_COPIED) (r_COPIED:RelV (.int 13) u_COPIED) {a_LOOKS:Addr} (m_LOOKS:mg "LOOKS"=some (.ref a_LOOKS)) (q_LOOKS:∀ H,SqT K H a_LOOKS [.int 0,.int 1,.int 1,.int 2,.int 2,.int 1,.int 3,.int 1,.int 1,.int 1,.int 1,.int 0,.int 0])
  {a_place_of:Addr}{d_place_of:FuncData} (F_place_of:Fun K "place_of" "place_of" s_place_of a_place_of d_place_of) (G_place_of:FnOk P w K mg base CX0 37 a_place_of d_place_of ["sort","top"] (spPlace K CFronted CLater CWord CText)) (b_place_of:Binds K d_place_of ["sort","top"] []) (m_place_of:mg "place_of"=some (.ref a_place_of))
  {a_parts_within:Addr}{d_parts_within:FuncData} (F_parts_within:Fun K "parts_within" "parts_within" s_parts_within a_parts_within d_parts_within) (G_parts_within:FnOk P w K mg base CX0 37 a_parts_within d_parts_within ["row","most"] (spPartsW K CFronted CLater CWord CText)) (b_parts_within:Binds K d_parts_within ["row","most"] []) (m_parts_within:mg "parts_within"=some (.ref a_parts_within))
  {a_Text_word_at:Addr}{d_Text_word_at:FuncData} (M_Text_word_at:Meth K CText "word_at" a_Text_word_at) (G_Text_word_at:FnOk P w K mg base CX0 37 a_Text_word_at d_Text_word_at ["self","place"] (spWordAt K CFronted CLater CWord CText)) (b_Text_word_at:Binds K d_Text_word_at ["self","place"] [])
  {a_Walk_top:Addr}{d_Walk_top:FuncData} (M_Walk_top:Meth K CWalk "top" a_Walk_top) (G_Walk_top:FnOk P w K mg base CX0 37 a_Walk_top d_Walk_top ["self"] (spTop K CFronted CLater CWord CText CGoing CWalk)) (b_Walk_top:Binds K d_Walk_top ["self"] [])
  {a_Walk_move:Addr}{d_Walk_move:FuncData} (M_Walk_move:Meth K CWalk "move" a_Walk_move) (G_Walk_move:FnOk P w K mg base CX0 37 a_Walk_move d_Walk_move ["self","step","going","word"] (spMove K CFronted CLater CWord CText CGoing CWalk)) (b_Walk_move:Binds K d_Walk_move ["self","step","going","word"] [])
  (F:Fun K "step" "Walk.step" s_Walk_step f fd):FnOk P w K mg base CX0 38 f fd ["self"] (spStepW K CFronted CLater CWord CText CGoing CWalk):=by
 refine okQ F sc_Walk_step (fun vs H Q E h=>?_) (fun cdv A outer s H vs Q E hr h=>?_)
 ·obtain⟨o,M,H₀,tx,sk,num,b,rfl,_⟩:=h
  rfl
 obtain⟨o,M,H₀,tx,sk,num,b,rfl,w0,hne,bx,bs,hnx,qf,qt⟩:=h
 refine⟨_,(qss_cons (qs_set (i:=1) sc_Walk_step.nd rfl (Or.inl rfl) (qe_ix ix_list (qe_fld (qv 0) rfl) (qe_un un_neg qe_int) (fun _ _=>rfl)))
   (qss_cons (qs_set (i:=2) sc_Walk_step.nd rfl (Or.inl rfl) (qe_meth (qe_fld (qv 1) rfl) O.cText M_Text_word_at G_Text_word_at hr b_Text_word_at .nil pass0 (qa_cons (qe_fld (qv 1) rfl) qa_nil)))
   (qss_cons (qs_set (i:=3) sc_Walk_step.nd rfl (Or.inl rfl) (qe_ifExp (qt_cmpR op_isN (qv 2) qe_non (nomark _)) (qe_glob (v:=.int 12) rfl m_SHUT r_SHUT) (qe_call G_place_of hr rfl m_place_of F_place_of.kp b_place_of .nil pass0 (qa_cons (qe_fld (qv 2) rfl) (qa_cons (qe_meth0 (qv 0) O.cWalk M_Walk_top G_Walk_top hr b_Walk_top .nil pass0) qa_nil)))))
   (qss_cons (qs_set (i:=4) sc_Walk_step.nd rfl (Or.inl rfl) (qe_ifExp (qt_cmpR op_eq (qv 3) (qe_glob (v:=.int 2) rfl m_TWIN r_TWIN) (nomark _)) (qe_call G_parts_within hr rfl m_parts_within F_parts_within.kp b_parts_within .nil pass0 (qa_cons (qe_meth0 (qv 0) O.cWalk M_Walk_top G_Walk_top hr b_Walk_top .nil pass0) (qa_cons (qe_fld (qv 0) rfl) qa_nil))) qe_int))
   (qss_cons (qs_if (qt_cmpR op_gt (qv 4) (qe_fld (qv 0) rfl) (nomark _)) (qss_one (qs_ret qe_bl)) qss_nil)
   (qss_cons (qs_fldaug (qv 0) (qv 4) in_sub)
   (qss_cons (qs_augS (qe_fld (qv 0) rfl) (qv 3) get_list qe_int ip_add set_list)
   (qss_cons (qs_if (qt_cmpR op_eq (qv 3) (qe_glob (v:=.int 2) rfl m_TWIN r_TWIN) (nomark _)) (qss_one (qs_augS (qe_fld (qv 0) rfl) (qe_glob (v:=.int 13) rfl m_COPIED r_COPIED) get_list (qv 4) ip_add set_list)) qss_nil)
   (qss_cons (qs_while PassesOwn.never (qt_cmpR op_lt (qe_callB call_len_seq rfl m_len bt_len (qa_cons (qe_fld (qv 0) rfl) qa_nil)) (qe_ix ix_tup (qe_glob (v:=.ref a_LOOKS) rfl m_LOOKS rfl) (qv 3) (fun _ _=>rfl)) (nomark _)) (qss_one (qs_expr (qe_bm PySem.F.plainAttrs_list PySem.F.slot_list_insert PySem.F.type_list_insert mt_insert0 (qe_fld (qv 0) rfl) (qa_cons qe_int (qa_cons (qe_tup qa_nil) qa_nil))))))
   (qss_cons (qs_expr (qe_meth (qv 0) O.cWalk M_Walk_move G_Walk_move hr b_Walk_move .nil pass0 (qa_cons (qv 3) (qa_cons (qv 1) (qa_cons (qv 2) qa_nil)))))
   (qss_one (qs_ret qe_bl)))))))))))),?_⟩
 obtain⟨dx,G,S,N,gs,rows,w0⟩:=w0
 obtain⟨p,rest,rfl⟩:∃ p rest,tx=p::rest:=by
  cases tx with
  | nil=>exact absurd rfl hne
  | cons p rest=>exact⟨p,rest,rfl⟩
 have hgo:=w0.gos
 rw [List.reverse_cons] at hgo
 obtain⟨gs0,y,rfl,hg0,hgp⟩:=All2.snoc hgo
 obtain⟨g,dg,a,W,j,tt,rfl,mg,hg,ma,hjk,⟨wl,hW,hjw⟩,rfl,hbt⟩:=hgp
 have h12:=step_le (tx:=T.node (tt.kids.drop j)::rest) (s:=sk)
 have htl:tt.kids.length≤8000000:=by
  have h1:=hbt.2
  have h2:=T.parts_kids tt
  have h3:=T.len_le_parts tt.kids
  lia
 have hsp:T.partsL sk≤7999999:=by
  have h1:=bs.2
  rw [T.parts_node] at h1
  lia
 have hsl:=T.len_le_parts sk
 have hrl0:rest.length+1≤8000000:=bx.1
 have bt0:=B_ats bs 0
 refine setQ (fun v=>[some (.ref o),some v,none,none,none]) (fun _=>rfl) (fun v H'=>v=.ref g∧H'=H) (fun R r=>⟨_,rfl,o,CWalk,dx,_,_,rfl,w0.ob,O.cWalk,O.kg,lwG,1,rfl,G,_,_,_,rfl,rfl,SqL.of w0.hG,at_last,r _ _ ⟨rfl,rfl⟩⟩) (fun v1 H1 h1=>?_)
 obtain⟨rfl,rfl⟩:=h1
 refine setQ (fun v=>[some (.ref o),some (.ref g),some v,none,none]) (fun _=>rfl) (fun v H'=>∃ M',WkX K CFronted CLater CWord CText CGoing CWalk M' H₀ H' o dx G S N (gs0++[.ref g]) rows (T.node (tt.kids.drop j)::rest) sk num b∧((v=.non∧tt.kids.drop j=[])∨∃ w' ws' bw,v=.ref bw∧M' bw=some (.word w')∧Rdy CGoing M' H' g w' ws'∧tt.kids.drop j=w'::ws')) (fun R r=>?_) (fun v2 H2 h2=>?_)
 ·obtain⟨da,va,ha,_,_⟩:=w0.gh.ok a _ ma
  refine⟨_,rfl,g,CGoing,dg,_,_,rfl,hg,O.cGoing,O.gt,lgT,a,da,_,rfl,ha,ltNo (by decide +kernel) (by decide +kernel),_,rfl,g,CGoing,dg,_,_,rfl,hg,O.cGoing,O.gp,lgP,a,tt,W,j,M,H₀,wl,rfl,w0.gh,ma,hW,hjw,hjk,by have:=hbt.1; lia,htl,fun e=>r _ _ ⟨M,w0,.inl ⟨rfl,by rw [e]; exact List.drop_length⟩⟩,fun w' ew bw M' H' G' hb' hl'=>?_⟩
  obtain⟨_,_,_,_,hMW⟩:=w0.gh.ok a _ ma
  obtain⟨wl',e1,e2⟩:=G'.wds W _ wl hMW hW
  exact r _ _ ⟨M',w0.go G',.inr ⟨w',tt.kids.drop (j+1),bw,rfl,hb',⟨dg,a,W,j,tt,wl',G'.ext _ _ mg,(G'.mine g mg id).trans hg,G'.ext _ _ ma,e1,hl' wl' e1,drop_cons ew,hbt⟩,drop_cons ew⟩⟩
 obtain⟨M2,w2,hv⟩:=h2
 refine setQ (fun v=>[some (.ref o),some (.ref g),some v2,some v,none]) (fun _=>rfl) (fun v H'=>v=.int (stepT (T.node (tt.kids.drop j)::rest) sk:Nat)∧Same H2 H') (fun R r=>?_) (fun v3 H3 h3=>?_)
 ·rcases hv with⟨rfl,he⟩ | ⟨w',ws',bw,rfl,hbw,rdy,he⟩
  ·refine⟨_,rfl,rfl,_,rfl,iteT (r _ _ ⟨?_,Same.refl _⟩)⟩
   rw [step_nil (show (ats (T.node (tt.kids.drop j)::rest) 0).kids=[] from he)]
   rfl
  ·obtain⟨dw,v,y,n,bd,sz,hw1,tv,c7,c8,hs⟩:=w2.gh.ok bw _ hbw
   refine⟨_,rfl,rfl,_,rfl,iteF ⟨_,rfl,bw,CWord,dw,_,_,rfl,hw1,O.cWord,O.wk,ldK,_,rfl,o,dx,_,rfl,w2.ob,lwNo (by decide +kernel) (by decide +kernel) (by decide +kernel) (by decide +kernel),o,M2,H₀,_,_,_,_,rfl,⟨dx,G,S,N,_,_,w2⟩,fun x H3 S3 hx=>⟨_,x,ats sk 0,M2,H₀,rfl,w2.gh.grow S3,hx,by have:=bt0.1; lia,fun H4 S4=>r _ _ ⟨?_,S3.trans S4⟩⟩⟩⟩
   rw [step_place (show (T.node (tt.kids.drop j)).kids=w'::ws' from he)]
 obtain⟨rfl,S3⟩:=h3
 have w3:=w2.grow S3
 have hv3:(v2=.non∧tt.kids.drop j=[])∨∃ w' ws' bw,v2=.ref bw∧M2 bw=some (.word w')∧Rdy CGoing M2 H3 g w' ws'∧tt.kids.drop j=w'::ws':=by
  rcases hv with hv | ⟨w',ws',bw,e1,e2,e3,e4⟩
  ·exact .inl hv
  ·exact .inr ⟨w',ws',bw,e1,e2,e3.go (.grow w2.gh S3:Go K CFronted CLater CWord CText (fun _=>False) M2 M2 H₀ H2 H3) id w2.gh,e4⟩
 refine setQ (fun v=>[some (.ref o),some (.ref g),some v2,some (.int (stepT (T.node (tt.kids.drop j)::rest) sk:Nat)),some v]) (fun _=>rfl) (fun v H'=>Same H3 H'∧∃ c:Nat,v=.int (c:Int)∧(costT (T.node (tt.kids.drop j)::rest) sk≤b→c=costT (T.node (tt.kids.drop j)::rest) sk)∧(b<costT (T.node (tt.kids.drop j)::rest) sk→b<c)) (fun R r=>?_) (fun v4 H4 h4=>?_)
 ·refine⟨_,rfl,rfl,_,rfl,ite2 (fun h=>?_) (fun h=>?_)⟩
  ·have h2:stepT (T.node (tt.kids.drop j)::rest) sk=2:=by have:=V.int.inj (of_decide_eq_true h); lia
   have hc:costT (T.node (tt.kids.drop j)::rest) sk=(ats sk 0).parts:=by unfold costT; rw [if_pos h2]
   refine⟨_,rfl,o,dx,_,rfl,w3.ob,lwNo (by decide +kernel) (by decide +kernel) (by decide +kernel) (by decide +kernel),o,M2,H₀,_,_,_,_,rfl,⟨dx,G,S,N,_,_,w3⟩,fun x H4 S4 hx=>⟨_,rfl,o,CWalk,dx,_,_,rfl,(w3.grow S4).ob,O.cWalk,O.kl,lwL,x,ats sk 0,M2,H₀,b,rfl,w3.gh.grow S4,hx,by have:=bt0.2; lia,fun c H5 S5 c1 c2=>r _ _ ⟨S4.trans S5,c,rfl,by rw [hc]; exact c1,by rw [hc]; exact c2⟩⟩⟩
  ·have h2:¬ stepT (T.node (tt.kids.drop j)::rest) sk=2:=fun z=>h (decide_eq_true (by rw [z]; rfl))
   have hc:costT (T.node (tt.kids.drop j)::rest) sk=1:=by unfold costT; rw [if_neg h2]
   exact r _ _ ⟨Same.refl _,1,rfl,fun _=>hc.symm,fun z=>by rw [hc] at z; exact z⟩
 obtain⟨S4,c,rfl,c1,c2⟩:=h4
 have w4:=w3.grow S4
 have hv4:(v2=.non∧tt.kids.drop j=[])∨∃ w' ws' bw,v2=.ref bw∧M2 bw=some (.word w')∧Rdy CGoing M2 H4 g w' ws'∧tt.kids.drop j=w'::ws':=by
  rcases hv3 with hv | ⟨w',ws',bw,e1,e2,e3,e4⟩
  ·exact .inl hv
  ·exact .inr ⟨w',ws',bw,e1,e2,e3.go (.grow w3.gh S4:Go K CFronted CLater CWord CText (fun _=>False) M2 M2 H₀ H3 H4) id w3.gh,e4⟩
 refine⟨_,rfl,_,rfl,o,CWalk,dx,_,_,rfl,w4.ob,O.cWalk,O.kl,lwL,_,_,rfl,rfl,_,rfl,ite2 (fun h=>?_) (fun h=>?_)⟩
 ·have hbc:b<c:=by have:=of_decide_eq_true h; lia
  have hb:b<costT (T.node (tt.kids.drop j)::rest) sk:=by
   rcases Nat.lt_or_ge b (costT (T.node (tt.kids.drop j)::rest) sk) with z | z
   ·exact z
   ·have:=c1 z; lia
  exact qf hb M2 H4 ⟨dx,G,S,N,_,_,w4⟩
 have hcb:c≤b:=by
  have:¬ ((b:Int)<(c:Int)):=fun z=>h (decide_eq_true z)
  lia
 have hcost:costT (T.node (tt.kids.drop j)::rest) sk≤b:=by
  rcases Nat.lt_or_ge b (costT (T.node (tt.kids.drop j)::rest) sk) with z | z
  ·have:=c2 z; lia
  ·exact z
 have hc:=c1 hcost
 obtain⟨bx2,bs2⟩:=hnx hcost
 have q:=qt hcost
 have gtop:∀ {Ma:Mp}{Ha:Hp}{num':List Nat}{rows':List V}{s':List T}{b':Nat},WkX K CFronted CLater CWord CText CGoing CWalk Ma H₀ Ha o dx G S N (gs0++[.ref g]) rows' (T.node (tt.kids.drop j)::rest) s' num' b'→GoAt CGoing Ma Ha (T.node (tt.kids.drop j)) (.ref g):=fun wa=>by
  have hgo:=wa.gos
  rw [List.reverse_cons] at hgo
  obtain⟨gs1,y,e1,_,hy⟩:=All2.snoc hgo
  have:=(List.append_inj' e1 rfl).2
  cases this
  exact hy
 dsimp only [tNext]
 refine⟨_,rfl,o,CWalk,dx,_,_,rfl,w4.ob,O.cWalk,O.kl,lwL,_,rfl,_,_,rfl,rfl,dx,_,w4.ob,by show 4<1000; decide,?_⟩
 rw [show (V.int ((b:Int) - (c:Int)):V)=.int ((b - c:Nat):Int) by congr 1; lia,pwL]
 have w5:=w4.setL (b - c)
 have G5:Go K CFronted CLater CWord CText (fun a=>a=o) M2 M2 H₀ H4 (upd H4 o (.ins CWalk dx (fW G S N (b - c)))):=Go.mutX (.refl w4.gh) w4.mo rfl (Kt.ins w4.ob)
 have ngo:¬ g=o:=by
  obtain⟨g',_,_,_,_,_,e,_,h2,_⟩:=gtop w4
  cases e
  intro z
  rw [z,w4.ob] at h2
  have h3:=(HO.ins.inj (Option.some.inj h2)).2.2
  exact absurd (congrArg List.length h3) (by simp [fG,fW])
 have hv5:(v2=.non∧tt.kids.drop j=[])∨∃ w' ws' bw,v2=.ref bw∧M2 bw=some (.word w')∧Rdy CGoing M2 (upd H4 o (.ins CWalk dx (fW G S N (b - c)))) g w' ws'∧tt.kids.drop j=w'::ws':=by
  rcases hv4 with hv | ⟨w',ws',bw,e1,e2,e3,e4⟩
  ·exact .inl hv
  ·exact .inr ⟨w',ws',bw,e1,e2,e3.go G5 ngo w4.gh,e4⟩
 generalize upd H4 o (.ins CWalk dx (fW G S N (b - c)))=H5 at w5 hv5
 have mgg:M2 g=some .mine:=by
  obtain⟨g',_,_,_,_,_,e,h2,_⟩:=gtop w4
  cases e
  exact h2
 have gnl:∀ {Ha:Hp}{num':List Nat}{rows':List V}{s':List T}{b':Nat}{q:Addr}{l:List V},WkX K CFronted CLater CWord CText CGoing CWalk M2 H₀ Ha o dx G S N (gs0++[.ref g]) rows' (T.node (tt.kids.drop j)::rest) s' num' b'→Ha q=some (.lst l)→¬ g=q:=fun wa hq z=>by
  obtain⟨g',_,_,_,_,_,e,_,h2,_⟩:=gtop wa
  cases e
  rw [z,hq] at h2
  cases h2
 generalize hK:stepT (T.node (tt.kids.drop j)::rest) sk=k at *
 refine⟨_,rfl,o,CWalk,dx,_,_,rfl,w5.ob,O.cWalk,O.kn,lwN,_,rfl,N,_,_,_,rfl,rfl,SqL.of w5.hN,at_nv (k:=k) w5.n15 (by lia),_,_,rfl,rfl,N,_,_,k,rfl,rfl,w5.hN,ixN_nat (j:=k) (by rw [List.length_map,w5.n15]; lia),?_⟩
 rw [show (V.int ((num.getD k 0:Int)+1):V)=V.int ((num.getD k 0:Int)+((1:Nat):Int)) from rfl,setN_eq]
 have w6:=w5.setN (num':=num.set k (num.getD k 0+1)) (by rw [List.length_set]; exact w5.n15)
 have G6:Go K CFronted CLater CWord CText (fun a=>a=N) M2 M2 H₀ H5 (upd H5 N (.lst ((num.set k (num.getD k 0+1)).map nv))):=.list w5.gh w5.mN w5.hN
 have hv6:(v2=.non∧tt.kids.drop j=[])∨∃ w' ws' bw,v2=.ref bw∧M2 bw=some (.word w')∧Rdy CGoing M2 (upd H5 N (.lst ((num.set k (num.getD k 0+1)).map nv))) g w' ws'∧tt.kids.drop j=w'::ws':=by
  rcases hv5 with hv | ⟨w',ws',bw,e1,e2,e3,e4⟩
  ·exact .inl hv
  ·exact .inr ⟨w',ws',bw,e1,e2,e3.go G6 (gnl w5 w5.hN) w5.gh,e4⟩
 generalize upd H5 N (.lst ((num.set k (num.getD k 0+1)).map nv))=H6 at w6 hv6
 dsimp only
 refine ifAll (fun σ' H'=>σ'=[some (.ref o),some (.ref g),some v2,some (.int (k:Int)),some (.int (c:Int))]∧WkX K CFronted CLater CWord CText CGoing CWalk M2 H₀ H' o dx G S N (gs0++[.ref g]) rows (T.node (tt.kids.drop j)::rest) sk (num2 k c num) (b - c)∧((v2=.non∧tt.kids.drop j=[])∨∃ w' ws' bw,v2=.ref bw∧M2 bw=some (.word w')∧Rdy CGoing M2 H' g w' ws'∧tt.kids.drop j=w'::ws')) (fun σ' H7 h7=>?_) (fun A' B' hA hB=>⟨_,rfl,rfl,_,rfl,ite2 (fun h=>hA _ fun N' hN'=>?_) (fun h=>hB _ ⟨rfl,?_,hv6⟩)⟩)
 rotate_left
 ·have h2:k=2:=by have:=V.int.inj (of_decide_eq_true h); lia
  subst h2
  refine⟨_,rfl,o,CWalk,dx,_,_,rfl,w6.ob,O.cWalk,O.kn,lwN,N,_,_,_,rfl,rfl,SqL.of w6.hN,at_nv (k:=13) w6.n15 (by lia),_,rfl,_,_,rfl,rfl,N,_,_,13,rfl,rfl,w6.hN,ixN_nat (j:=13) (by rw [List.length_map,w6.n15]; lia),?_⟩
  rw [setN_eq]
  have w7:=w6.setN (num':=(num.set 2 (num.getD 2 0+1)).set 13 ((num.set 2 (num.getD 2 0+1)).getD 13 0+c)) (by rw [List.length_set]; exact w6.n15)
  have G7:Go K CFronted CLater CWord CText (fun a=>a=N) M2 M2 H₀ H6 (upd H6 N (.lst (((num.set 2 (num.getD 2 0+1)).set 13 ((num.set 2 (num.getD 2 0+1)).getD 13 0+c)).map nv))):=.list w6.gh w6.mN w6.hN
  refine hN' _ _ ⟨rfl,by unfold num2; rw [if_pos rfl]; exact w7,?_⟩
  rcases hv6 with hv | ⟨w',ws',bw,e1,e2,e3,e4⟩
  ·exact .inl hv
  ·exact .inr ⟨w',ws',bw,e1,e2,e3.go G7 (gnl w6 w6.hN) w6.gh,e4⟩
 ·have h2:¬ k=2:=fun z=>h (decide_eq_true (by rw [z]; rfl))
  unfold num2
  rw [if_neg h2]
  exact w6
 obtain⟨rfl,w7,hv7⟩:=h7
 have lk3:=looks_le k
 refine⟨fun μ σ H'=>∃ (i:Nat) (rows':List V),σ=[some (.ref o),some (.ref g),some v2,some (.int (k:Int)),some (.int (c:Int))]∧WkX K CFronted CLater CWord CText CGoing CWalk M2 H₀ H' o dx G S N (gs0++[.ref g]) rows' (T.node (tt.kids.drop j)::rest) (sk++List.replicate i leaf) (num2 k c num) (b - c)∧((v2=.non∧tt.kids.drop j=[])∨∃ w' ws' bw,v2=.ref bw∧M2 bw=some (.word w')∧Rdy CGoing M2 H' g w' ws'∧tt.kids.drop j=w'::ws')∧sk.length+i≤max (looks k) sk.length∧μ=3 - i,⟨_,0,rows,rfl,by rw [List.replicate_zero,List.append_nil]; exact w7,hv7,by lia,rfl⟩,?_⟩
 rintro μ σ H8 ⟨i,rows',rfl,w8,hv8,hi,rfl⟩
 have hrl:=w8.sts.length
 rw [List.length_reverse,List.length_append,List.length_replicate] at hrl
 refine⟨_,rfl,o,CWalk,dx,_,_,rfl,w8.ob,O.cWalk,O.ks,lwS,S,rows',rfl,.inl (SqL.of w8.hS),_,rfl,a_LOOKS,_,_,_,rfl,rfl,q_LOOKS _,looks_at h12,_,_,rfl,rfl,_,rfl,ite2 (fun h=>?_) (fun h=>?_)⟩
 ·have hlt:rows'.length<looks k:=by have:=of_decide_eq_true h; lia
  refine⟨fun σ' H'=>∃ m',m'<3 - i∧∃ (i:Nat) (rows':List V),σ'=[some (.ref o),some (.ref g),some v2,some (.int (k:Int)),some (.int (c:Int))]∧WkX K CFronted CLater CWord CText CGoing CWalk M2 H₀ H' o dx G S N (gs0++[.ref g]) rows' (T.node (tt.kids.drop j)::rest) (sk++List.replicate i leaf) (num2 k c num) (b - c)∧((v2=.non∧tt.kids.drop j=[])∨∃ w' ws' bw,v2=.ref bw∧M2 bw=some (.word w')∧Rdy CGoing M2 H' g w' ws'∧tt.kids.drop j=w'::ws')∧sk.length+i≤max (looks k) sk.length∧m'=3 - i,fun _ _ h=>h,?_⟩
  refine⟨_,rfl,o,CWalk,dx,_,_,rfl,w8.ob,O.cWalk,O.ks,lwS,.inl ⟨rfl,_,SqL.of w8.hS⟩,Nat.zero_le _,fun p9 g9=>?_⟩
  obtain⟨S9,t9⟩:=tupN (K:=K) (ts:=[]) g9 (TRs_nil.mpr rfl)
  have w9:=w8.grow S9
  have hS9:=w9.hS
  refine⟨S,rows',_,rfl,rfl,hS9,smallM' (by lia),?_⟩
  have Gx:Go K CFronted CLater CWord CText (fun a=>a=S) M2 M2 H₀ (upd H8 p9 (.tup [])) (upd (upd H8 p9 (.tup [])) S (.lst (.ref p9::rows'))):=.list w9.gh w9.mS hS9
  have w10:=w9.setS (s':=sk++List.replicate (i+1) leaf) Gx upd_same (by
   rw [List.replicate_succ',← List.append_assoc,List.reverse_append]
   exact All2.cons (.inl (t9.mono (Kt.lst hS9))) (w9.sts.imp fun _ _ z=>Gx.rv z))
  refine⟨_,?_,i+1,_,rfl,w10,?_,by lia,rfl⟩
  ·lia
  ·rcases hv8 with hv | ⟨w',ws',bw,e1,e2,e3,e4⟩
   ·exact .inl hv
   ·exact .inr ⟨w',ws',bw,e1,e2,(e3.go (.grow w8.gh S9:Go K CFronted CLater CWord CText (fun _=>False) M2 M2 H₀ H8 _) id w8.gh).go Gx (gnl w9 hS9) w9.gh,e4⟩
 have hge:looks k≤rows'.length:=by
  have:¬ ((rows'.length:Int)<((looks k:Nat):Int)):=fun z=>h (decide_eq_true z)
  lia
 have hpad:sk++List.replicate i leaf=pad sk (looks k):=pad_eq hi (by lia)
 rw [hpad] at w8
 have hpl:looks k≤(pad sk (looks k)).length:=pad_len sk (looks k)
 have hB:=(B_pad (looks k) (by lia) (by lia) bs).le (a':=395) (b':=8000010) (by lia) (by lia)
 have hkd:∀ t∈pad sk (looks k),t.kids.length≤8000000:=padKids (kids_le (by lia))
 refine⟨_,rfl,o,dx,_,rfl,w8.ob,lwNo (by decide +kernel) (by decide +kernel) (by decide +kernel) (by decide +kernel),_,rfl,_,rfl,_,rfl,o,dx,G,S,N,gs0,g,rows',_,rest,pad sk (looks k),num2 k c num,b - c,k,v2,M2,H₀,rfl,w8,hpl,hB,hkd,by lia,?_⟩
 rw [← hc] at q
 rcases hv8 with⟨rfl,he⟩ | ⟨w',ws',bw,rfl,hbw,rdy,he⟩
 ·have hk12:k=12:=by rw [← hK]; exact step_nil (show (ats (T.node (tt.kids.drop j)::rest) 0).kids=[] from he)
  refine .inl ⟨hk12,fun M' H' wf=>q M' H' ?_⟩
  have on:=on_nil (s:=sk) (show (ats (T.node (tt.kids.drop j)::rest) 0).kids=[] from he)
  rw [on,ev_step w0.n15 (by rw [hK]; lia),hK,← hc]
  rw [hk12] at wf ⊢
  rw [show pad sk (looks 12)=sk from pad_of (Nat.zero_le _)] at wf
  exact wf
 ·have mv:=mv_on (p:=T.node (tt.kids.drop j)) (rest:=rest) (s:=sk) (num:=num) (congrArg T.node he) w0.n15
  rw [hK,← hc] at mv
  have hlp:(loadT w').parts≤8000000:=by
   have h1:=hbt.2
   have h2:=T.parts_kids tt
   have h3:=T.partsL_take_drop j tt.kids
   rw [he,T.partsL_cons] at h3
   have h4:=load_parts w'
   lia
  exact .inr ⟨w',ws',bw,_,_,_,congrArg T.node he,rfl,hbw,rdy,mv,bx2,hlp,fun M' H' wf=>q M' H' wf⟩
end
end Sw92
namespace Sw92
open PySem PySem.Spec PyProof.Rows L2 Sw
section
variable {P:Program}{w:World}{K:PySem.W.Frag}{mg:Str→Option Value}{base:Heap}{f:Addr}{fd:FuncData}{CFronted CLater CWord CText CGoing CWalk:Addr}
theorem ok_walked (O:Own K CFronted CLater CWord CText CGoing CWalk)
  (m_Walk:mg "Walk"=some (.ref CWalk))
  {a_Walk___init__:Addr}{d_Walk___init__:FuncData} (MK_Walk:Mk K CWalk a_Walk___init__) (G_Walk___init__:FnOk P w K mg base CX0 37 a_Walk___init__ d_Walk___init__ ["self","stand","budget"] (spWkInit K CFronted CLater CWord CText CGoing CWalk)) (b_Walk___init__:Binds K d_Walk___init__ ["self","stand","budget"] [])
  {a_Walk_step:Addr}{d_Walk_step:FuncData} (M_Walk_step:Meth K CWalk "step" a_Walk_step) (G_Walk_step:FnOk P w K mg base CX0 38 a_Walk_step d_Walk_step ["self"] (spStepW K CFronted CLater CWord CText CGoing CWalk)) (b_Walk_step:Binds K d_Walk_step ["self"] [])
  {a_Walk_at_end:Addr}{d_Walk_at_end:FuncData} (M_Walk_at_end:Meth K CWalk "at_end" a_Walk_at_end) (G_Walk_at_end:FnOk P w K mg base CX0 38 a_Walk_at_end d_Walk_at_end ["self"] (spAtEnd K CFronted CLater CWord CText CGoing CWalk)) (b_Walk_at_end:Binds K d_Walk_at_end ["self"] [])
  (F:Fun K "walked" "walked" s_walked f fd):FnOk P w K mg base CX0 39 f fd ["stand","budget"] (spWalked K CFronted CLater CWord CText CGoing CWalk):=by
 refine okQ F sc_walked (fun vs H Q E h=>?_) (fun cdv A outer s H vs Q E hr h=>?_)
 ·obtain⟨x,tx,sk,b,rfl,_⟩:=h
  rfl
 obtain⟨x,tx,sk,b,rfl,hx,hsn,q⟩:=h
 refine⟨_,(qss_cons (qs_set (i:=2) sc_walked.nd rfl (Or.inl rfl) (qe_make MK_Walk G_Walk___init__ hr rfl m_Walk b_Walk___init__ .nil pass0 (qa_cons (qv 0) (qa_cons (qv 1) qa_nil))))
   (qss_cons (qs_while PassesOwn.never (QW.pt (qw_and (qt_not (qt_val (qe_meth0 (qv 2) O.cWalk M_Walk_at_end G_Walk_at_end hr b_Walk_at_end .nil pass0))) (qw_and1 (qt_val (qe_meth0 (qv 2) O.cWalk M_Walk_step G_Walk_step hr b_Walk_step .nil pass0))))) (qss_one qs_pass))
   (qss_one (qs_ret (qv 2))))),?_⟩
 refine setQ (fun v=>[some x,some (.int (b:Int)),some v]) (fun _=>rfl) (fun v H'=>∃ o M,v=.ref o∧Wk K CFronted CLater CWord CText CGoing CWalk M H H' o tx sk zero15 b) (fun R r=>⟨_,rfl,_,rfl,fun o dx ho hd ne=>⟨o,dx,x,tx,sk,b,setM (fun _=>none) o .mine,H,rfl,(Go.made (X:=fun _=>False) (C:=CWalk) (fs:=[]) (Gh.nil H) ho hd ne).gh,setM_same,mk_at,hx.mono (.of (mk_same (C:=CWalk) (fs:=[]) ho hd ne)),hsn.bx,hsn.bs,fun M' H' wf=>⟨rfl,r _ _ ⟨o,M',rfl,wf⟩⟩⟩⟩) (fun v1 H1 h1=>?_)
 obtain⟨o,M1,rfl,w1⟩:=h1
 refine⟨fun μ σ H'=>∃ (M:Mp) (tx' s':List T) (num:List Nat) (b':Nat),σ=[some x,some (.int (b:Int)),some (.ref o)]∧Wk K CFronted CLater CWord CText CGoing CWalk M H H' o tx' s' num b'∧Sane b' tx' s'∧num.length=15∧goT b tx sk=((goT b' tx' s').1,(goT b' tx' s').2.1,addT num (goT b' tx' s').2.2)∧spT b tx sk+b'=b+spT b' tx' s'∧μ=b'+1,⟨_,M1,tx,sk,zero15,b,rfl,w1,hsn,rfl,by rw [addT_zero (go_len _ _ _)],Nat.add_comm _ _,rfl⟩,?_⟩
 rintro μ σ H2 ⟨M,tx',s',num,b',rfl,w2,hs2,hn2,hgo,hsp,rfl⟩
 have stop:(tx'=[]∨b'<costT tx' s')→∀ M' H',Wk K CFronted CLater CWord CText CGoing CWalk M' H H' o tx' s' num b'→Q (.ref o) H':=fun hst M' H' wf=>by
  refine q o M' H' b' ?_
  rw [go_stop hst,sp_stop hst] at *
  rw [hgo]
  show Wk _ _ _ _ _ _ _ _ _ _ _ tx' s' (addT num zero15) b'
  rw [addT_zeroR hn2]
  exact wf
 refine⟨_,rfl,o,?_⟩
 obtain⟨dx,G,S,N,gs,rows,wx⟩:=id w2
 refine⟨dx,_,rfl,wx.ob,lwNo (by decide +kernel) (by decide +kernel) (by decide +kernel) (by decide +kernel),o,M,H,tx',s',num,b',rfl,w2,_,rfl,?_⟩
 by_cases he:tx'=[]
 ·rw [decide_eq_true he]
  refine iteF (iteF ⟨_,rfl,stop (.inl he) M H2 w2⟩)
 rw [decide_eq_false he]
 refine iteT ⟨_,rfl,o,dx,_,rfl,wx.ob,lwNo (by decide +kernel) (by decide +kernel) (by decide +kernel) (by decide +kernel),o,M,H,tx',s',num,b',rfl,w2,he,hs2.bx,hs2.bs,fun hc=>⟨(hs2.next he hc).bx,(hs2.next he hc).bs⟩,fun hc M' H' wf=>⟨_,rfl,iteF ⟨_,rfl,stop (.inr hc) M' H' wf⟩⟩,fun hc M' H' wf=>⟨_,rfl,iteT ?_⟩⟩
 have hcp:=cost_pos tx' s'
 refine⟨fun σ' H''=>σ'=[some x,some (.int (b:Int)),some (.ref o)]∧H''=H',fun σ' H'' h=>⟨b' - costT tx' s'+1,by lia,?_⟩,rfl,rfl⟩
 obtain⟨rfl,rfl⟩:=h
 refine⟨M',_,_,_,_,rfl,wf,hs2.next he hc,addT_len hn2 (ev_len _ _),?_,?_,rfl⟩
 ·rw [hgo,go_step he hc]
  show (_,_,addT num (addT _ _))=(_,_,addT (addT num _) _)
  rw [addT_assoc]
 ·rw [sp_step he hc] at hsp
  lia
end
end Sw92
namespace Sw92
open PySem PySem.Spec PyProof.Rows L2 Sw
section
variable {P:Program}{w:World}{K:PySem.W.Frag}{mg:Str→Option Value}{base:Heap}{f:Addr}{fd:FuncData}{CFronted CLater CWord CText CGoing CWalk:Addr}
theorem ok_begin
  (F:Fun K "begin" "begin" s_begin f fd):FnOk P w K mg base CX0 31 f fd ["text","tree"] (spBegin K):=by
 refine okQ F sc_begin (fun vs H Q E h=>?_) (fun cdv A outer s H vs Q E hr h=>?_)
 ·obtain⟨x,t,y,u,rfl,_⟩:=h
  rfl
 obtain⟨x,t,y,u,rfl,hx,hy,q⟩:=h
 refine⟨_,(qss_one (qs_ret (qe_tup (qa_cons (qe_tup (qa_cons (qv 0) qa_nil)) (qa_cons (qe_tup (qa_cons (qv 1) qa_nil)) qa_nil))))),?_⟩
 refine⟨_,rfl,(by show 1≤sizeLine; decide),fun p1 g1=>⟨_,rfl,(by show 1≤sizeLine; decide),fun p2 g2=>⟨(by show 2≤sizeLine; decide),fun p3 g3=>?_⟩⟩⟩
 obtain⟨S1,t1⟩:=tupN (K:=K) g1 (trs1 hx)
 obtain⟨S2,t2⟩:=tupN (K:=K) g2 (trs1 (hy.mono (.of S1)))
 obtain⟨S3,t3⟩:=tupN (K:=K) g3 (trs2 (t1.mono (.of S2)) t2)
 exact q _ _ (S1.trans (S2.trans S3)) t3
theorem ok_run (O:Own K CFronted CLater CWord CText CGoing CWalk)
  {a_walked:Addr}{d_walked:FuncData} (F_walked:Fun K "walked" "walked" s_walked a_walked d_walked) (G_walked:FnOk P w K mg base CX0 39 a_walked d_walked ["stand","budget"] (spWalked K CFronted CLater CWord CText CGoing CWalk)) (b_walked:Binds K d_walked ["stand","budget"] []) (m_walked:mg "walked"=some (.ref a_walked))
  {a_begin:Addr}{d_begin:FuncData} (F_begin:Fun K "begin" "begin" s_begin a_begin d_begin) (G_begin:FnOk P w K mg base CX0 39 a_begin d_begin ["text","tree"] (spBegin K)) (b_begin:Binds K d_begin ["text","tree"] []) (m_begin:mg "begin"=some (.ref a_begin))
  {a_cost:Addr}{d_cost:FuncData} (F_cost:Fun K "cost" "cost" s_cost a_cost d_cost) (G_cost:FnOk P w K mg base CX0 39 a_cost d_cost ["tally"] (spCost K)) (b_cost:Binds K d_cost ["tally"] []) (m_cost:mg "cost"=some (.ref a_cost))
  {a_as_tree:Addr}{d_as_tree:FuncData} (F_as_tree:Fun K "as_tree" "as_tree" s_as_tree a_as_tree d_as_tree) (G_as_tree:FnOk P w K mg base CX0 39 a_as_tree d_as_tree ["row"] (spAsTree K CFronted CLater CWord CText)) (b_as_tree:Binds K d_as_tree ["row"] []) (m_as_tree:mg "as_tree"=some (.ref a_as_tree))
  {a_Walk_tally:Addr}{d_Walk_tally:FuncData} (M_Walk_tally:Meth K CWalk "tally" a_Walk_tally) (G_Walk_tally:FnOk P w K mg base CX0 39 a_Walk_tally d_Walk_tally ["self"] (spTally K CFronted CLater CWord CText CGoing CWalk)) (b_Walk_tally:Binds K d_Walk_tally ["self"] [])
  {a_Walk_at_end:Addr}{d_Walk_at_end:FuncData} (M_Walk_at_end:Meth K CWalk "at_end" a_Walk_at_end) (G_Walk_at_end:FnOk P w K mg base CX0 39 a_Walk_at_end d_Walk_at_end ["self"] (spAtEnd K CFronted CLater CWord CText CGoing CWalk)) (b_Walk_at_end:Binds K d_Walk_at_end ["self"] [])
  {a_Walk_top:Addr}{d_Walk_top:FuncData} (M_Walk_top:Meth K CWalk "top" a_Walk_top) (G_Walk_top:FnOk P w K mg base CX0 39 a_Walk_top d_Walk_top ["self"] (spTop K CFronted CLater CWord CText CGoing CWalk)) (b_Walk_top:Binds K d_Walk_top ["self"] [])
  (F:Fun K "run" "run" s_run f fd):FnOk P w K mg base CX0 40 f fd ["text","tree","budget"] (spRun K):=by
 refine okQ F sc_run (fun vs H Q E h=>?_) (fun cdv A outer s H vs Q E hr h=>?_)
 ·obtain⟨x,y,t,u,b,rfl,_⟩:=h
  rfl
 obtain⟨x,y,t,u,b,rfl,hx,hy,hsn,q⟩:=h
 refine⟨_,(qss_cons (qs_set (i:=3) sc_run.nd rfl (Or.inl rfl) (qe_call G_walked hr rfl m_walked F_walked.kp b_walked .nil pass0 (qa_cons (qe_call G_begin hr rfl m_begin F_begin.kp b_begin .nil pass0 (qa_cons (qv 0) (qa_cons (qv 1) qa_nil))) (qa_cons (qv 2) qa_nil))))
   (qss_cons (qs_set (i:=4) sc_run.nd rfl (Or.inl rfl) (qe_call G_cost hr rfl m_cost F_cost.kp b_cost .nil pass0 (qa_cons (qe_meth0 (qv 3) O.cWalk M_Walk_tally G_Walk_tally hr b_Walk_tally .nil pass0) qa_nil)))
   (qss_cons (qs_if (qt_val (qe_meth0 (qv 3) O.cWalk M_Walk_at_end G_Walk_at_end hr b_Walk_at_end .nil pass0)) (qss_one (qs_ret (qe_tup (qa_cons qe_str (qa_cons (qe_call G_as_tree hr rfl m_as_tree F_as_tree.kp b_as_tree .nil pass0 (qa_cons (qe_meth0 (qv 3) O.cWalk M_Walk_top G_Walk_top hr b_Walk_top .nil pass0) qa_nil)) (qa_cons (qv 4) qa_nil)))))) qss_nil)
   (qss_one (qs_ret (qe_tup (qa_cons qe_str (qa_cons (qe_tup qa_nil) (qa_cons (qv 4) qa_nil))))))))),?_⟩
 refine setQ (fun v=>[some x,some y,some (.int (b:Int)),some v,none]) (fun _=>rfl) (fun v H'=>∃ o M b' H0,v=.ref o∧Same H H0∧Wk K CFronted CLater CWord CText CGoing CWalk M H0 H' o (goT b [t] [u]).1 (goT b [t] [u]).2.1 (goT b [t] [u]).2.2 b') (fun R r=>⟨_,rfl,_,rfl,x,t,y,u,rfl,hx,hy,fun z H1 S1 tz=>⟨_,rfl,z,[t],[u],b,rfl,tz,hsn,fun o M' H' b' wf=>r _ _ ⟨o,M',b',H1,rfl,S1,wf⟩⟩⟩) (fun v1 H1 h1=>?_)
 obtain⟨o,M1,b1,H0,rfl,S0,w1⟩:=h1
 obtain⟨dx,G,S,N,gs,rows,wx⟩:=id w1
 obtain⟨bl,sl⟩:=Sane.last b [t] [u] hsn
 have go15:=go_len b [t] [u]
 refine setQ (fun v=>[some x,some y,some (.int (b:Int)),some (.ref o),some v]) (fun _=>rfl) (fun v H'=>Same H1 H'∧v=nv (spT b [t] [u])) (fun R r=>⟨_,rfl,o,dx,_,rfl,wx.ob,lwNo (by decide +kernel) (by decide +kernel) (by decide +kernel) (by decide +kernel),o,M1,H0,_,_,_,_,rfl,w1,fun c H2 S2 hc=>⟨c,_,rfl,hc,go15,fun H3 S3=>r _ _ ⟨S2.trans S3,by rw [go_cost]⟩⟩⟩) (fun v2 H2 h2=>?_)
 obtain⟨S2,rfl⟩:=h2
 have w2:=wx.grow S2
 have e1:decide ((goT b [t] [u]).1=[])=true∨decide ((goT b [t] [u]).1=[])=false:=by cases decide ((goT b [t] [u]).1=[]) <;> simp
 refine⟨_,rfl,o,dx,_,rfl,w2.ob,lwNo (by decide +kernel) (by decide +kernel) (by decide +kernel) (by decide +kernel),o,M1,H0,_,_,_,_,rfl,⟨dx,G,S,N,gs,rows,w2⟩,_,rfl,ite2 (fun he=>?_) (fun he=>?_)⟩
 ·have he:=of_decide_eq_true he
  have hp:(ats (goT b [t] [u]).2.1 0).parts≤8000000:=(B_ats sl 0).2
  refine⟨_,rfl,o,dx,_,rfl,w2.ob,lwNo (by decide +kernel) (by decide +kernel) (by decide +kernel) (by decide +kernel),o,M1,H0,_,_,_,_,rfl,⟨dx,G,S,N,gs,rows,w2⟩,fun x3 H3 S3 hx3=>⟨x3,_,M1,H0,rfl,w2.gh.grow S3,hx3,hp,fun y4 H4 S4 t4=>⟨_,rfl,(by show 3≤sizeLine; decide),fun p5 g5=>?_⟩⟩⟩
  have S5:=same_new g5 (.tup [.str (PySem.Str.ofString "told"),y4,nv (spT b [t] [u])])
  refine q p5 y4 _ (S0.trans (wx.gh.same.trans (S2.trans (S3.trans (S4.trans S5))))) (SqT.of (upd_same.trans ?_)) ?_
  ·unfold wordS
   rw [if_pos he]
   rfl
  ·unfold tellT
   rw [if_pos he]
   exact t4.mono (.of S5)
 ·have he:¬ (goT b [t] [u]).1=[]:=fun z=>he (decide_eq_true z)
  refine⟨Nat.zero_le _,fun p4 g4=>⟨_,rfl,(by show 3≤sizeLine; decide),fun p5 g5=>?_⟩⟩
  obtain⟨S4,t4⟩:=tupN (K:=K) (ts:=[]) g4 (TRs_nil.mpr rfl)
  have S5:=same_new g5 (.tup [.str (PySem.Str.ofString "out"),.ref p4,nv (spT b [t] [u])])
  refine q p5 (.ref p4) _ (S0.trans (wx.gh.same.trans (S2.trans (S4.trans S5)))) (SqT.of (upd_same.trans ?_)) ?_
  ·unfold wordS
   rw [if_neg he]
   rfl
  ·unfold tellT
   rw [if_neg he]
   exact t4.mono (.of S5)
end
end Sw92
namespace Sw92
open PySem PySem.Spec PyProof.Rows L2 Sw
section
variable {P:Program}{w:World}{K:PySem.W.Frag}{mg:Str→Option Value}{base:Heap}{f:Addr}{fd:FuncData}
theorem ok_first
  (F:Fun K "first" "first" s_first f fd):FnOk P w K mg base CX0 31 f fd ["tree"] (spFirst K):=by
 refine okQ F sc_first (fun vs H Q E h=>?_) (fun cdv A outer s H vs Q E hr h=>?_)
 ·obtain⟨x,t,rfl,_⟩:=h
  rfl
 obtain⟨x,t,rfl,ht,hd,q⟩:=h
 have hE:=hr.un
 have hE:(A.deeper (envOfC "first" (defScope s_first) s.heap.objs.size f cdv)).units+401<cLine:=by lia
 refine⟨_,(qss_cons (qs_if (qt_cmpR (op_eqTr hE) (qv 0) (qe_tup qa_nil) (nomark _)) (qss_one (qs_ret (qe_tup qa_nil))) qss_nil)
   (qss_one (qs_ret (qe_ix ix_tup (qv 0) qe_int (fun _ _=>rfl))))),?_⟩
 refine⟨_,rfl,Nat.zero_le _,fun p1 g1=>⟨t,leaf,ht.mono (.new g1),leaf_tr upd_same,by lia,_,rfl,ite2 (fun hb=>?_) (fun hb=>?_)⟩⟩
 ·have e:=(T.beq_iff _ _).mp hb
  rw [e] at q
  exact⟨Nat.zero_le _,fun p2 g2=>q _ _ ((same_new g1 _).trans (same_new g2 _)) (leaf_tr upd_same)⟩
 ·cases t with
  | node ts =>
   cases ts with
   | nil=>exact absurd ((T.beq_iff _ _).mpr rfl) hb
   | cons u us=>exact⟨_,rfl,nIxP (ht.mono (.new g1)) 0 rfl (fun z tz=>q _ _ (same_new g1 _) tz)⟩
theorem ok_rest
  (F:Fun K "rest" "rest" s_rest f fd):FnOk P w K mg base CX0 31 f fd ["tree"] (spRest K):=by
 refine okQ F sc_rest (fun vs H Q E h=>?_) (fun cdv A outer s H vs Q E hr h=>?_)
 ·obtain⟨x,t,rfl,_⟩:=h
  rfl
 obtain⟨x,t,rfl,ht,q⟩:=h
 refine⟨_,(qss_one (qs_ret (qe_slice sl_tupA (qv 0) (qo_some qe_int) qo_none))),?_⟩
 cases t with
 | node ts=>exact⟨_,rfl,1,rfl,nFromP ht 1 (fun z H' S tz=>q z H' S tz)⟩
theorem ok_sort_of (m_min:mg "min"=none) (m_len:mg "len"=none) {u_NAMELESS:Value} (m_NAMELESS:mg "NAMELESS"=some u_NAMELESS) (r_NAMELESS:RelV (.int 9) u_NAMELESS)
  {a_first:Addr}{d_first:FuncData} (F_first:Fun K "first" "first" s_first a_first d_first) (G_first:FnOk P w K mg base CX0 31 a_first d_first ["tree"] (spFirst K)) (b_first:Binds K d_first ["tree"] []) (m_first:mg "first"=some (.ref a_first))
  (F:Fun K "sort_of" "sort_of" s_sort_of f fd):FnOk P w K mg base CX0 32 f fd ["word"] (spSortL K):=by
 refine okQ F sc_sort_of (fun vs H Q E h=>?_) (fun cdv A outer s H vs Q E hr h=>?_)
 ·obtain⟨x,t,rfl,_⟩:=h
  rfl
 obtain⟨x,t,rfl,ht,h1,q⟩:=h
 refine⟨_,(qss_one (qs_ret (qe_callB (call_min2 rfl) rfl m_min bt_min (qa_cons (qe_callB call_len_seq rfl m_len bt_len (qa_cons (qe_call G_first hr rfl m_first F_first.kp b_first .nil pass0 (qa_cons (qv 0) qa_nil)) qa_nil)) (qa_cons (qe_glob (v:=.int 9) rfl m_NAMELESS r_NAMELESS) qa_nil))))),?_⟩
 refine⟨_,rfl,x,t,rfl,ht,h1,fun y H1 S1 t1=>?_⟩
 obtain⟨b,ys,rfl,hb',rb⟩:=TR_node.mp (TR_kids t1)
 refine⟨b,ys,rfl,.inr hb',_,_,rfl,?_⟩
 rw [rb.length,show (if (9:Int)<((ats t.kids 0).kids.length:Int) then (9:Int) else ((ats t.kids 0).kids.length:Int))=((sortT t:Nat):Int) by rw [sort_ats]; split <;> lia]
 exact q _ S1
theorem ok_load_of
  {a_rest:Addr}{d_rest:FuncData} (F_rest:Fun K "rest" "rest" s_rest a_rest d_rest) (G_rest:FnOk P w K mg base CX0 31 a_rest d_rest ["tree"] (spRest K)) (b_rest:Binds K d_rest ["tree"] []) (m_rest:mg "rest"=some (.ref a_rest))
  (F:Fun K "load_of" "load_of" s_load_of f fd):FnOk P w K mg base CX0 32 f fd ["word"] (spRest K):=by
 refine okQ F sc_load_of (fun vs H Q E h=>?_) (fun cdv A outer s H vs Q E hr h=>?_)
 ·obtain⟨x,t,rfl,_⟩:=h
  rfl
 obtain⟨x,t,rfl,ht,q⟩:=h
 refine⟨_,(qss_one (qs_ret (qe_call G_rest hr rfl m_rest F_rest.kp b_rest .nil pass0 (qa_cons (qv 0) qa_nil)))),?_⟩
 exact⟨_,rfl,x,t,rfl,ht,fun y H' S ty=>q _ _ S ty⟩
theorem ok_lay
  (F:Fun K "lay" "lay" s_lay f fd):FnOk P w K mg base CX0 31 f fd ["tree"] (spLay K):=by
 refine okQ F sc_lay (fun vs H Q E h=>?_) (fun cdv A outer s H vs Q E hr h=>?_)
 ·obtain⟨x,t,rfl,_⟩:=h
  rfl
 obtain⟨x,t,rfl,ht,h1,h2,q⟩:=h
 refine⟨_,(qss_one (qs_ret (qe_op op_catTA (qe_tup (qa_cons (qe_tup qa_nil) qa_nil)) (qv 0)))),?_⟩
 have hl:=(show B 400 1000000 t from ⟨h1,h2⟩)
 rw [← kids_node t] at hl
 have hl:=hl.len
 refine⟨Nat.zero_le _,fun p1 g1=>⟨(by show 1≤sizeLine; decide),fun p2 g2=>?_⟩⟩
 obtain⟨S1,t1⟩:=tupN (K:=K) (ts:=[]) g1 (TRs_nil.mpr rfl)
 obtain⟨S2,t2⟩:=tupN (K:=K) g2 (trs1 t1)
 exact⟨_,rfl,nCat t2 (TR_kids (ht.mono (.of (S1.trans S2)))) (small (by rw [List.length_singleton]; lia)) (fun z H' S tz=>q _ _ (S1.trans (S2.trans S)) tz)⟩
theorem ok_plain
  (F:Fun K "plain" "plain" s_plain f fd):FnOk P w K mg base CX0 31 f fd ["sort"] (spPlain K):=by
 refine okQ F sc_plain (fun vs H Q E h=>?_) (fun cdv A outer s H vs Q E hr h=>?_)
 ·obtain⟨n,rfl,_⟩:=h
  rfl
 obtain⟨n,rfl,h1,h6,q⟩:=h
 refine⟨_,(qss_one (qs_ret (qe_tup (qa_cons (qe_op op_repTA (qe_tup (qa_cons (qe_tup qa_nil) qa_nil)) (qv 0)) qa_nil)))),?_⟩
 refine⟨Nat.zero_le _,fun p1 g1=>⟨(by show 1≤sizeLine; decide),fun p2 g2=>?_⟩⟩
 obtain⟨S1,t1⟩:=tupN (K:=K) (ts:=[]) g1 (TRs_nil.mpr rfl)
 obtain⟨S2,t2⟩:=tupN (K:=K) g2 (trs1 t1)
 refine⟨_,rfl,nRep n t2 rfl (by lia) (by lia) (by lia) (fun z H' S tz=>⟨(by show 1≤sizeLine; decide),fun p3 g3=>?_⟩)⟩
 obtain⟨S3,t3⟩:=tupN (K:=K) g3 (trs1 tz)
 exact q _ _ (S1.trans (S2.trans (S.trans S3))) t3
theorem ok_fork {u_FORK:Value} (m_FORK:mg "FORK"=some u_FORK) (r_FORK:RelV (.int 7) u_FORK)
  (F:Fun K "fork" "fork" s_fork f fd):FnOk P w K mg base CX0 31 f fd ["yes","no"] (spFork K):=by
 refine okQ F sc_fork (fun vs H Q E h=>?_) (fun cdv A outer s H vs Q E hr h=>?_)
 ·obtain⟨x,t,y,u,rfl,_⟩:=h
  rfl
 obtain⟨x,t,y,u,rfl,ht,hu,⟨h1,h2⟩,⟨h3,h4⟩,q⟩:=h
 refine⟨_,(qss_one (qs_ret (qe_op op_catTA (qe_tup (qa_cons (qe_op op_repTA (qe_tup (qa_cons (qe_tup qa_nil) qa_nil)) (qe_glob (v:=.int 7) rfl m_FORK r_FORK)) (qa_cons (qv 0) qa_nil))) (qv 1)))),?_⟩
 have hl:=(show B 400 1000000 u from ⟨h3,h4⟩)
 rw [← kids_node u] at hl
 have hl:=hl.len
 refine⟨Nat.zero_le _,fun p1 g1=>⟨(by show 1≤sizeLine; decide),fun p2 g2=>?_⟩⟩
 obtain⟨S1,t1⟩:=tupN (K:=K) (ts:=[]) g1 (TRs_nil.mpr rfl)
 obtain⟨S2,t2⟩:=tupN (K:=K) g2 (trs1 t1)
 refine nRepP (k:=7) 7 t2 rfl rfl (by decide) (by decide) (fun z H' S tz=>⟨_,rfl,(by show 2≤sizeLine; decide),fun p3 g3=>?_⟩)
 obtain⟨S3,t3⟩:=tupN (K:=K) g3 (trs2 tz (ht.mono (.of (S1.trans (S2.trans S)))))
 exact⟨_,rfl,nCat t3 (TR_kids (hu.mono (.of (S1.trans (S2.trans (S.trans S3)))))) (smallM (by show 2+_≤_; lia)) (fun z4 H4 S4 t4=>q _ _ (S1.trans (S2.trans (S.trans (S3.trans S4)))) t4)⟩
theorem ok_loop {u_WHILE:Value} (m_WHILE:mg "WHILE"=some u_WHILE) (r_WHILE:RelV (.int 8) u_WHILE)
  (F:Fun K "loop" "loop" s_loop f fd):FnOk P w K mg base CX0 31 f fd ["body"] (spLoop K):=by
 refine okQ F sc_loop (fun vs H Q E h=>?_) (fun cdv A outer s H vs Q E hr h=>?_)
 ·obtain⟨x,t,rfl,_⟩:=h
  rfl
 obtain⟨x,t,rfl,ht,h1,h2,q⟩:=h
 refine⟨_,(qss_one (qs_ret (qe_op op_catTA (qe_tup (qa_cons (qe_op op_repTA (qe_tup (qa_cons (qe_tup qa_nil) qa_nil)) (qe_glob (v:=.int 8) rfl m_WHILE r_WHILE)) qa_nil)) (qv 0)))),?_⟩
 have hl:=(show B 400 1000000 t from ⟨h1,h2⟩)
 rw [← kids_node t] at hl
 have hl:=hl.len
 refine⟨Nat.zero_le _,fun p1 g1=>⟨(by show 1≤sizeLine; decide),fun p2 g2=>?_⟩⟩
 obtain⟨S1,t1⟩:=tupN (K:=K) (ts:=[]) g1 (TRs_nil.mpr rfl)
 obtain⟨S2,t2⟩:=tupN (K:=K) g2 (trs1 t1)
 refine nRepP (k:=8) 8 t2 rfl rfl (by decide) (by decide) (fun z H' S tz=>⟨(by show 1≤sizeLine; decide),fun p3 g3=>?_⟩)
 obtain⟨S3,t3⟩:=tupN (K:=K) g3 (trs1 tz)
 exact⟨_,rfl,nCat t3 (TR_kids (ht.mono (.of (S1.trans (S2.trans (S.trans S3)))))) (small (by show 1+_≤_; lia)) (fun z4 H4 S4 t4=>q _ _ (S1.trans (S2.trans (S.trans (S3.trans S4)))) t4)⟩
theorem ok_parts
  (F:Fun K "parts" "parts" s_parts f fd):FnOk P w K mg base CX0 31 f fd ["tree"] (spPartsM K):=by
 refine okQ F sc_parts (fun vs H Q E h=>?_) (fun cdv A outer s H vs Q E hr h=>?_)
 ·obtain⟨x,t,rfl,_⟩:=h
  rfl
 obtain⟨x,t,rfl,ht,hz,q⟩:=h
 refine⟨_,(qss_cons (qs_set (i:=1) sc_parts.nd rfl (Or.inl rfl) (qe_lst (qa_cons (qv 0) qa_nil)))
   (qss_cons (qs_set (i:=2) sc_parts.nd rfl (Or.inl rfl) qe_int)
   (qss_cons (qs_while PassesOwn.never (qt_truth (qv 1) (fun _=>rfl)) (qss_cons (qs_set (i:=3) sc_parts.nd rfl (Or.inl rfl) (qe_bm0 PySem.F.plainAttrs_list PySem.F.slot_list_pop PySem.F.type_list_pop mt_pop (qv 1)))
   (qss_cons (qs_aug (i:=2) sc_parts.nd rfl (Or.inl rfl) qe_int ip_add)
   (qss_one (qs_expr (qe_bm PySem.F.plainAttrs_list PySem.F.slot_list_extend PySem.F.type_list_extend mt_extT (qv 1) (qa_cons (qv 3) qa_nil)))))))
   (qss_one (qs_ret (qv 2)))))),?_⟩
 refine⟨_,rfl,(by show 1≤sizeLine; decide),fun p hp=>?_⟩
 refine⟨WPartsM K H x t.parts p,⟨_,[x],[t],0,none,rfl,same_new hp _,upd_same,TRs_cons.mpr ⟨x,[],rfl,ht.mono (Kt.new hp),TRs_nil.mpr rfl⟩,by rw [T.partsL_cons,T.partsL_nil]; lia,rfl⟩,?_⟩
 rintro m σ H' ⟨ys,ts,c,o,rfl,S,hl,htr,hc,rfl⟩
 refine⟨_,rfl,!ys.isEmpty,.inl ⟨ys,SqL.of hl,rfl⟩,?_⟩
 refine ite2 (fun hb=>?_) (fun hb=>?_)
 ·have hne:ys≠[]:=by rintro rfl; exact absurd hb (by decide)
  obtain⟨y,hy⟩:=last_of hne
  obtain⟨u,hu,hyu⟩:=htr.get hy
  rw [htr.length] at hu
  obtain⟨a,zs,rfl,h1,h2⟩:=TR_of hyu
  have hpl:=T.partsL_dropLast hu
  refine⟨fun σ' H'=>∃ m',m'<T.partsL ts∧WPartsM K H x t.parts p m' σ' H',fun _ _ h=>h,?_⟩
  refine⟨_,rfl,.inl ⟨rfl,_,SqL.of hl⟩,p,ys,_,rfl,rfl,hl,hy,?_⟩
  refine⟨_,rfl,_,_,rfl,rfl,?_⟩
  have hk:=T.parts_kids u
  have hlen1:=T.len_le_parts ts.dropLast
  have hlen2:=T.len_le_parts u.kids
  have e1:=htr.dropLast.length
  have e2:=h2.length
  refine⟨_,rfl,.inl ⟨rfl,_,SqL.of upd_same⟩,_,rfl,p,a,ys.dropLast,zs,rfl,rfl,upd_same,sqT_mono (Kt.lst hl) h1,smallM (by lia),?_⟩
  refine⟨_,?_,ys.dropLast++zs,ts.dropLast++u.kids,c+1,_,rfl,?_,upd_same,?_,?_,rfl⟩
  ·rw [T.partsL_append]
   lia
  ·rw [upd_upd]
   exact same_upd S hp
  ·rw [upd_upd]
   exact (htr.dropLast.append h2).mono (Kt.lst hl)
  ·rw [T.partsL_append]
   lia
 ·have hys:ys=[]:=by
   cases ys with
   | nil=>rfl
   | cons _ _=>exact absurd rfl hb
  subst hys
  have hts:ts=[]:=List.length_eq_zero_iff.mp htr.length.symm
  subst hts
  rw [T.partsL_nil] at hc
  refine⟨_,rfl,?_⟩
  have:(c:Int)=(t.parts:Int):=by lia
  rw [this]
  exact q _ S
theorem ok_cost (m_sum:mg "sum"=none) {u_COPIED:Value} (m_COPIED:mg "COPIED"=some u_COPIED) (r_COPIED:RelV (.int 13) u_COPIED) {u_TWIN:Value} (m_TWIN:mg "TWIN"=some u_TWIN) (r_TWIN:RelV (.int 2) u_TWIN)
  (F:Fun K "cost" "cost" s_cost f fd):FnOk P w K mg base CX0 31 f fd ["tally"] (spCost K):=by
 refine okQ F sc_cost (fun vs H Q E h=>?_) (fun cdv A outer s H vs Q E hr h=>?_)
 ·obtain⟨a,ns,rfl,_⟩:=h
  rfl
 obtain⟨a,ns,rfl,ha,hn,q⟩:=h
 refine⟨_,(qss_one (qs_ret (qe_op op_add (qe_op op_sub (qe_callB (call_sumT rfl) rfl m_sum bt_sum (qa_cons (qe_slice sl_tupA (qv 0) qo_none (qo_some (qe_glob (v:=.int 13) rfl m_COPIED r_COPIED))) qa_nil)) (qe_ix ix_tup (qv 0) (qe_glob (v:=.int 2) rfl m_TWIN r_TWIN) (fun _ _=>rfl))) (qe_ix ix_tup (qv 0) (qe_glob (v:=.int 13) rfl m_COPIED r_COPIED) (fun _ _=>rfl))))),?_⟩
 refine⟨_,rfl,13,rfl,a,_,rfl,ha,fun p H1 S1 h1=>?_⟩
 rw [show (some (13:Int))=some ((13:Nat):Int) from rfl,cut_to,nv_take] at h1
 have ha1:=sqT_mono (.of S1) ha
 refine⟨p,_,rfl,h1,_,rfl,a,_,_,_,rfl,rfl,ha1,nv_at (k:=2) (by lia),_,_,rfl,rfl,_,rfl,a,_,_,_,rfl,rfl,ha1,nv_at (k:=13) (by lia),_,_,rfl,rfl,q _ S1⟩
end
end Sw92
namespace Sw92
open PySem PySem.Spec PyProof.Rows L2 Sw
theorem all_mk {l:PySem.W.OpenLaw}{w:World}{K:PySem.W.Frag}{h:Heap}{mg:Str→Option Value}{fa f1 f2 f3 f4 f5 f6 f7 f8 f9 f10 f11 f12 f13 f14 f15 f16 f17 f18 f19 f20 f21 f22 f23 f24 f25 f26 f27 f28 f29 f30 f31 f32 f33 f34 f35 f36 f37 f38 f39 f40 f41 f42 f43 f44 f45 f46:Addr} (X:K.In h) (G:h.Ns mainGlobals mg) (hfa:mg "law"=some (.ref fa))  {CFronted:Addr}{CLater:Addr}{CWord:Addr}{CText:Addr}{CGoing:Addr}{CWalk:Addr}{f_Fronted___init__:Addr}{od_Fronted___init__ an_Fronted___init__:Option Addr}{sl_Fronted___init__:Array (Option Value)}{oc_Fronted___init__ kV_Fronted___init__ dc_Fronted___init__ pm_Fronted___init__ cd_Fronted___init__ ct_Fronted___init__:Value}{f_Later___init__:Addr}{od_Later___init__ an_Later___init__:Option Addr}{sl_Later___init__:Array (Option Value)}{oc_Later___init__ kV_Later___init__ dc_Later___init__ pm_Later___init__ cd_Later___init__ ct_Later___init__:Value}{f_Word___init__:Addr}{od_Word___init__ an_Word___init__:Option Addr}{sl_Word___init__:Array (Option Value)}{oc_Word___init__ kV_Word___init__ dc_Word___init__ pm_Word___init__ cd_Word___init__ ct_Word___init__:Value}{f_Word_body_parts:Addr}{od_Word_body_parts an_Word_body_parts:Option Addr}{sl_Word_body_parts:Array (Option Value)}{oc_Word_body_parts kV_Word_body_parts dc_Word_body_parts pm_Word_body_parts cd_Word_body_parts ct_Word_body_parts:Value}{f_Text___init__:Addr}{od_Text___init__ an_Text___init__:Option Addr}{sl_Text___init__:Array (Option Value)}{oc_Text___init__ kV_Text___init__ dc_Text___init__ pm_Text___init__ cd_Text___init__ ct_Text___init__:Value}{f_Text_word_at:Addr}{od_Text_word_at an_Text_word_at:Option Addr}{sl_Text_word_at:Array (Option Value)}{oc_Text_word_at kV_Text_word_at dc_Text_word_at pm_Text_word_at cd_Text_word_at ct_Text_word_at:Value}{f_Going___init__:Addr}{od_Going___init__ an_Going___init__:Option Addr}{sl_Going___init__:Array (Option Value)}{oc_Going___init__ kV_Going___init__ dc_Going___init__ pm_Going___init__ cd_Going___init__ ct_Going___init__:Value}{f_Walk___init__:Addr}{od_Walk___init__ an_Walk___init__:Option Addr}{sl_Walk___init__:Array (Option Value)}{oc_Walk___init__ kV_Walk___init__ dc_Walk___init__ pm_Walk___init__ cd_Walk___init__ ct_Walk___init__:Value}{f_Walk_at_end:Addr}{od_Walk_at_end an_Walk_at_end:Option Addr}{sl_Walk_at_end:Array (Option Value)}{oc_Walk_at_end kV_Walk_at_end dc_Walk_at_end pm_Walk_at_end cd_Walk_at_end ct_Walk_at_end:Value}{f_Walk_top:Addr}{od_Walk_top an_Walk_top:Option Addr}{sl_Walk_top:Array (Option Value)}{oc_Walk_top kV_Walk_top dc_Walk_top pm_Walk_top cd_Walk_top ct_Walk_top:Value}{f_Walk_tally:Addr}{od_Walk_tally an_Walk_tally:Option Addr}{sl_Walk_tally:Array (Option Value)}{oc_Walk_tally kV_Walk_tally dc_Walk_tally pm_Walk_tally cd_Walk_tally ct_Walk_tally:Value}{f_Walk_step:Addr}{od_Walk_step an_Walk_step:Option Addr}{sl_Walk_step:Array (Option Value)}{oc_Walk_step kV_Walk_step dc_Walk_step pm_Walk_step cd_Walk_step ct_Walk_step:Value}{f_Walk_move:Addr}{od_Walk_move an_Walk_move:Option Addr}{sl_Walk_move:Array (Option Value)}{oc_Walk_move kV_Walk_move dc_Walk_move pm_Walk_move cd_Walk_move ct_Walk_move:Value}{u_FORK_NO:Value}{u_FORK_YES:Value}{u_WHILE_PAST:Value}{u_WHILE_INTO:Value}{u_NO_WORD:Value}{u_DROP:Value}{u_SWAP:Value}{u_FRONT:Value}{u_PART:Value}{u_TURN:Value}{u_PLACES:Value}{u_SHUT:Value}{u_BODIES:Value}{a_LOOKS:Addr}{o_LOOKS:Obj}{a_NAMES:Addr}{o_NAMES:Obj}{u_NAMELESS:Value}{u_FORK:Value}{u_WHILE:Value}{u_LAY:Value}{u_LAID:Value}{u_TOP_REACHED:Value}{u_INTO_NO:Value}{u_INTO_YES:Value}{u_STACK_PARTED:Value}{a_WORKED:Addr}{o_WORKED:Obj}{u_PAST_BODY:Value}{u_INTO_BODY:Value}{u_COPIED:Value}{u_TWIN:Value}
  {od1 an1 od2 an2 od3 an3 od4 an4 od5 an5 od6 an6 od7 an7 od8 an8 od9 an9 od10 an10 od11 an11 od12 an12 od13 an13 od14 an14 od15 an15 od16 an16 od17 an17 od18 an18 od19 an19 od20 an20 od21 an21 od22 an22 od23 an23 od24 an24 od25 an25 od26 an26 od27 an27 od28 an28 od29 an29 od30 an30 od31 an31 od32 an32 od33 an33 od34 an34 od35 an35 od36 an36 od37 an37 od38 an38 od39 an39 od40 an40 od41 an41 od42 an42 od43 an43 od44 an44 od45 an45 od46 an46:Option Addr}{sl1 sl2 sl3 sl4 sl5 sl6 sl7 sl8 sl9 sl10 sl11 sl12 sl13 sl14 sl15 sl16 sl17 sl18 sl19 sl20 sl21 sl22 sl23 sl24 sl25 sl26 sl27 sl28 sl29 sl30 sl31 sl32 sl33 sl34 sl35 sl36 sl37 sl38 sl39 sl40 sl41 sl42 sl43 sl44 sl45 sl46:Array (Option Value)}{oc1 kV1 dc1 pm1 cd1 ct1 oc2 kV2 dc2 pm2 cd2 ct2 oc3 kV3 dc3 pm3 cd3 ct3 oc4 kV4 dc4 pm4 cd4 ct4 oc5 kV5 dc5 pm5 cd5 ct5 oc6 kV6 dc6 pm6 cd6 ct6 oc7 kV7 dc7 pm7 cd7 ct7 oc8 kV8 dc8 pm8 cd8 ct8 oc9 kV9 dc9 pm9 cd9 ct9 oc10 kV10 dc10 pm10 cd10 ct10 oc11 kV11 dc11 pm11 cd11 ct11 oc12 kV12 dc12 pm12 cd12 ct12 oc13 kV13 dc13 pm13 cd13 ct13 oc14 kV14 dc14 pm14 cd14 ct14 oc15 kV15 dc15 pm15 cd15 ct15 oc16 kV16 dc16 pm16 cd16 ct16 oc17 kV17 dc17 pm17 cd17 ct17 oc18 kV18 dc18 pm18 cd18 ct18 oc19 kV19 dc19 pm19 cd19 ct19 oc20 kV20 dc20 pm20 cd20 ct20 oc21 kV21 dc21 pm21 cd21 ct21 oc22 kV22 dc22 pm22 cd22 ct22 oc23 kV23 dc23 pm23 cd23 ct23 oc24 kV24 dc24 pm24 cd24 ct24 oc25 kV25 dc25 pm25 cd25 ct25 oc26 kV26 dc26 pm26 cd26 ct26 oc27 kV27 dc27 pm27 cd27 ct27 oc28 kV28 dc28 pm28 cd28 ct28 oc29 kV29 dc29 pm29 cd29 ct29 oc30 kV30 dc30 pm30 cd30 ct30 oc31 kV31 dc31 pm31 cd31 ct31 oc32 kV32 dc32 pm32 cd32 ct32 oc33 kV33 dc33 pm33 cd33 ct33 oc34 kV34 dc34 pm34 cd34 ct34 oc35 kV35 dc35 pm35 cd35 ct35 oc36 kV36 dc36 pm36 cd36 ct36 oc37 kV37 dc37 pm37 cd37 ct37 oc38 kV38 dc38 pm38 cd38 ct38 oc39 kV39 dc39 pm39 cd39 ct39 oc40 kV40 dc40 pm40 cd40 ct40 oc41 kV41 dc41 pm41 cd41 ct41 oc42 kV42 dc42 pm42 cd42 ct42 oc43 kV43 dc43 pm43 cd43 ct43 oc44 kV44 dc44 pm44 cd44 ct44 oc45 kV45 dc45 pm45 cd45 ct45 oc46 kV46 dc46 pm46 cd46 ct46:Value}
  (a1:PySem.W.nsIn K mainGlobals "first"=some (some (.ref f1))) (l1:K.lookup f1=some ⟨oc1,od1,.func (PySem.W.fnOf "first" "first" (defArgs s_first) (defBody s_first) (defScope s_first) .none kV1 dc1 pm1 an1 cd1 ct1),sl1⟩) (c1:PySem.W.codeIn K cd1 "first"=true) (k1:PySem.W.keepIn K (.ref f1)=true)
  (a2:PySem.W.nsIn K mainGlobals "rest"=some (some (.ref f2))) (l2:K.lookup f2=some ⟨oc2,od2,.func (PySem.W.fnOf "rest" "rest" (defArgs s_rest) (defBody s_rest) (defScope s_rest) .none kV2 dc2 pm2 an2 cd2 ct2),sl2⟩) (c2:PySem.W.codeIn K cd2 "rest"=true) (k2:PySem.W.keepIn K (.ref f2)=true)
  (a3:PySem.W.nsIn K mainGlobals "parts"=some (some (.ref f3))) (l3:K.lookup f3=some ⟨oc3,od3,.func (PySem.W.fnOf "parts" "parts" (defArgs s_parts) (defBody s_parts) (defScope s_parts) .none kV3 dc3 pm3 an3 cd3 ct3),sl3⟩) (c3:PySem.W.codeIn K cd3 "parts"=true) (k3:PySem.W.keepIn K (.ref f3)=true)
  (a4:PySem.W.nsIn K mainGlobals "sort_of"=some (some (.ref f4))) (l4:K.lookup f4=some ⟨oc4,od4,.func (PySem.W.fnOf "sort_of" "sort_of" (defArgs s_sort_of) (defBody s_sort_of) (defScope s_sort_of) .none kV4 dc4 pm4 an4 cd4 ct4),sl4⟩) (c4:PySem.W.codeIn K cd4 "sort_of"=true) (k4:PySem.W.keepIn K (.ref f4)=true)
  (a5:PySem.W.nsIn K mainGlobals "load_of"=some (some (.ref f5))) (l5:K.lookup f5=some ⟨oc5,od5,.func (PySem.W.fnOf "load_of" "load_of" (defArgs s_load_of) (defBody s_load_of) (defScope s_load_of) .none kV5 dc5 pm5 an5 cd5 ct5),sl5⟩) (c5:PySem.W.codeIn K cd5 "load_of"=true) (k5:PySem.W.keepIn K (.ref f5)=true)
  (a6:PySem.W.nsIn K mainGlobals "lay"=some (some (.ref f6))) (l6:K.lookup f6=some ⟨oc6,od6,.func (PySem.W.fnOf "lay" "lay" (defArgs s_lay) (defBody s_lay) (defScope s_lay) .none kV6 dc6 pm6 an6 cd6 ct6),sl6⟩) (c6:PySem.W.codeIn K cd6 "lay"=true) (k6:PySem.W.keepIn K (.ref f6)=true)
  (a7:PySem.W.nsIn K mainGlobals "plain"=some (some (.ref f7))) (l7:K.lookup f7=some ⟨oc7,od7,.func (PySem.W.fnOf "plain" "plain" (defArgs s_plain) (defBody s_plain) (defScope s_plain) .none kV7 dc7 pm7 an7 cd7 ct7),sl7⟩) (c7:PySem.W.codeIn K cd7 "plain"=true) (k7:PySem.W.keepIn K (.ref f7)=true)
  (a8:PySem.W.nsIn K mainGlobals "fork"=some (some (.ref f8))) (l8:K.lookup f8=some ⟨oc8,od8,.func (PySem.W.fnOf "fork" "fork" (defArgs s_fork) (defBody s_fork) (defScope s_fork) .none kV8 dc8 pm8 an8 cd8 ct8),sl8⟩) (c8:PySem.W.codeIn K cd8 "fork"=true) (k8:PySem.W.keepIn K (.ref f8)=true)
  (a9:PySem.W.nsIn K mainGlobals "loop"=some (some (.ref f9))) (l9:K.lookup f9=some ⟨oc9,od9,.func (PySem.W.fnOf "loop" "loop" (defArgs s_loop) (defBody s_loop) (defScope s_loop) .none kV9 dc9 pm9 an9 cd9 ct9),sl9⟩) (c9:PySem.W.codeIn K cd9 "loop"=true) (k9:PySem.W.keepIn K (.ref f9)=true)
  (a10:PySem.W.nsIn K mainGlobals "plains"=some (some (.ref f10))) (l10:K.lookup f10=some ⟨oc10,od10,.func (PySem.W.fnOf "plains" "plains" (defArgs s_plains) (defBody s_plains) (defScope s_plains) .none kV10 dc10 pm10 an10 cd10 ct10),sl10⟩) (c10:PySem.W.codeIn K cd10 "plains"=true) (k10:PySem.W.keepIn K (.ref f10)=true)
  (a11:PySem.W.nsIn K mainGlobals "selfrunner"=some (some (.ref f11))) (l11:K.lookup f11=some ⟨oc11,od11,.func (PySem.W.fnOf "selfrunner" "selfrunner" (defArgs s_selfrunner) (defBody s_selfrunner) (defScope s_selfrunner) .none kV11 dc11 pm11 an11 cd11 ct11),sl11⟩) (c11:PySem.W.codeIn K cd11 "selfrunner"=true) (k11:PySem.W.keepIn K (.ref f11)=true)
  (a12:PySem.W.nsIn K mainGlobals "opening"=some (some (.ref f12))) (l12:K.lookup f12=some ⟨oc12,od12,.func (PySem.W.fnOf "opening" "opening" (defArgs s_opening) (defBody s_opening) (defScope s_opening) .none kV12 dc12 pm12 an12 cd12 ct12),sl12⟩) (c12:PySem.W.codeIn K cd12 "opening"=true) (k12:PySem.W.keepIn K (.ref f12)=true)
  (a13:PySem.W.nsIn K mainGlobals "from_head"=some (some (.ref f13))) (l13:K.lookup f13=some ⟨oc13,od13,.func (PySem.W.fnOf "from_head" "from_head" (defArgs s_from_head) (defBody s_from_head) (defScope s_from_head) .none kV13 dc13 pm13 an13 cd13 ct13),sl13⟩) (c13:PySem.W.codeIn K cd13 "from_head"=true) (k13:PySem.W.keepIn K (.ref f13)=true)
  (a14:PySem.W.nsIn K mainGlobals "stepped"=some (some (.ref f14))) (l14:K.lookup f14=some ⟨oc14,od14,.func (PySem.W.fnOf "stepped" "stepped" (defArgs s_stepped) (defBody s_stepped) (defScope s_stepped) .none kV14 dc14 pm14 an14 cd14 ct14),sl14⟩) (c14:PySem.W.codeIn K cd14 "stepped"=true) (k14:PySem.W.keepIn K (.ref f14)=true)
  (a15:PySem.W.nsIn K mainGlobals "by_sort"=some (some (.ref f15))) (l15:K.lookup f15=some ⟨oc15,od15,.func (PySem.W.fnOf "by_sort" "by_sort" (defArgs s_by_sort) (defBody s_by_sort) (defScope s_by_sort) .none kV15 dc15 pm15 an15 cd15 ct15),sl15⟩) (c15:PySem.W.codeIn K cd15 "by_sort"=true) (k15:PySem.W.keepIn K (.ref f15)=true)
  (a16:PySem.W.nsIn K mainGlobals "gone_of"=some (some (.ref f16))) (l16:K.lookup f16=some ⟨oc16,od16,.func (PySem.W.fnOf "gone_of" "gone_of" (defArgs s_gone_of) (defBody s_gone_of) (defScope s_gone_of) .none kV16 dc16 pm16 an16 cd16 ct16),sl16⟩) (c16:PySem.W.codeIn K cd16 "gone_of"=true) (k16:PySem.W.keepIn K (.ref f16)=true)
  (a17:PySem.W.nsIn K mainGlobals "while_gone"=some (some (.ref f17))) (l17:K.lookup f17=some ⟨oc17,od17,.func (PySem.W.fnOf "while_gone" "while_gone" (defArgs s_while_gone) (defBody s_while_gone) (defScope s_while_gone) .none kV17 dc17 pm17 an17 cd17 ct17),sl17⟩) (c17:PySem.W.codeIn K cd17 "while_gone"=true) (k17:PySem.W.keepIn K (.ref f17)=true)
  (a18:PySem.W.nsIn K mainGlobals "nameless_gone"=some (some (.ref f18))) (l18:K.lookup f18=some ⟨oc18,od18,.func (PySem.W.fnOf "nameless_gone" "nameless_gone" (defArgs s_nameless_gone) (defBody s_nameless_gone) (defScope s_nameless_gone) .none kV18 dc18 pm18 an18 cd18 ct18),sl18⟩) (c18:PySem.W.codeIn K cd18 "nameless_gone"=true) (k18:PySem.W.keepIn K (.ref f18)=true)
  (a19:PySem.W.nsIn K mainGlobals "begin"=some (some (.ref f19))) (l19:K.lookup f19=some ⟨oc19,od19,.func (PySem.W.fnOf "begin" "begin" (defArgs s_begin) (defBody s_begin) (defScope s_begin) .none kV19 dc19 pm19 an19 cd19 ct19),sl19⟩) (c19:PySem.W.codeIn K cd19 "begin"=true) (k19:PySem.W.keepIn K (.ref f19)=true)
  (a20:PySem.W.nsIn K mainGlobals "place_of"=some (some (.ref f20))) (l20:K.lookup f20=some ⟨oc20,od20,.func (PySem.W.fnOf "place_of" "place_of" (defArgs s_place_of) (defBody s_place_of) (defScope s_place_of) .none kV20 dc20 pm20 an20 cd20 ct20),sl20⟩) (c20:PySem.W.codeIn K cd20 "place_of"=true) (k20:PySem.W.keepIn K (.ref f20)=true)
  (a21:PySem.W.nsIn K mainGlobals "cost"=some (some (.ref f21))) (l21:K.lookup f21=some ⟨oc21,od21,.func (PySem.W.fnOf "cost" "cost" (defArgs s_cost) (defBody s_cost) (defScope s_cost) .none kV21 dc21 pm21 an21 cd21 ct21),sl21⟩) (c21:PySem.W.codeIn K cd21 "cost"=true) (k21:PySem.W.keepIn K (.ref f21)=true)
  (a22:PySem.W.nsIn K mainGlobals "selfmade"=some (some (.ref f22))) (l22:K.lookup f22=some ⟨oc22,od22,.func (PySem.W.fnOf "selfmade" "selfmade" (defArgs s_selfmade) (defBody s_selfmade) (defScope s_selfmade) .none kV22 dc22 pm22 an22 cd22 ct22),sl22⟩) (c22:PySem.W.codeIn K cd22 "selfmade"=true) (k22:PySem.W.keepIn K (.ref f22)=true)
  (a23:PySem.W.nsIn K mainGlobals "selfmaker"=some (some (.ref f23))) (l23:K.lookup f23=some ⟨oc23,od23,.func (PySem.W.fnOf "selfmaker" "selfmaker" (defArgs s_selfmaker) (defBody s_selfmaker) (defScope s_selfmaker) .none kV23 dc23 pm23 an23 cd23 ct23),sl23⟩) (c23:PySem.W.codeIn K cd23 "selfmaker"=true) (k23:PySem.W.keepIn K (.ref f23)=true)
  (a24:PySem.W.nsIn K mainGlobals "lay_made"=some (some (.ref f24))) (l24:K.lookup f24=some ⟨oc24,od24,.func (PySem.W.fnOf "lay_made" "lay_made" (defArgs s_lay_made) (defBody s_lay_made) (defScope s_lay_made) .none kV24 dc24 pm24 an24 cd24 ct24),sl24⟩) (c24:PySem.W.codeIn K cd24 "lay_made"=true) (k24:PySem.W.keepIn K (.ref f24)=true)
  (a25:PySem.W.nsIn K mainGlobals "knot"=some (some (.ref f25))) (l25:K.lookup f25=some ⟨oc25,od25,.func (PySem.W.fnOf "knot" "knot" (defArgs s_knot) (defBody s_knot) (defScope s_knot) .none kV25 dc25 pm25 an25 cd25 ct25),sl25⟩) (c25:PySem.W.codeIn K cd25 "knot"=true) (k25:PySem.W.keepIn K (.ref f25)=true)
  (a26:PySem.W.nsIn K mainGlobals "knot_body"=some (some (.ref f26))) (l26:K.lookup f26=some ⟨oc26,od26,.func (PySem.W.fnOf "knot_body" "knot_body" (defArgs s_knot_body) (defBody s_knot_body) (defScope s_knot_body) .none kV26 dc26 pm26 an26 cd26 ct26),sl26⟩) (c26:PySem.W.codeIn K cd26 "knot_body"=true) (k26:PySem.W.keepIn K (.ref f26)=true)
  (a27:PySem.W.nsIn K mainGlobals "both_run"=some (some (.ref f27))) (l27:K.lookup f27=some ⟨oc27,od27,.func (PySem.W.fnOf "both_run" "both_run" (defArgs s_both_run) (defBody s_both_run) (defScope s_both_run) .none kV27 dc27 pm27 an27 cd27 ct27),sl27⟩) (c27:PySem.W.codeIn K cd27 "both_run"=true) (k27:PySem.W.keepIn K (.ref f27)=true)
  (a28:PySem.W.nsIn K mainGlobals "first_of"=some (some (.ref f28))) (l28:K.lookup f28=some ⟨oc28,od28,.func (PySem.W.fnOf "first_of" "first_of" (defArgs s_first_of) (defBody s_first_of) (defScope s_first_of) .none kV28 dc28 pm28 an28 cd28 ct28),sl28⟩) (c28:PySem.W.codeIn K cd28 "first_of"=true) (k28:PySem.W.keepIn K (.ref f28)=true)
  (a29:PySem.W.nsIn K mainGlobals "rest_of"=some (some (.ref f29))) (l29:K.lookup f29=some ⟨oc29,od29,.func (PySem.W.fnOf "rest_of" "rest_of" (defArgs s_rest_of) (defBody s_rest_of) (defScope s_rest_of) .none kV29 dc29 pm29 an29 cd29 ct29),sl29⟩) (c29:PySem.W.codeIn K cd29 "rest_of"=true) (k29:PySem.W.keepIn K (.ref f29)=true)
  (a30:PySem.W.nsIn K mainGlobals "later"=some (some (.ref f30))) (l30:K.lookup f30=some ⟨oc30,od30,.func (PySem.W.fnOf "later" "later" (defArgs s_later) (defBody s_later) (defScope s_later) .none kV30 dc30 pm30 an30 cd30 ct30),sl30⟩) (c30:PySem.W.codeIn K cd30 "later"=true) (k30:PySem.W.keepIn K (.ref f30)=true)
  (a31:PySem.W.nsIn K mainGlobals "unfronted"=some (some (.ref f31))) (l31:K.lookup f31=some ⟨oc31,od31,.func (PySem.W.fnOf "unfronted" "unfronted" (defArgs s_unfronted) (defBody s_unfronted) (defScope s_unfronted) .none kV31 dc31 pm31 an31 cd31 ct31),sl31⟩) (c31:PySem.W.codeIn K cd31 "unfronted"=true) (k31:PySem.W.keepIn K (.ref f31)=true)
  (a32:PySem.W.nsIn K mainGlobals "parts_within"=some (some (.ref f32))) (l32:K.lookup f32=some ⟨oc32,od32,.func (PySem.W.fnOf "parts_within" "parts_within" (defArgs s_parts_within) (defBody s_parts_within) (defScope s_parts_within) .none kV32 dc32 pm32 an32 cd32 ct32),sl32⟩) (c32:PySem.W.codeIn K cd32 "parts_within"=true) (k32:PySem.W.keepIn K (.ref f32)=true)
  (a33:PySem.W.nsIn K mainGlobals "as_tree"=some (some (.ref f33))) (l33:K.lookup f33=some ⟨oc33,od33,.func (PySem.W.fnOf "as_tree" "as_tree" (defArgs s_as_tree) (defBody s_as_tree) (defScope s_as_tree) .none kV33 dc33 pm33 an33 cd33 ct33),sl33⟩) (c33:PySem.W.codeIn K cd33 "as_tree"=true) (k33:PySem.W.keepIn K (.ref f33)=true)
  (a34:PySem.W.nsIn K mainGlobals "run"=some (some (.ref f34))) (l34:K.lookup f34=some ⟨oc34,od34,.func (PySem.W.fnOf "run" "run" (defArgs s_run) (defBody s_run) (defScope s_run) .none kV34 dc34 pm34 an34 cd34 ct34),sl34⟩) (c34:PySem.W.codeIn K cd34 "run"=true) (k34:PySem.W.keepIn K (.ref f34)=true)
  (a35:PySem.W.nsIn K mainGlobals "walked"=some (some (.ref f35))) (l35:K.lookup f35=some ⟨oc35,od35,.func (PySem.W.fnOf "walked" "walked" (defArgs s_walked) (defBody s_walked) (defScope s_walked) .none kV35 dc35 pm35 an35 cd35 ct35),sl35⟩) (c35:PySem.W.codeIn K cd35 "walked"=true) (k35:PySem.W.keepIn K (.ref f35)=true)
  (a36:PySem.W.nsIn K mainGlobals "work"=some (some (.ref f36))) (l36:K.lookup f36=some ⟨oc36,od36,.func (PySem.W.fnOf "work" "work" (defArgs s_work) (defBody s_work) (defScope s_work) .none kV36 dc36 pm36 an36 cd36 ct36),sl36⟩) (c36:PySem.W.codeIn K cd36 "work"=true) (k36:PySem.W.keepIn K (.ref f36)=true)
  (a37:PySem.W.nsIn K mainGlobals "_law_deck"=some (some (.ref f37))) (l37:K.lookup f37=some ⟨oc37,od37,.func (PySem.W.fnOf "_law_deck" "_law_deck" (defArgs s__law_deck) (defBody s__law_deck) (defScope s__law_deck) .none kV37 dc37 pm37 an37 cd37 ct37),sl37⟩) (c37:PySem.W.codeIn K cd37 "_law_deck"=true) (k37:PySem.W.keepIn K (.ref f37)=true)
  (a38:PySem.W.nsIn K mainGlobals "_law_next"=some (some (.ref f38))) (l38:K.lookup f38=some ⟨oc38,od38,.func (PySem.W.fnOf "_law_next" "_law_next" (defArgs s__law_next) (defBody s__law_next) (defScope s__law_next) .none kV38 dc38 pm38 an38 cd38 ct38),sl38⟩) (c38:PySem.W.codeIn K cd38 "_law_next"=true) (k38:PySem.W.keepIn K (.ref f38)=true)
  (a39:PySem.W.nsIn K mainGlobals "_law_tree"=some (some (.ref f39))) (l39:K.lookup f39=some ⟨oc39,od39,.func (PySem.W.fnOf "_law_tree" "_law_tree" (defArgs s__law_tree) (defBody s__law_tree) (defScope s__law_tree) .none kV39 dc39 pm39 an39 cd39 ct39),sl39⟩) (c39:PySem.W.codeIn K cd39 "_law_tree"=true) (k39:PySem.W.keepIn K (.ref f39)=true)
  (a40:PySem.W.nsIn K mainGlobals "_law_plain"=some (some (.ref f40))) (l40:K.lookup f40=some ⟨oc40,od40,.func (PySem.W.fnOf "_law_plain" "_law_plain" (defArgs s__law_plain) (defBody s__law_plain) (defScope s__law_plain) .none kV40 dc40 pm40 an40 cd40 ct40),sl40⟩) (c40:PySem.W.codeIn K cd40 "_law_plain"=true) (k40:PySem.W.keepIn K (.ref f40)=true)
  (a41:PySem.W.nsIn K mainGlobals "_law_marked"=some (some (.ref f41))) (l41:K.lookup f41=some ⟨oc41,od41,.func (PySem.W.fnOf "_law_marked" "_law_marked" (defArgs s__law_marked) (defBody s__law_marked) (defScope s__law_marked) .none kV41 dc41 pm41 an41 cd41 ct41),sl41⟩) (c41:PySem.W.codeIn K cd41 "_law_marked"=true) (k41:PySem.W.keepIn K (.ref f41)=true)
  (a42:PySem.W.nsIn K mainGlobals "_law_free"=some (some (.ref f42))) (l42:K.lookup f42=some ⟨oc42,od42,.func (PySem.W.fnOf "_law_free" "_law_free" (defArgs s__law_free) (defBody s__law_free) (defScope s__law_free) .none kV42 dc42 pm42 an42 cd42 ct42),sl42⟩) (c42:PySem.W.codeIn K cd42 "_law_free"=true) (k42:PySem.W.keepIn K (.ref f42)=true)
  (a43:PySem.W.nsIn K mainGlobals "_law_filled"=some (some (.ref f43))) (l43:K.lookup f43=some ⟨oc43,od43,.func (PySem.W.fnOf "_law_filled" "_law_filled" (defArgs s__law_filled) (defBody s__law_filled) (defScope s__law_filled) .none kV43 dc43 pm43 an43 cd43 ct43),sl43⟩) (c43:PySem.W.codeIn K cd43 "_law_filled"=true) (k43:PySem.W.keepIn K (.ref f43)=true)
  (a44:PySem.W.nsIn K mainGlobals "_law_builder"=some (some (.ref f44))) (l44:K.lookup f44=some ⟨oc44,od44,.func (PySem.W.fnOf "_law_builder" "_law_builder" (defArgs s__law_builder) (defBody s__law_builder) (defScope s__law_builder) .none kV44 dc44 pm44 an44 cd44 ct44),sl44⟩) (c44:PySem.W.codeIn K cd44 "_law_builder"=true) (k44:PySem.W.keepIn K (.ref f44)=true)
  (a45:PySem.W.nsIn K mainGlobals "_law_maker"=some (some (.ref f45))) (l45:K.lookup f45=some ⟨oc45,od45,.func (PySem.W.fnOf "_law_maker" "_law_maker" (defArgs s__law_maker) (defBody s__law_maker) (defScope s__law_maker) .none kV45 dc45 pm45 an45 cd45 ct45),sl45⟩) (c45:PySem.W.codeIn K cd45 "_law_maker"=true) (k45:PySem.W.keepIn K (.ref f45)=true)
  (a46:PySem.W.nsIn K mainGlobals "law"=some (some (.ref f46))) (l46:K.lookup f46=some ⟨oc46,od46,.func (PySem.W.fnOf "law" "law" (defArgs s_law) (defBody s_law) (defScope s_law) .none kV46 dc46 pm46 an46 cd46 ct46),sl46⟩) (c46:PySem.W.codeIn K cd46 "law"=true) (k46:PySem.W.keepIn K (.ref f46)=true)
  (aC_Fronted:PySem.W.nsIn K mainGlobals "Fronted"=some (some (.ref CFronted)))
  (pg_Fronted:PySem.W.plainGet K CFronted Str.empty=true)
  (hd_Fronted:PySem.W.hasDictIn K CFronted=true)
  (po_Fronted:PySem.W.plainOver K CFronted=true)
  (sa_Fronted:PySem.W.findIn K (.ref CFronted) "__setattr__"=some (some (.builtin "object.__setattr__")))
  (mk_Fronted:PySem.W.makesIn K CFronted=true)
  (kc_Fronted:PySem.W.keepIn K (.ref CFronted)=true)
  (n_Fronted_item:PySem.W.findIn K (.ref CFronted) "item"=some none)
  (n_Fronted_behind:PySem.W.findIn K (.ref CFronted) "behind"=some none)
  (aC_Later:PySem.W.nsIn K mainGlobals "Later"=some (some (.ref CLater)))
  (pg_Later:PySem.W.plainGet K CLater Str.empty=true)
  (hd_Later:PySem.W.hasDictIn K CLater=true)
  (po_Later:PySem.W.plainOver K CLater=true)
  (sa_Later:PySem.W.findIn K (.ref CLater) "__setattr__"=some (some (.builtin "object.__setattr__")))
  (mk_Later:PySem.W.makesIn K CLater=true)
  (kc_Later:PySem.W.keepIn K (.ref CLater)=true)
  (n_Later_tree:PySem.W.findIn K (.ref CLater) "tree"=some none)
  (n_Later_place:PySem.W.findIn K (.ref CLater) "place"=some none)
  (aC_Word:PySem.W.nsIn K mainGlobals "Word"=some (some (.ref CWord)))
  (pg_Word:PySem.W.plainGet K CWord Str.empty=true)
  (hd_Word:PySem.W.hasDictIn K CWord=true)
  (po_Word:PySem.W.plainOver K CWord=true)
  (sa_Word:PySem.W.findIn K (.ref CWord) "__setattr__"=some (some (.builtin "object.__setattr__")))
  (mk_Word:PySem.W.makesIn K CWord=true)
  (kc_Word:PySem.W.keepIn K (.ref CWord)=true)
  (n_Word_kind:PySem.W.findIn K (.ref CWord) "kind"=some none)
  (n_Word_load:PySem.W.findIn K (.ref CWord) "load"=some none)
  (n_Word_yes:PySem.W.findIn K (.ref CWord) "yes"=some none)
  (n_Word_no:PySem.W.findIn K (.ref CWord) "no"=some none)
  (n_Word_body:PySem.W.findIn K (.ref CWord) "body"=some none)
  (n_Word_size:PySem.W.findIn K (.ref CWord) "size"=some none)
  (aC_Text:PySem.W.nsIn K mainGlobals "Text"=some (some (.ref CText)))
  (pg_Text:PySem.W.plainGet K CText Str.empty=true)
  (hd_Text:PySem.W.hasDictIn K CText=true)
  (po_Text:PySem.W.plainOver K CText=true)
  (sa_Text:PySem.W.findIn K (.ref CText) "__setattr__"=some (some (.builtin "object.__setattr__")))
  (mk_Text:PySem.W.makesIn K CText=true)
  (kc_Text:PySem.W.keepIn K (.ref CText)=true)
  (n_Text_tree:PySem.W.findIn K (.ref CText) "tree"=some none)
  (n_Text_words:PySem.W.findIn K (.ref CText) "words"=some none)
  (aC_Going:PySem.W.nsIn K mainGlobals "Going"=some (some (.ref CGoing)))
  (pg_Going:PySem.W.plainGet K CGoing Str.empty=true)
  (hd_Going:PySem.W.hasDictIn K CGoing=true)
  (po_Going:PySem.W.plainOver K CGoing=true)
  (sa_Going:PySem.W.findIn K (.ref CGoing) "__setattr__"=some (some (.builtin "object.__setattr__")))
  (mk_Going:PySem.W.makesIn K CGoing=true)
  (kc_Going:PySem.W.keepIn K (.ref CGoing)=true)
  (n_Going_text:PySem.W.findIn K (.ref CGoing) "text"=some none)
  (n_Going_place:PySem.W.findIn K (.ref CGoing) "place"=some none)
  (aC_Walk:PySem.W.nsIn K mainGlobals "Walk"=some (some (.ref CWalk)))
  (pg_Walk:PySem.W.plainGet K CWalk Str.empty=true)
  (hd_Walk:PySem.W.hasDictIn K CWalk=true)
  (po_Walk:PySem.W.plainOver K CWalk=true)
  (sa_Walk:PySem.W.findIn K (.ref CWalk) "__setattr__"=some (some (.builtin "object.__setattr__")))
  (mk_Walk:PySem.W.makesIn K CWalk=true)
  (kc_Walk:PySem.W.keepIn K (.ref CWalk)=true)
  (n_Walk_goings:PySem.W.findIn K (.ref CWalk) "goings"=some none)
  (n_Walk_stack:PySem.W.findIn K (.ref CWalk) "stack"=some none)
  (n_Walk_numbers:PySem.W.findIn K (.ref CWalk) "numbers"=some none)
  (n_Walk_left:PySem.W.findIn K (.ref CWalk) "left"=some none)
  (eq_Fronted:PySem.W.findIn K (.ref CFronted) "__eq__"=some (some (.builtin "object.__eq__")))
  (ob_Fronted:PySem.W.mroIn K CFronted (.type "object")=some true)
  (tu_Fronted:PySem.W.mroIn K CFronted (.type "tuple")=some false)
  (sb_Fronted:PySem.W.subIn K (.type "tuple") (.ref CFronted)=some false)
  (ca_Fronted:PySem.W.findIn K (.ref CFronted) "__class__"=some (some (.builtin "object.__class__")))
  (eq_Later:PySem.W.findIn K (.ref CLater) "__eq__"=some (some (.builtin "object.__eq__")))
  (ob_Later:PySem.W.mroIn K CLater (.type "object")=some true)
  (tu_Later:PySem.W.mroIn K CLater (.type "tuple")=some false)
  (sb_Later:PySem.W.subIn K (.type "tuple") (.ref CLater)=some false)
  (ca_Later:PySem.W.findIn K (.ref CLater) "__class__"=some (some (.builtin "object.__class__")))
  (cn:PySem.W.specialIn K (.builtin "object.__class__") "__get__"=some (some (.builtin "getset_descriptor.__get__")))
  (ct:PySem.W.takesIn K (.builtin "object.__class__")=some true)
  (iTF:PySem.W.kitOne K (.type "tuple") (.ref CFronted)=some false)
  (iTL:PySem.W.kitOne K (.type "tuple") (.ref CLater)=some false)
  (iFF:PySem.W.kitOne K (.ref CFronted) (.ref CFronted)=some true)
  (iLF:PySem.W.kitOne K (.ref CLater) (.ref CFronted)=some false)
  (iLL:PySem.W.kitOne K (.ref CLater) (.ref CLater)=some true)
  (a_Fronted___init__:PySem.W.findIn K (.ref CFronted) "__init__"=some (some (.ref f_Fronted___init__)))
  (i_Fronted___init__:PySem.W.isFn K (.ref f_Fronted___init__)=true)
  (l_Fronted___init__:K.lookup f_Fronted___init__=some ⟨oc_Fronted___init__,od_Fronted___init__,.func (PySem.W.fnOf "__init__" "Fronted.__init__" (defArgs s_Fronted___init__) (defBody s_Fronted___init__) (defScope s_Fronted___init__) .none kV_Fronted___init__ dc_Fronted___init__ pm_Fronted___init__ an_Fronted___init__ cd_Fronted___init__ ct_Fronted___init__),sl_Fronted___init__⟩)
  (c_Fronted___init__:PySem.W.codeIn K cd_Fronted___init__ "Fronted.__init__"=true)
  (k_Fronted___init__:PySem.W.keepIn K (.ref f_Fronted___init__)=true)
  (a_Later___init__:PySem.W.findIn K (.ref CLater) "__init__"=some (some (.ref f_Later___init__)))
  (i_Later___init__:PySem.W.isFn K (.ref f_Later___init__)=true)
  (l_Later___init__:K.lookup f_Later___init__=some ⟨oc_Later___init__,od_Later___init__,.func (PySem.W.fnOf "__init__" "Later.__init__" (defArgs s_Later___init__) (defBody s_Later___init__) (defScope s_Later___init__) .none kV_Later___init__ dc_Later___init__ pm_Later___init__ an_Later___init__ cd_Later___init__ ct_Later___init__),sl_Later___init__⟩)
  (c_Later___init__:PySem.W.codeIn K cd_Later___init__ "Later.__init__"=true)
  (k_Later___init__:PySem.W.keepIn K (.ref f_Later___init__)=true)
  (a_Word___init__:PySem.W.findIn K (.ref CWord) "__init__"=some (some (.ref f_Word___init__)))
  (i_Word___init__:PySem.W.isFn K (.ref f_Word___init__)=true)
  (l_Word___init__:K.lookup f_Word___init__=some ⟨oc_Word___init__,od_Word___init__,.func (PySem.W.fnOf "__init__" "Word.__init__" (defArgs s_Word___init__) (defBody s_Word___init__) (defScope s_Word___init__) .none kV_Word___init__ dc_Word___init__ pm_Word___init__ an_Word___init__ cd_Word___init__ ct_Word___init__),sl_Word___init__⟩)
  (c_Word___init__:PySem.W.codeIn K cd_Word___init__ "Word.__init__"=true)
  (k_Word___init__:PySem.W.keepIn K (.ref f_Word___init__)=true)
  (a_Word_body_parts:PySem.W.findIn K (.ref CWord) "body_parts"=some (some (.ref f_Word_body_parts)))
  (i_Word_body_parts:PySem.W.isFn K (.ref f_Word_body_parts)=true)
  (l_Word_body_parts:K.lookup f_Word_body_parts=some ⟨oc_Word_body_parts,od_Word_body_parts,.func (PySem.W.fnOf "body_parts" "Word.body_parts" (defArgs s_Word_body_parts) (defBody s_Word_body_parts) (defScope s_Word_body_parts) .none kV_Word_body_parts dc_Word_body_parts pm_Word_body_parts an_Word_body_parts cd_Word_body_parts ct_Word_body_parts),sl_Word_body_parts⟩)
  (c_Word_body_parts:PySem.W.codeIn K cd_Word_body_parts "Word.body_parts"=true)
  (k_Word_body_parts:PySem.W.keepIn K (.ref f_Word_body_parts)=true)
  (a_Text___init__:PySem.W.findIn K (.ref CText) "__init__"=some (some (.ref f_Text___init__)))
  (i_Text___init__:PySem.W.isFn K (.ref f_Text___init__)=true)
  (l_Text___init__:K.lookup f_Text___init__=some ⟨oc_Text___init__,od_Text___init__,.func (PySem.W.fnOf "__init__" "Text.__init__" (defArgs s_Text___init__) (defBody s_Text___init__) (defScope s_Text___init__) .none kV_Text___init__ dc_Text___init__ pm_Text___init__ an_Text___init__ cd_Text___init__ ct_Text___init__),sl_Text___init__⟩)
  (c_Text___init__:PySem.W.codeIn K cd_Text___init__ "Text.__init__"=true)
  (k_Text___init__:PySem.W.keepIn K (.ref f_Text___init__)=true)
  (a_Text_word_at:PySem.W.findIn K (.ref CText) "word_at"=some (some (.ref f_Text_word_at)))
  (i_Text_word_at:PySem.W.isFn K (.ref f_Text_word_at)=true)
  (l_Text_word_at:K.lookup f_Text_word_at=some ⟨oc_Text_word_at,od_Text_word_at,.func (PySem.W.fnOf "word_at" "Text.word_at" (defArgs s_Text_word_at) (defBody s_Text_word_at) (defScope s_Text_word_at) .none kV_Text_word_at dc_Text_word_at pm_Text_word_at an_Text_word_at cd_Text_word_at ct_Text_word_at),sl_Text_word_at⟩)
  (c_Text_word_at:PySem.W.codeIn K cd_Text_word_at "Text.word_at"=true)
  (k_Text_word_at:PySem.W.keepIn K (.ref f_Text_word_at)=true)
  (a_Going___init__:PySem.W.findIn K (.ref CGoing) "__init__"=some (some (.ref f_Going___init__)))
  (i_Going___init__:PySem.W.isFn K (.ref f_Going___init__)=true)
  (l_Going___init__:K.lookup f_Going___init__=some ⟨oc_Going___init__,od_Going___init__,.func (PySem.W.fnOf "__init__" "Going.__init__" (defArgs s_Going___init__) (defBody s_Going___init__) (defScope s_Going___init__) .none kV_Going___init__ dc_Going___init__ pm_Going___init__ an_Going___init__ cd_Going___init__ ct_Going___init__),sl_Going___init__⟩)
  (c_Going___init__:PySem.W.codeIn K cd_Going___init__ "Going.__init__"=true)
  (k_Going___init__:PySem.W.keepIn K (.ref f_Going___init__)=true)
  (a_Walk___init__:PySem.W.findIn K (.ref CWalk) "__init__"=some (some (.ref f_Walk___init__)))
  (i_Walk___init__:PySem.W.isFn K (.ref f_Walk___init__)=true)
  (l_Walk___init__:K.lookup f_Walk___init__=some ⟨oc_Walk___init__,od_Walk___init__,.func (PySem.W.fnOf "__init__" "Walk.__init__" (defArgs s_Walk___init__) (defBody s_Walk___init__) (defScope s_Walk___init__) .none kV_Walk___init__ dc_Walk___init__ pm_Walk___init__ an_Walk___init__ cd_Walk___init__ ct_Walk___init__),sl_Walk___init__⟩)
  (c_Walk___init__:PySem.W.codeIn K cd_Walk___init__ "Walk.__init__"=true)
  (k_Walk___init__:PySem.W.keepIn K (.ref f_Walk___init__)=true)
  (a_Walk_at_end:PySem.W.findIn K (.ref CWalk) "at_end"=some (some (.ref f_Walk_at_end)))
  (i_Walk_at_end:PySem.W.isFn K (.ref f_Walk_at_end)=true)
  (l_Walk_at_end:K.lookup f_Walk_at_end=some ⟨oc_Walk_at_end,od_Walk_at_end,.func (PySem.W.fnOf "at_end" "Walk.at_end" (defArgs s_Walk_at_end) (defBody s_Walk_at_end) (defScope s_Walk_at_end) .none kV_Walk_at_end dc_Walk_at_end pm_Walk_at_end an_Walk_at_end cd_Walk_at_end ct_Walk_at_end),sl_Walk_at_end⟩)
  (c_Walk_at_end:PySem.W.codeIn K cd_Walk_at_end "Walk.at_end"=true)
  (k_Walk_at_end:PySem.W.keepIn K (.ref f_Walk_at_end)=true)
  (a_Walk_top:PySem.W.findIn K (.ref CWalk) "top"=some (some (.ref f_Walk_top)))
  (i_Walk_top:PySem.W.isFn K (.ref f_Walk_top)=true)
  (l_Walk_top:K.lookup f_Walk_top=some ⟨oc_Walk_top,od_Walk_top,.func (PySem.W.fnOf "top" "Walk.top" (defArgs s_Walk_top) (defBody s_Walk_top) (defScope s_Walk_top) .none kV_Walk_top dc_Walk_top pm_Walk_top an_Walk_top cd_Walk_top ct_Walk_top),sl_Walk_top⟩)
  (c_Walk_top:PySem.W.codeIn K cd_Walk_top "Walk.top"=true)
  (k_Walk_top:PySem.W.keepIn K (.ref f_Walk_top)=true)
  (a_Walk_tally:PySem.W.findIn K (.ref CWalk) "tally"=some (some (.ref f_Walk_tally)))
  (i_Walk_tally:PySem.W.isFn K (.ref f_Walk_tally)=true)
  (l_Walk_tally:K.lookup f_Walk_tally=some ⟨oc_Walk_tally,od_Walk_tally,.func (PySem.W.fnOf "tally" "Walk.tally" (defArgs s_Walk_tally) (defBody s_Walk_tally) (defScope s_Walk_tally) .none kV_Walk_tally dc_Walk_tally pm_Walk_tally an_Walk_tally cd_Walk_tally ct_Walk_tally),sl_Walk_tally⟩)
  (c_Walk_tally:PySem.W.codeIn K cd_Walk_tally "Walk.tally"=true)
  (k_Walk_tally:PySem.W.keepIn K (.ref f_Walk_tally)=true)
  (a_Walk_step:PySem.W.findIn K (.ref CWalk) "step"=some (some (.ref f_Walk_step)))
  (i_Walk_step:PySem.W.isFn K (.ref f_Walk_step)=true)
  (l_Walk_step:K.lookup f_Walk_step=some ⟨oc_Walk_step,od_Walk_step,.func (PySem.W.fnOf "step" "Walk.step" (defArgs s_Walk_step) (defBody s_Walk_step) (defScope s_Walk_step) .none kV_Walk_step dc_Walk_step pm_Walk_step an_Walk_step cd_Walk_step ct_Walk_step),sl_Walk_step⟩)
  (c_Walk_step:PySem.W.codeIn K cd_Walk_step "Walk.step"=true)
  (k_Walk_step:PySem.W.keepIn K (.ref f_Walk_step)=true)
  (a_Walk_move:PySem.W.findIn K (.ref CWalk) "move"=some (some (.ref f_Walk_move)))
  (i_Walk_move:PySem.W.isFn K (.ref f_Walk_move)=true)
  (l_Walk_move:K.lookup f_Walk_move=some ⟨oc_Walk_move,od_Walk_move,.func (PySem.W.fnOf "move" "Walk.move" (defArgs s_Walk_move) (defBody s_Walk_move) (defScope s_Walk_move) .none kV_Walk_move dc_Walk_move pm_Walk_move an_Walk_move cd_Walk_move ct_Walk_move),sl_Walk_move⟩)
  (c_Walk_move:PySem.W.codeIn K cd_Walk_move "Walk.move"=true)
  (k_Walk_move:PySem.W.keepIn K (.ref f_Walk_move)=true)
  (e_FORK_NO:PySem.W.nsIn K mainGlobals "FORK_NO"=some (some u_FORK_NO))
  (r_FORK_NO:RelV (.int 8) u_FORK_NO)
  (e_FORK_YES:PySem.W.nsIn K mainGlobals "FORK_YES"=some (some u_FORK_YES))
  (r_FORK_YES:RelV (.int 7) u_FORK_YES)
  (e_WHILE_PAST:PySem.W.nsIn K mainGlobals "WHILE_PAST"=some (some u_WHILE_PAST))
  (r_WHILE_PAST:RelV (.int 10) u_WHILE_PAST)
  (e_WHILE_INTO:PySem.W.nsIn K mainGlobals "WHILE_INTO"=some (some u_WHILE_INTO))
  (r_WHILE_INTO:RelV (.int 9) u_WHILE_INTO)
  (e_NO_WORD:PySem.W.nsIn K mainGlobals "NO_WORD"=some (some u_NO_WORD))
  (r_NO_WORD:RelV (.int 11) u_NO_WORD)
  (e_DROP:PySem.W.nsIn K mainGlobals "DROP"=some (some u_DROP))
  (r_DROP:RelV (.int 1) u_DROP)
  (e_SWAP:PySem.W.nsIn K mainGlobals "SWAP"=some (some u_SWAP))
  (r_SWAP:RelV (.int 3) u_SWAP)
  (e_FRONT:PySem.W.nsIn K mainGlobals "FRONT"=some (some u_FRONT))
  (r_FRONT:RelV (.int 4) u_FRONT)
  (e_PART:PySem.W.nsIn K mainGlobals "PART"=some (some u_PART))
  (r_PART:RelV (.int 5) u_PART)
  (e_TURN:PySem.W.nsIn K mainGlobals "TURN"=some (some u_TURN))
  (r_TURN:RelV (.int 6) u_TURN)
  (e_PLACES:PySem.W.nsIn K mainGlobals "PLACES"=some (some u_PLACES))
  (r_PLACES:RelV (.int 15) u_PLACES)
  (e_SHUT:PySem.W.nsIn K mainGlobals "SHUT"=some (some u_SHUT))
  (r_SHUT:RelV (.int 12) u_SHUT)
  (e_BODIES:PySem.W.nsIn K mainGlobals "BODIES"=some (some u_BODIES))
  (r_BODIES:RelV (.int 14) u_BODIES)
  (e_LOOKS:PySem.W.nsIn K mainGlobals "LOOKS"=some (some (.ref a_LOOKS)))
  (l_LOOKS:K.lookup a_LOOKS=some o_LOOKS)
  (t_LOOKS:TupO o_LOOKS [.int 0,.int 1,.int 1,.int 2,.int 2,.int 1,.int 3,.int 1,.int 1,.int 1,.int 1,.int 0,.int 0])
  (e_NAMES:PySem.W.nsIn K mainGlobals "NAMES"=some (some (.ref a_NAMES)))
  (l_NAMES:K.lookup a_NAMES=some o_NAMES)
  (y_NAMES:TupO o_NAMES [.str (PySem.Str.ofString "lay"),.str (PySem.Str.ofString "drop"),.str (PySem.Str.ofString "twin"),.str (PySem.Str.ofString "swap"),.str (PySem.Str.ofString "front"),.str (PySem.Str.ofString "part"),.str (PySem.Str.ofString "turn"),.str (PySem.Str.ofString "fork"),.str (PySem.Str.ofString "while")])
  (x_NAMES:o_NAMES.cls=.type "tuple"∧o_NAMES.dict=none)
  (e_NAMELESS:PySem.W.nsIn K mainGlobals "NAMELESS"=some (some u_NAMELESS))
  (r_NAMELESS:RelV (.int 9) u_NAMELESS)
  (e_FORK:PySem.W.nsIn K mainGlobals "FORK"=some (some u_FORK))
  (r_FORK:RelV (.int 7) u_FORK)
  (e_WHILE:PySem.W.nsIn K mainGlobals "WHILE"=some (some u_WHILE))
  (r_WHILE:RelV (.int 8) u_WHILE)
  (e_LAY:PySem.W.nsIn K mainGlobals "LAY"=some (some u_LAY))
  (r_LAY:RelV (.int 0) u_LAY)
  (e_LAID:PySem.W.nsIn K mainGlobals "LAID"=some (some u_LAID))
  (r_LAID:RelV (.str (PySem.Str.ofString "turn turn front turn turn front swap")) u_LAID)
  (e_TOP_REACHED:PySem.W.nsIn K mainGlobals "TOP_REACHED"=some (some u_TOP_REACHED))
  (r_TOP_REACHED:RelV (.str (PySem.Str.ofString "turn turn front turn part")) u_TOP_REACHED)
  (e_INTO_NO:PySem.W.nsIn K mainGlobals "INTO_NO"=some (some u_INTO_NO))
  (r_INTO_NO:RelV (.str (PySem.Str.ofString "front swap turn part drop front")) u_INTO_NO)
  (e_INTO_YES:PySem.W.nsIn K mainGlobals "INTO_YES"=some (some u_INTO_YES))
  (r_INTO_YES:RelV (.str (PySem.Str.ofString "front swap turn part swap drop front")) u_INTO_YES)
  (e_STACK_PARTED:PySem.W.nsIn K mainGlobals "STACK_PARTED"=some (some u_STACK_PARTED))
  (r_STACK_PARTED:RelV (.str (PySem.Str.ofString "drop front swap part")) u_STACK_PARTED)
  (e_WORKED:PySem.W.nsIn K mainGlobals "WORKED"=some (some (.ref a_WORKED)))
  (l_WORKED:K.lookup a_WORKED=some o_WORKED)
  (t_WORKED:TupO o_WORKED [.str (PySem.Str.ofString ""),.str (PySem.Str.ofString "drop"),.str (PySem.Str.ofString "twin turn swap front swap front"),.str (PySem.Str.ofString "swap part swap turn front swap front"),.str (PySem.Str.ofString "swap part turn front front"),.str (PySem.Str.ofString "part turn turn front swap front"),.str (PySem.Str.ofString "swap part swap part swap turn front turn front swap front")])
  (e_PAST_BODY:PySem.W.nsIn K mainGlobals "PAST_BODY"=some (some u_PAST_BODY))
  (r_PAST_BODY:RelV (.str (PySem.Str.ofString "front turn drop swap")) u_PAST_BODY)
  (e_INTO_BODY:PySem.W.nsIn K mainGlobals "INTO_BODY"=some (some u_INTO_BODY))
  (r_INTO_BODY:RelV (.str (PySem.Str.ofString "front swap turn part swap twin turn front turn part turn front front swap front")) u_INTO_BODY)
  (e_COPIED:PySem.W.nsIn K mainGlobals "COPIED"=some (some u_COPIED))
  (r_COPIED:RelV (.int 13) u_COPIED)
  (e_TWIN:PySem.W.nsIn K mainGlobals "TWIN"=some (some u_TWIN))
  (r_TWIN:RelV (.int 2) u_TWIN)
  (z_min:PySem.W.nsIn K mainGlobals "min"=some none) (z_len:PySem.W.nsIn K mainGlobals "len"=some none) (z_tuple:PySem.W.nsIn K mainGlobals "tuple"=some none) (z_reversed:PySem.W.nsIn K mainGlobals "reversed"=some none) (z_range:PySem.W.nsIn K mainGlobals "range"=some none) (z_sum:PySem.W.nsIn K mainGlobals "sum"=some none) (z_isinstance:PySem.W.nsIn K mainGlobals "isinstance"=some none) (z_all:PySem.W.nsIn K mainGlobals "all"=some none) (z_list:PySem.W.nsIn K mainGlobals "list"=some none) :
  ∃ fd:FuncData,(∀ (s:Shared) (v:Value),BindsTo s fd ⟨[v],[]⟩ [("_law_script",v)])∧∀ base:Heap,K.In base→base.Ns mainGlobals mg→FnOk l.prog w K mg base CX0 140 fa fd ["_law_script"] (spLaw K):=by
 have e:=hfa.symm.trans (PySem.W.mg_of X G a46)
 cases e
 have F1:=fun_mk (st:=s_first) l1 c1 k1
 have F2:=fun_mk (st:=s_rest) l2 c2 k2
 have F3:=fun_mk (st:=s_parts) l3 c3 k3
 have F4:=fun_mk (st:=s_sort_of) l4 c4 k4
 have F5:=fun_mk (st:=s_load_of) l5 c5 k5
 have F6:=fun_mk (st:=s_lay) l6 c6 k6
 have F7:=fun_mk (st:=s_plain) l7 c7 k7
 have F8:=fun_mk (st:=s_fork) l8 c8 k8
 have F9:=fun_mk (st:=s_loop) l9 c9 k9
 have F10:=fun_mk (st:=s_plains) l10 c10 k10
 have F11:=fun_mk (st:=s_selfrunner) l11 c11 k11
 have F12:=fun_mk (st:=s_opening) l12 c12 k12
 have F13:=fun_mk (st:=s_from_head) l13 c13 k13
 have F14:=fun_mk (st:=s_stepped) l14 c14 k14
 have F15:=fun_mk (st:=s_by_sort) l15 c15 k15
 have F16:=fun_mk (st:=s_gone_of) l16 c16 k16
 have F17:=fun_mk (st:=s_while_gone) l17 c17 k17
 have F18:=fun_mk (st:=s_nameless_gone) l18 c18 k18
 have F19:=fun_mk (st:=s_begin) l19 c19 k19
 have F20:=fun_mk (st:=s_place_of) l20 c20 k20
 have F21:=fun_mk (st:=s_cost) l21 c21 k21
 have F22:=fun_mk (st:=s_selfmade) l22 c22 k22
 have F23:=fun_mk (st:=s_selfmaker) l23 c23 k23
 have F24:=fun_mk (st:=s_lay_made) l24 c24 k24
 have F25:=fun_mk (st:=s_knot) l25 c25 k25
 have F26:=fun_mk (st:=s_knot_body) l26 c26 k26
 have F27:=fun_mk (st:=s_both_run) l27 c27 k27
 have F28:=fun_mk (st:=s_first_of) l28 c28 k28
 have F29:=fun_mk (st:=s_rest_of) l29 c29 k29
 have F30:=fun_mk (st:=s_later) l30 c30 k30
 have F31:=fun_mk (st:=s_unfronted) l31 c31 k31
 have F32:=fun_mk (st:=s_parts_within) l32 c32 k32
 have F33:=fun_mk (st:=s_as_tree) l33 c33 k33
 have F34:=fun_mk (st:=s_run) l34 c34 k34
 have F35:=fun_mk (st:=s_walked) l35 c35 k35
 have F36:=fun_mk (st:=s_work) l36 c36 k36
 have F37:=fun_mk (st:=s__law_deck) l37 c37 k37
 have F38:=fun_mk (st:=s__law_next) l38 c38 k38
 have F39:=fun_mk (st:=s__law_tree) l39 c39 k39
 have F40:=fun_mk (st:=s__law_plain) l40 c40 k40
 have F41:=fun_mk (st:=s__law_marked) l41 c41 k41
 have F42:=fun_mk (st:=s__law_free) l42 c42 k42
 have F43:=fun_mk (st:=s__law_filled) l43 c43 k43
 have F44:=fun_mk (st:=s__law_builder) l44 c44 k44
 have F45:=fun_mk (st:=s__law_maker) l45 c45 k45
 have F46:=fun_mk (st:=s_law) l46 c46 k46
 have b1:=F1.binds (ps:=["tree"]) fun _ _ _ _ _ _ us hl=>match us,hl with | [_],_=>rfl
 have m1:=PySem.W.mg_of X G a1
 have b2:=F2.binds (ps:=["tree"]) fun _ _ _ _ _ _ us hl=>match us,hl with | [_],_=>rfl
 have m2:=PySem.W.mg_of X G a2
 have b3:=F3.binds (ps:=["tree"]) fun _ _ _ _ _ _ us hl=>match us,hl with | [_],_=>rfl
 have m3:=PySem.W.mg_of X G a3
 have b4:=F4.binds (ps:=["word"]) fun _ _ _ _ _ _ us hl=>match us,hl with | [_],_=>rfl
 have m4:=PySem.W.mg_of X G a4
 have b5:=F5.binds (ps:=["word"]) fun _ _ _ _ _ _ us hl=>match us,hl with | [_],_=>rfl
 have m5:=PySem.W.mg_of X G a5
 have b6:=F6.binds (ps:=["tree"]) fun _ _ _ _ _ _ us hl=>match us,hl with | [_],_=>rfl
 have m6:=PySem.W.mg_of X G a6
 have b7:=F7.binds (ps:=["sort"]) fun _ _ _ _ _ _ us hl=>match us,hl with | [_],_=>rfl
 have m7:=PySem.W.mg_of X G a7
 have b8:=F8.binds (ps:=["yes","no"]) fun _ _ _ _ _ _ us hl=>match us,hl with | [_,_],_=>rfl
 have m8:=PySem.W.mg_of X G a8
 have b9:=F9.binds (ps:=["body"]) fun _ _ _ _ _ _ us hl=>match us,hl with | [_],_=>rfl
 have m9:=PySem.W.mg_of X G a9
 have b10:=F10.binds (ps:=["names"]) fun _ _ _ _ _ _ us hl=>match us,hl with | [_],_=>rfl
 have m10:=PySem.W.mg_of X G a10
 have b11:=F11.binds (ps:=[]) fun _ _ _ _ _ _ us hl=>match us,hl with | [],_=>rfl
 have m11:=PySem.W.mg_of X G a11
 have b12:=F12.binds (ps:=[]) fun _ _ _ _ _ _ us hl=>match us,hl with | [],_=>rfl
 have m12:=PySem.W.mg_of X G a12
 have b13:=F13.binds (ps:=[]) fun _ _ _ _ _ _ us hl=>match us,hl with | [],_=>rfl
 have m13:=PySem.W.mg_of X G a13
 have b14:=F14.binds (ps:=[]) fun _ _ _ _ _ _ us hl=>match us,hl with | [],_=>rfl
 have m14:=PySem.W.mg_of X G a14
 have b15:=F15.binds (ps:=[]) fun _ _ _ _ _ _ us hl=>match us,hl with | [],_=>rfl
 have m15:=PySem.W.mg_of X G a15
 have b16:=F16.binds (ps:=["sort"]) fun _ _ _ _ _ _ us hl=>match us,hl with | [_],_=>rfl
 have m16:=PySem.W.mg_of X G a16
 have b17:=F17.binds (ps:=[]) fun _ _ _ _ _ _ us hl=>match us,hl with | [],_=>rfl
 have m17:=PySem.W.mg_of X G a17
 have b18:=F18.binds (ps:=[]) fun _ _ _ _ _ _ us hl=>match us,hl with | [],_=>rfl
 have m18:=PySem.W.mg_of X G a18
 have b19:=F19.binds (ps:=["text","tree"]) fun _ _ _ _ _ _ us hl=>match us,hl with | [_,_],_=>rfl
 have m19:=PySem.W.mg_of X G a19
 have b20:=F20.binds (ps:=["sort","top"]) fun _ _ _ _ _ _ us hl=>match us,hl with | [_,_],_=>rfl
 have m20:=PySem.W.mg_of X G a20
 have b21:=F21.binds (ps:=["tally"]) fun _ _ _ _ _ _ us hl=>match us,hl with | [_],_=>rfl
 have m21:=PySem.W.mg_of X G a21
 have b22:=F22.binds (ps:=["body"]) fun _ _ _ _ _ _ us hl=>match us,hl with | [_],_=>rfl
 have m22:=PySem.W.mg_of X G a22
 have b23:=F23.binds (ps:=[]) fun _ _ _ _ _ _ us hl=>match us,hl with | [],_=>rfl
 have m23:=PySem.W.mg_of X G a23
 have b24:=F24.binds (ps:=[]) fun _ _ _ _ _ _ us hl=>match us,hl with | [],_=>rfl
 have m24:=PySem.W.mg_of X G a24
 have b25:=F25.binds (ps:=["text"]) fun _ _ _ _ _ _ us hl=>match us,hl with | [_],_=>rfl
 have m25:=PySem.W.mg_of X G a25
 have b26:=F26.binds (ps:=["text"]) fun _ _ _ _ _ _ us hl=>match us,hl with | [_],_=>rfl
 have m26:=PySem.W.mg_of X G a26
 have b27:=F27.binds (ps:=["own_made"]) fun _ _ _ _ _ _ us hl=>match us,hl with | [_],_=>rfl
 have m27:=PySem.W.mg_of X G a27
 have b28:=F28.binds (ps:=["row"]) fun _ _ _ _ _ _ us hl=>match us,hl with | [_],_=>rfl
 have m28:=PySem.W.mg_of X G a28
 have b29:=F29.binds (ps:=["row"]) fun _ _ _ _ _ _ us hl=>match us,hl with | [_],_=>rfl
 have m29:=PySem.W.mg_of X G a29
 have b30:=F30.binds (ps:=["tree","place"]) fun _ _ _ _ _ _ us hl=>match us,hl with | [_,_],_=>rfl
 have m30:=PySem.W.mg_of X G a30
 have b31:=F31.binds (ps:=["row"]) fun _ _ _ _ _ _ us hl=>match us,hl with | [_],_=>rfl
 have m31:=PySem.W.mg_of X G a31
 have b32:=F32.binds (ps:=["row","most"]) fun _ _ _ _ _ _ us hl=>match us,hl with | [_,_],_=>rfl
 have m32:=PySem.W.mg_of X G a32
 have b33:=F33.binds (ps:=["row"]) fun _ _ _ _ _ _ us hl=>match us,hl with | [_],_=>rfl
 have m33:=PySem.W.mg_of X G a33
 have b34:=F34.binds (ps:=["text","tree","budget"]) fun _ _ _ _ _ _ us hl=>match us,hl with | [_,_,_],_=>rfl
 have m34:=PySem.W.mg_of X G a34
 have b35:=F35.binds (ps:=["stand","budget"]) fun _ _ _ _ _ _ us hl=>match us,hl with | [_,_],_=>rfl
 have m35:=PySem.W.mg_of X G a35
 have b36:=F36.binds (ps:=["step","load","stack"]) fun _ _ _ _ _ _ us hl=>match us,hl with | [_,_,_],_=>rfl
 have m36:=PySem.W.mg_of X G a36
 have b37:=F37.binds (ps:=["_law_script"]) fun _ _ _ _ _ _ us hl=>match us,hl with | [_],_=>rfl
 have m37:=PySem.W.mg_of X G a37
 have b38:=F38.binds (ps:=["_law_deck_here","_law_many"]) fun _ _ _ _ _ _ us hl=>match us,hl with | [_,_],_=>rfl
 have m38:=PySem.W.mg_of X G a38
 have b39:=F39.binds (ps:=["_law_deck_here","_law_deep"]) fun _ _ _ _ _ _ us hl=>match us,hl with | [_,_],_=>rfl
 have m39:=PySem.W.mg_of X G a39
 have b40:=F40.binds (ps:=["_law_sort"]) fun _ _ _ _ _ _ us hl=>match us,hl with | [_],_=>rfl
 have m40:=PySem.W.mg_of X G a40
 have b41:=F41.binds (ps:=["_law_deck_here","_law_deep","_law_marks"]) fun _ _ _ _ _ _ us hl=>match us,hl with | [_,_,_],_=>rfl
 have m41:=PySem.W.mg_of X G a41
 have b42:=F42.binds (ps:=["_law_tree_here"]) fun _ _ _ _ _ _ us hl=>match us,hl with | [_],_=>rfl
 have m42:=PySem.W.mg_of X G a42
 have b43:=F43.binds (ps:=["_law_tree_here","_law_own"]) fun _ _ _ _ _ _ us hl=>match us,hl with | [_,_],_=>rfl
 have m43:=PySem.W.mg_of X G a43
 have b44:=F44.binds (ps:=["_law_tree_here"]) fun _ _ _ _ _ _ us hl=>match us,hl with | [_],_=>rfl
 have m44:=PySem.W.mg_of X G a44
 have b45:=F45.binds (ps:=["_law_tree_here"]) fun _ _ _ _ _ _ us hl=>match us,hl with | [_],_=>rfl
 have m45:=PySem.W.mg_of X G a45
 have m_min:=PySem.W.mg_none_of X G z_min
 have m_len:=PySem.W.mg_none_of X G z_len
 have m_tuple:=PySem.W.mg_none_of X G z_tuple
 have m_reversed:=PySem.W.mg_none_of X G z_reversed
 have m_range:=PySem.W.mg_none_of X G z_range
 have m_sum:=PySem.W.mg_none_of X G z_sum
 have m_isinstance:=PySem.W.mg_none_of X G z_isinstance
 have m_all:=PySem.W.mg_none_of X G z_all
 have m_list:=PySem.W.mg_none_of X G z_list
 have m_Fronted:=PySem.W.mg_of X G aC_Fronted
 have m_Later:=PySem.W.mg_of X G aC_Later
 have m_Word:=PySem.W.mg_of X G aC_Word
 have m_Text:=PySem.W.mg_of X G aC_Text
 have m_Going:=PySem.W.mg_of X G aC_Going
 have m_Walk:=PySem.W.mg_of X G aC_Walk
 have O:Own K CFronted CLater CWord CText CGoing CWalk:=⟨⟨⟨pg_Fronted,hd_Fronted,po_Fronted,sa_Fronted⟩,eq_Fronted,ob_Fronted,tu_Fronted,sb_Fronted,ca_Fronted,cn,ct⟩,⟨⟨pg_Later,hd_Later,po_Later,sa_Later⟩,eq_Later,ob_Later,tu_Later,sb_Later,ca_Later,cn,ct⟩,⟨pg_Word,hd_Word,po_Word,sa_Word⟩,⟨pg_Text,hd_Text,po_Text,sa_Text⟩,⟨pg_Going,hd_Going,po_Going,sa_Going⟩,⟨pg_Walk,hd_Walk,po_Walk,sa_Walk⟩,n_Fronted_item,n_Fronted_behind,n_Later_tree,n_Later_place,n_Word_kind,n_Word_load,n_Word_yes,n_Word_no,n_Word_body,n_Word_size,n_Text_tree,n_Text_words,n_Going_text,n_Going_place,n_Walk_goings,n_Walk_stack,n_Walk_numbers,n_Walk_left,iTF,iTL,iFF,iLF,iLL⟩
 have F_Fronted___init__:=fun_mk (st:=s_Fronted___init__) l_Fronted___init__ c_Fronted___init__ k_Fronted___init__
 have b_Fronted___init__:=F_Fronted___init__.binds (ps:=["self","item","behind"]) fun _ _ _ _ _ _ us hl=>match us,hl with | [_,_,_],_=>rfl
 have MK_Fronted:Mk K CFronted f_Fronted___init__:=⟨mk_Fronted,a_Fronted___init__,i_Fronted___init__,kc_Fronted⟩
 have F_Later___init__:=fun_mk (st:=s_Later___init__) l_Later___init__ c_Later___init__ k_Later___init__
 have b_Later___init__:=F_Later___init__.binds (ps:=["self","tree","place"]) fun _ _ _ _ _ _ us hl=>match us,hl with | [_,_,_],_=>rfl
 have MK_Later:Mk K CLater f_Later___init__:=⟨mk_Later,a_Later___init__,i_Later___init__,kc_Later⟩
 have F_Word___init__:=fun_mk (st:=s_Word___init__) l_Word___init__ c_Word___init__ k_Word___init__
 have b_Word___init__:=F_Word___init__.binds (ps:=["self","tree"]) fun _ _ _ _ _ _ us hl=>match us,hl with | [_,_],_=>rfl
 have MK_Word:Mk K CWord f_Word___init__:=⟨mk_Word,a_Word___init__,i_Word___init__,kc_Word⟩
 have F_Word_body_parts:=fun_mk (st:=s_Word_body_parts) l_Word_body_parts c_Word_body_parts k_Word_body_parts
 have b_Word_body_parts:=F_Word_body_parts.binds (ps:=["self"]) fun _ _ _ _ _ _ us hl=>match us,hl with | [_],_=>rfl
 have M_Word_body_parts:Meth K CWord "body_parts" f_Word_body_parts:=⟨a_Word_body_parts,i_Word_body_parts,k_Word_body_parts⟩
 have F_Text___init__:=fun_mk (st:=s_Text___init__) l_Text___init__ c_Text___init__ k_Text___init__
 have b_Text___init__:=F_Text___init__.binds (ps:=["self","tree"]) fun _ _ _ _ _ _ us hl=>match us,hl with | [_,_],_=>rfl
 have MK_Text:Mk K CText f_Text___init__:=⟨mk_Text,a_Text___init__,i_Text___init__,kc_Text⟩
 have F_Text_word_at:=fun_mk (st:=s_Text_word_at) l_Text_word_at c_Text_word_at k_Text_word_at
 have b_Text_word_at:=F_Text_word_at.binds (ps:=["self","place"]) fun _ _ _ _ _ _ us hl=>match us,hl with | [_,_],_=>rfl
 have M_Text_word_at:Meth K CText "word_at" f_Text_word_at:=⟨a_Text_word_at,i_Text_word_at,k_Text_word_at⟩
 have F_Going___init__:=fun_mk (st:=s_Going___init__) l_Going___init__ c_Going___init__ k_Going___init__
 have b_Going___init__:=F_Going___init__.binds (ps:=["self","text"]) fun _ _ _ _ _ _ us hl=>match us,hl with | [_,_],_=>rfl
 have MK_Going:Mk K CGoing f_Going___init__:=⟨mk_Going,a_Going___init__,i_Going___init__,kc_Going⟩
 have F_Walk___init__:=fun_mk (st:=s_Walk___init__) l_Walk___init__ c_Walk___init__ k_Walk___init__
 have b_Walk___init__:=F_Walk___init__.binds (ps:=["self","stand","budget"]) fun _ _ _ _ _ _ us hl=>match us,hl with | [_,_,_],_=>rfl
 have MK_Walk:Mk K CWalk f_Walk___init__:=⟨mk_Walk,a_Walk___init__,i_Walk___init__,kc_Walk⟩
 have F_Walk_at_end:=fun_mk (st:=s_Walk_at_end) l_Walk_at_end c_Walk_at_end k_Walk_at_end
 have b_Walk_at_end:=F_Walk_at_end.binds (ps:=["self"]) fun _ _ _ _ _ _ us hl=>match us,hl with | [_],_=>rfl
 have M_Walk_at_end:Meth K CWalk "at_end" f_Walk_at_end:=⟨a_Walk_at_end,i_Walk_at_end,k_Walk_at_end⟩
 have F_Walk_top:=fun_mk (st:=s_Walk_top) l_Walk_top c_Walk_top k_Walk_top
 have b_Walk_top:=F_Walk_top.binds (ps:=["self"]) fun _ _ _ _ _ _ us hl=>match us,hl with | [_],_=>rfl
 have M_Walk_top:Meth K CWalk "top" f_Walk_top:=⟨a_Walk_top,i_Walk_top,k_Walk_top⟩
 have F_Walk_tally:=fun_mk (st:=s_Walk_tally) l_Walk_tally c_Walk_tally k_Walk_tally
 have b_Walk_tally:=F_Walk_tally.binds (ps:=["self"]) fun _ _ _ _ _ _ us hl=>match us,hl with | [_],_=>rfl
 have M_Walk_tally:Meth K CWalk "tally" f_Walk_tally:=⟨a_Walk_tally,i_Walk_tally,k_Walk_tally⟩
 have F_Walk_step:=fun_mk (st:=s_Walk_step) l_Walk_step c_Walk_step k_Walk_step
 have b_Walk_step:=F_Walk_step.binds (ps:=["self"]) fun _ _ _ _ _ _ us hl=>match us,hl with | [_],_=>rfl
 have M_Walk_step:Meth K CWalk "step" f_Walk_step:=⟨a_Walk_step,i_Walk_step,k_Walk_step⟩
 have F_Walk_move:=fun_mk (st:=s_Walk_move) l_Walk_move c_Walk_move k_Walk_move
 have b_Walk_move:=F_Walk_move.binds (ps:=["self","step","going","word"]) fun _ _ _ _ _ _ us hl=>match us,hl with | [_,_,_,_],_=>rfl
 have M_Walk_move:Meth K CWalk "move" f_Walk_move:=⟨a_Walk_move,i_Walk_move,k_Walk_move⟩
 have m_FORK_NO:=PySem.W.mg_of X G e_FORK_NO
 have m_FORK_YES:=PySem.W.mg_of X G e_FORK_YES
 have m_WHILE_PAST:=PySem.W.mg_of X G e_WHILE_PAST
 have m_WHILE_INTO:=PySem.W.mg_of X G e_WHILE_INTO
 have m_NO_WORD:=PySem.W.mg_of X G e_NO_WORD
 have m_DROP:=PySem.W.mg_of X G e_DROP
 have m_SWAP:=PySem.W.mg_of X G e_SWAP
 have m_FRONT:=PySem.W.mg_of X G e_FRONT
 have m_PART:=PySem.W.mg_of X G e_PART
 have m_TURN:=PySem.W.mg_of X G e_TURN
 have m_PLACES:=PySem.W.mg_of X G e_PLACES
 have m_SHUT:=PySem.W.mg_of X G e_SHUT
 have m_BODIES:=PySem.W.mg_of X G e_BODIES
 have m_LOOKS:=PySem.W.mg_of X G e_LOOKS
 have q_LOOKS:=fun H=>t_LOOKS.sq (H:=H) l_LOOKS
 have m_NAMES:=PySem.W.mg_of X G e_NAMES
 have q_NAMES:=fun H=>y_NAMES.sq (H:=H) l_NAMES
 have t_NAMES:∃ ob,K.lookup a_NAMES=some ob∧ob.cls=.type "tuple"∧ob.dict=none:=⟨_,l_NAMES,x_NAMES⟩
 have m_NAMELESS:=PySem.W.mg_of X G e_NAMELESS
 have m_FORK:=PySem.W.mg_of X G e_FORK
 have m_WHILE:=PySem.W.mg_of X G e_WHILE
 have m_LAY:=PySem.W.mg_of X G e_LAY
 have m_LAID:=PySem.W.mg_of X G e_LAID
 have m_TOP_REACHED:=PySem.W.mg_of X G e_TOP_REACHED
 have m_INTO_NO:=PySem.W.mg_of X G e_INTO_NO
 have m_INTO_YES:=PySem.W.mg_of X G e_INTO_YES
 have m_STACK_PARTED:=PySem.W.mg_of X G e_STACK_PARTED
 have m_WORKED:=PySem.W.mg_of X G e_WORKED
 have q_WORKED:=fun H=>t_WORKED.sq (H:=H) l_WORKED
 have m_PAST_BODY:=PySem.W.mg_of X G e_PAST_BODY
 have m_INTO_BODY:=PySem.W.mg_of X G e_INTO_BODY
 have m_COPIED:=PySem.W.mg_of X G e_COPIED
 have m_TWIN:=PySem.W.mg_of X G e_TWIN
 refine⟨PySem.W.fnOf "law" "law" (defArgs s_law) (defBody s_law) (defScope s_law) .none kV46 dc46 pm46 an46 cd46 ct46,fun s v=>.of_eq rfl,fun base _ _=>?_⟩
 have O1:=ok_first (P:=l.prog) (w:=w) (mg:=mg) (base:=base) F1
 have O2:=ok_rest (P:=l.prog) (w:=w) (mg:=mg) (base:=base) F2
 have O3:=ok_parts (P:=l.prog) (w:=w) (mg:=mg) (base:=base) F3
 have O6:=ok_lay (P:=l.prog) (w:=w) (mg:=mg) (base:=base) F6
 have O7:=ok_plain (P:=l.prog) (w:=w) (mg:=mg) (base:=base) F7
 have O8:=ok_fork (P:=l.prog) (w:=w) (mg:=mg) (base:=base) m_FORK r_FORK F8
 have O9:=ok_loop (P:=l.prog) (w:=w) (mg:=mg) (base:=base) m_WHILE r_WHILE F9
 have O19:=ok_begin (P:=l.prog) (w:=w) (mg:=mg) (base:=base) F19
 have O20:=ok_place_of (P:=l.prog) (w:=w) (mg:=mg) (base:=base) O m_FORK r_FORK m_FORK_NO r_FORK_NO m_FORK_YES r_FORK_YES m_WHILE r_WHILE m_WHILE_PAST r_WHILE_PAST m_WHILE_INTO r_WHILE_INTO m_NAMELESS r_NAMELESS m_NO_WORD r_NO_WORD F20
 have O21:=ok_cost (P:=l.prog) (w:=w) (mg:=mg) (base:=base) m_sum m_COPIED r_COPIED m_TWIN r_TWIN F21
 have O31:=ok_unfronted (P:=l.prog) (w:=w) (mg:=mg) (base:=base) O m_isinstance m_Later F31
 have O38:=ok__law_next (P:=l.prog) (w:=w) (mg:=mg) (base:=base) m_len F38
 have O_Fronted___init__:=ok_Fronted___init__ (P:=l.prog) (w:=w) (mg:=mg) (base:=base) O F_Fronted___init__
 have O_Later___init__:=ok_Later___init__ (P:=l.prog) (w:=w) (mg:=mg) (base:=base) O F_Later___init__
 have O_Text___init__:=ok_Text___init__ (P:=l.prog) (w:=w) (mg:=mg) (base:=base) O F_Text___init__
 have O_Going___init__:=ok_Going___init__ (P:=l.prog) (w:=w) (mg:=mg) (base:=base) O F_Going___init__
 have O_Walk_at_end:=ok_Walk_at_end (P:=l.prog) (w:=w) (mg:=mg) (base:=base) O F_Walk_at_end
 have O_Walk_top:=ok_Walk_top (P:=l.prog) (w:=w) (mg:=mg) (base:=base) O F_Walk_top
 have O_Walk_tally:=ok_Walk_tally (P:=l.prog) (w:=w) (mg:=mg) (base:=base) O m_tuple F_Walk_tally
 have O4:=ok_sort_of (P:=l.prog) (w:=w) (mg:=mg) (base:=base) m_min m_len m_NAMELESS r_NAMELESS F1 (O1.mono (by decide)) b1 m1 F4
 have O5:=ok_load_of (P:=l.prog) (w:=w) (mg:=mg) (base:=base) F2 (O2.mono (by decide)) b2 m2 F5
 have O10:=ok_plains (P:=l.prog) (w:=w) (mg:=mg) (base:=base) m_tuple m_NAMES q_NAMES F7 (O7.mono (by decide)) b7 m7 t_NAMES F10
 have O22:=ok_selfmade (P:=l.prog) (w:=w) (mg:=mg) (base:=base) F6 (O6.mono (by decide)) b6 m6 F22
 have O28:=ok_first_of (P:=l.prog) (w:=w) (mg:=mg) (base:=base) O m_isinstance F1 (O1.mono (by decide)) b1 m1 m_Fronted m_Later F28
 have O32:=ok_parts_within (P:=l.prog) (w:=w) (mg:=mg) (base:=base) O m_isinstance F31 (O31.mono (by decide)) b31 m31 m_Fronted F32
 have O33:=ok_as_tree (P:=l.prog) (w:=w) (mg:=mg) (base:=base) O m_isinstance m_tuple F31 (O31.mono (by decide)) b31 m31 m_Fronted F33
 have O37:=ok__law_deck (P:=l.prog) (w:=w) (mg:=mg) (base:=base) m_len m_range m_min F37
 have O40:=ok__law_plain (P:=l.prog) (w:=w) (mg:=mg) (base:=base) F40
 have O12:=ok_opening (P:=l.prog) (w:=w) (mg:=mg) (base:=base) F6 (O6.mono (by decide)) b6 m6 F10 (O10.mono (by decide)) b10 m10 F12
 have O17:=ok_while_gone (P:=l.prog) (w:=w) (mg:=mg) (base:=base) m_WHILE r_WHILE m_TOP_REACHED r_TOP_REACHED m_PAST_BODY r_PAST_BODY m_INTO_BODY r_INTO_BODY F10 (O10.mono (by decide)) b10 m10 F8 (O8.mono (by decide)) b8 m8 F17
 have O18:=ok_nameless_gone (P:=l.prog) (w:=w) (mg:=mg) (base:=base) m_WHILE r_WHILE F10 (O10.mono (by decide)) b10 m10 F18
 have O24:=ok_lay_made (P:=l.prog) (w:=w) (mg:=mg) (base:=base) F6 (O6.mono (by decide)) b6 m6 F10 (O10.mono (by decide)) b10 m10 F24
 have O30:=ok_later (P:=l.prog) (w:=w) (mg:=mg) (base:=base) O m_len m_Later MK_Later (O_Later___init__.mono (by decide)) b_Later___init__ F30
 have O_Word_body_parts:=ok_Word_body_parts (P:=l.prog) (w:=w) (mg:=mg) (base:=base) O F3 (O3.mono (by decide)) b3 m3 F_Word_body_parts
 have O_Walk___init__:=ok_Walk___init__ (P:=l.prog) (w:=w) (mg:=mg) (base:=base) O m_reversed m_list m_PLACES r_PLACES m_Going m_Text MK_Going (O_Going___init__.mono (by decide)) b_Going___init__ MK_Text (O_Text___init__.mono (by decide)) b_Text___init__ F_Walk___init__
 have O16:=ok_gone_of (P:=l.prog) (w:=w) (mg:=mg) (base:=base) m_LAY r_LAY m_LAID r_LAID m_FORK r_FORK m_TOP_REACHED r_TOP_REACHED m_INTO_NO r_INTO_NO m_INTO_YES r_INTO_YES m_STACK_PARTED r_STACK_PARTED m_WORKED q_WORKED F10 (O10.mono (by decide)) b10 m10 F8 (O8.mono (by decide)) b8 m8 F16
 have O23:=ok_selfmaker (P:=l.prog) (w:=w) (mg:=mg) (base:=base) F10 (O10.mono (by decide)) b10 m10 F24 (O24.mono (by decide)) b24 m24 F23
 have O29:=ok_rest_of (P:=l.prog) (w:=w) (mg:=mg) (base:=base) O m_isinstance F30 (O30.mono (by decide)) b30 m30 m_Fronted m_Later F29
 have O41:=okN_marked (P:=l.prog) (w:=w) (mg:=mg) (base:=base) m_len m_tuple m_range F38 (O38.mono (by decide)) b38 m38 F41 b41 m41 2
 have O_Word___init__:=ok_Word___init__ (P:=l.prog) (w:=w) (mg:=mg) (base:=base) O m_FORK r_FORK m_WHILE r_WHILE F4 (O4.mono (by decide)) b4 m4 F5 (O5.mono (by decide)) b5 m5 F1 (O1.mono (by decide)) b1 m1 F2 (O2.mono (by decide)) b2 m2 m_Text MK_Text (O_Text___init__.mono (by decide)) b_Text___init__ F_Word___init__
 have O39:=okN_tree (P:=l.prog) (w:=w) (mg:=mg) (base:=base) m_tuple m_range F38 (O38.mono (by decide)) b38 m38 F39 b39 m39 3
 have O15:=ok_by_sort (P:=l.prog) (w:=w) (mg:=mg) (base:=base) m_range m_reversed m_WHILE r_WHILE F8 (O8.mono (by decide)) b8 m8 F17 (O17.mono (by decide)) b17 m17 F18 (O18.mono (by decide)) b18 m18 F16 (O16.mono (by decide)) b16 m16 F10 (O10.mono (by decide)) b10 m10 F15
 have O42:=okN_free (P:=l.prog) (w:=w) (mg:=mg) (base:=base) m_all F42 b42 m42 3
 have O43:=okN_filled (P:=l.prog) (w:=w) (mg:=mg) (base:=base) m_tuple F43 b43 m43 3
 have O14:=ok_stepped (P:=l.prog) (w:=w) (mg:=mg) (base:=base) F10 (O10.mono (by decide)) b10 m10 F15 (O15.mono (by decide)) b15 m15 F8 (O8.mono (by decide)) b8 m8 F14
 have O36:=ok_work (P:=l.prog) (w:=w) (mg:=mg) (base:=base) O m_LAY r_LAY m_DROP r_DROP m_TWIN r_TWIN m_SWAP r_SWAP m_FRONT r_FRONT m_PART r_PART m_TURN r_TURN F29 (O29.mono (by decide)) b29 m29 F28 (O28.mono (by decide)) b28 m28 m_Fronted MK_Fronted (O_Fronted___init__.mono (by decide)) b_Fronted___init__ F36
 have O_Text_word_at:=ok_Text_word_at (P:=l.prog) (w:=w) (mg:=mg) (base:=base) O m_len m_Word MK_Word (O_Word___init__.mono (by decide)) b_Word___init__ F_Text_word_at
 have O13:=ok_from_head (P:=l.prog) (w:=w) (mg:=mg) (base:=base) F9 (O9.mono (by decide)) b9 m9 F14 (O14.mono (by decide)) b14 m14 F10 (O10.mono (by decide)) b10 m10 F13
 have O_Walk_move:=ok_Walk_move (P:=l.prog) (w:=w) (mg:=mg) (base:=base) O m_SHUT r_SHUT m_WHILE_INTO r_WHILE_INTO m_BODIES r_BODIES m_FORK_YES r_FORK_YES m_FORK_NO r_FORK_NO F36 (O36.mono (by decide)) b36 m36 m_Going M_Word_body_parts (O_Word_body_parts.mono (by decide)) b_Word_body_parts MK_Going (O_Going___init__.mono (by decide)) b_Going___init__ F_Walk_move
 have O11:=ok_selfrunner (P:=l.prog) (w:=w) (mg:=mg) (base:=base) F12 (O12.mono (by decide)) b12 m12 F13 (O13.mono (by decide)) b13 m13 F11
 have O_Walk_step:=ok_Walk_step (P:=l.prog) (w:=w) (mg:=mg) (base:=base) O m_len m_SHUT r_SHUT m_TWIN r_TWIN m_COPIED r_COPIED m_LOOKS q_LOOKS F20 (O20.mono (by decide)) b20 m20 F32 (O32.mono (by decide)) b32 m32 M_Text_word_at (O_Text_word_at.mono (by decide)) b_Text_word_at M_Walk_top (O_Walk_top.mono (by decide)) b_Walk_top M_Walk_move (O_Walk_move.mono (by decide)) b_Walk_move F_Walk_step
 have O27:=ok_both_run (P:=l.prog) (w:=w) (mg:=mg) (base:=base) F10 (O10.mono (by decide)) b10 m10 F11 (O11.mono (by decide)) b11 m11 F27
 have O35:=ok_walked (P:=l.prog) (w:=w) (mg:=mg) (base:=base) O m_Walk MK_Walk (O_Walk___init__.mono (by decide)) b_Walk___init__ M_Walk_step (O_Walk_step.mono (by decide)) b_Walk_step M_Walk_at_end (O_Walk_at_end.mono (by decide)) b_Walk_at_end F35
 have O26:=ok_knot_body (P:=l.prog) (w:=w) (mg:=mg) (base:=base) F6 (O6.mono (by decide)) b6 m6 F27 (O27.mono (by decide)) b27 m27 F23 (O23.mono (by decide)) b23 m23 F26
 have O34:=ok_run (P:=l.prog) (w:=w) (mg:=mg) (base:=base) O F35 (O35.mono (by decide)) b35 m35 F19 (O19.mono (by decide)) b19 m19 F21 (O21.mono (by decide)) b21 m21 F33 (O33.mono (by decide)) b33 m33 M_Walk_tally (O_Walk_tally.mono (by decide)) b_Walk_tally M_Walk_at_end (O_Walk_at_end.mono (by decide)) b_Walk_at_end M_Walk_top (O_Walk_top.mono (by decide)) b_Walk_top F34
 have O25:=ok_knot (P:=l.prog) (w:=w) (mg:=mg) (base:=base) F22 (O22.mono (by decide)) b22 m22 F26 (O26.mono (by decide)) b26 m26 F25
 have O44:=okN_builder (P:=l.prog) (w:=w) (mg:=mg) (base:=base) m_reversed F40 (O40.mono (by decide)) b40 m40 F42 (O42.mono (by decide)) b42 m42 F44 b44 m44 3
 have O45:=ok__law_maker (P:=l.prog) (w:=w) (mg:=mg) (base:=base) F44 (O44.mono (by decide)) b44 m44 F40 (O40.mono (by decide)) b40 m40 F45
 exact ok_law (P:=l.prog) (w:=w) (mg:=mg) (base:=base) m_tuple m_range m_isinstance F37 (O37.mono (by decide)) b37 m37 F38 (O38.mono (by decide)) b38 m38 F41 (O41.mono (by decide)) b41 m41 F39 (O39.mono (by decide)) b39 m39 F25 (O25.mono (by decide)) b25 m25 F45 (O45.mono (by decide)) b45 m45 F34 (O34.mono (by decide)) b34 m34 F43 (O43.mono (by decide)) b43 m43 F46
theorem walk {l:PySem.W.OpenLaw}{q:Program}{loose:List Str}{XP:(Str→Option Value)→Heap→Prop}{YP:World→Heap→Prop}{d:DefRec}{K:Params→PySem.W.Frag} (hn:l.most=some 63) (hdf:d.params.defaults=[])
  (hY:∀ (w:World) (h:Heap),YP w h→(K w.params).In h)
  (F:∀ (w:World) (mg:Str→Option Value) (fa:Addr) (h:Heap),(K w.params).In h→h.Ns mainGlobals mg→mg d.name=some (.ref fa) →
   ∃ fd:FuncData,(∀ (s:Shared) (u:Value),BindsTo s fd ⟨[u],[]⟩ [("_law_script",u)])∧∀ base:Heap,(K w.params).In base→base.Ns mainGlobals mg→FnOk l.prog w (K w.params) mg base CX0 140 fa fd ["_law_script"] (spLaw (K w.params))) :
  PySem.W.WalkO q loose XP YP l.row.toRowW d [] (fun f vs=>PySem.call f vs) :=
 L2.walk_of (n:=63) (k:=140) (x:="_law_script") (CX:=fun _=>CX0) (sp:=fun w=>spLaw (K w.params)) hn (by decide) hdf ⟨rfl,by decide,by decide⟩ hY F (fun _ _ a ns hl _ hS=>⟨a,ns,rfl,hS,hl,fun _=>rfl⟩) fun _ _ _ _ _ z=>z
theorem walkX_of {q:Program}{loose:List Str}{XP:(Str→Option Value)→Heap→Prop}{K:Params→PySem.W.Frag}{n t:Nat}{ad:List Addr}{r:PySem.W.RowW}{d:DefRec}{kwd:List (Str×Expr)}{run:Value→List Value→Sem Value}
  (h:PySem.W.WalkO q loose XP (fun w hp=>(K w.params).In hp) r d kwd run)
  (hI:∀ (w:World) (s₀ s₁:Shared) (args:List PySem.W.WData) (vals:List Value) (as:List Addr),PySem.W.X.obsZ ad s₀=PySem.W.X.valZ K n t w→PySem.W.Laid r.records w s₀ s₁ args vals as→(K w.params).In s₁.heap) :
  PySem.W.WalkX q loose XP (PySem.W.X.obsZ ad) (PySem.W.X.valZ K n t) r d kwd run :=
 fun w s₀ s₁ mg mb G y a o pm cd doc dV kV ho hd hcd hD hmg hg args vals as L hpre hlay hrd hwl hlo=>h w s₀ s₁ mg mb G (hI w s₀ s₁ args vals as y L) a o pm cd doc dV kV ho hd hcd hD hmg hg args vals as hpre hlay hrd hwl hlo
end Sw92
def PySem.W.Fast.tw3625052209240781276:Nat:=0
def PySem.W.Fast.tw3395302919062813059:Nat:=0
def PySem.W.Fast.tw15645921220977668743:Nat:=0
def PySem.W.Fast.tw5563266283775185190:Nat:=0
def PySem.W.Fast.tw4824476450820865436:Nat:=0
def PySem.W.Fast.tw2278260451609952696:Nat:=0
def PySem.W.Fast.tw17071893001340297235:Nat:=0
def PySem.W.Fast.tw8940258901758185544:Nat:=0
def PySem.W.Fast.tw8054782464834173100:Nat:=0
def PySem.W.Fast.tw721480045882102259:Nat:=0
def PySem.W.Fast.tw4416190483664228511:Nat:=0
def PySem.W.Fast.tw12390898361355884696:Nat:=0
def PySem.W.Fast.tw725800071301740285:Nat:=0
def PySem.W.Fast.tw12421533535123137318:Nat:=0
def PySem.W.Fast.tw6914137179191778164:Nat:=0
def PySem.W.Fast.tw2952734021078969042:Nat:=0
def PySem.W.Fast.tw16402580286748252131:Nat:=0
def PySem.W.Fast.tw103291265454963244:Nat:=0
def PySem.W.Fast.tw10083500492995629879:Nat:=0
def PySem.W.Fast.tw13457510216900430317:Nat:=0
def PySem.W.Fast.tw9348742503628093510:Nat:=0
def PySem.W.Fast.tw13596852283926076457:Nat:=0
def PySem.W.Fast.tw10995404424598218648:Nat:=0
def PySem.W.Fast.tw7175532555912213480:Nat:=0
def PySem.W.Fast.tw9833994299349333859:Nat:=0
def PySem.W.Fast.tw601163374772037329:Nat:=0
def PySem.W.Fast.tw2794683011863969913:Nat:=0
def PySem.W.Fast.tw7794417297567305630:Nat:=0
def PySem.W.Fast.tw14338335140131679747:Nat:=0
def PySem.W.Fast.tw859910171223340518:Nat:=0
def PySem.W.Fast.tw10732503415654898526:Nat:=0
def PySem.W.Fast.tw12700723351516402831:Nat:=0
def PySem.W.Fast.tw8324198761786776385:Nat:=0
def PySem.W.Fast.tw15539607701724374322:Nat:=0
def PySem.W.Fast.tw2356065162252753375:Nat:=0
def PySem.W.Fast.tw17578907859185587508:Nat:=0
def PySem.W.Fast.tw14939003006646013286:Nat:=0
def PySem.W.Fast.tw11297905880672565987:Nat:=0
def PySem.W.Fast.tw13499264572332936229:Nat:=0
open PySem PySem.W PyProof.Rows
set_option maxRecDepth 100000 in
set_option maxHeartbeats 0 in
theorem PySem.Challenge.cw_selfword_k92_whole_its_own_text_in_any_t_holds : PySem.Challenge.rw_selfword_k92_whole_its_own_text_in_any_t.Holds := by
 w_on; o_law; z_head; (case hw=>w_witness2)
 k_fill
 refine Sw92.walkX_of (Sw92.walk (l:=PySem.Challenge.rw_selfword_k92_whole_its_own_text_in_any_t) rfl rfl (fun w h Y=>Y) ?F) ?I
 case I =>
  intro w s₀ s₁ args vals as y L
  z_open y L KX ZH ZN ZT
  exact KX
 case F =>
  intro w mg fa h KX G hmg
  refine' Sw92.all_mk KX G hmg ?a1 ?l1 ?c1 ?k1 ?a2 ?l2 ?c2 ?k2 ?a3 ?l3 ?c3 ?k3 ?a4 ?l4 ?c4 ?k4 ?a5 ?l5 ?c5 ?k5 ?a6 ?l6 ?c6 ?k6 ?a7 ?l7 ?c7 ?k7 ?a8 ?l8 ?c8 ?k8 ?a9 ?l9 ?c9 ?k9 ?a10 ?l10 ?c10 ?k10 ?a11 ?l11 ?c11 ?k11 ?a12 ?l12 ?c12 ?k12 ?a13 ?l13 ?c13 ?k13 ?a14 ?l14 ?c14 ?k14 ?a15 ?l15 ?c15 ?k15 ?a16 ?l16 ?c16 ?k16 ?a17 ?l17 ?c17 ?k17 ?a18 ?l18 ?c18 ?k18 ?a19 ?l19 ?c19 ?k19 ?a20 ?l20 ?c20 ?k20 ?a21 ?l21 ?c21 ?k21 ?a22 ?l22 ?c22 ?k22 ?a23 ?l23 ?c23 ?k23 ?a24 ?l24 ?c24 ?k24 ?a25 ?l25 ?c25 ?k25 ?a26 ?l26 ?c26 ?k26 ?a27 ?l27 ?c27 ?k27 ?a28 ?l28 ?c28 ?k28 ?a29 ?l29 ?c29 ?k29 ?a30 ?l30 ?c30 ?k30 ?a31 ?l31 ?c31 ?k31 ?a32 ?l32 ?c32 ?k32 ?a33 ?l33 ?c33 ?k33 ?a34 ?l34 ?c34 ?k34 ?a35 ?l35 ?c35 ?k35 ?a36 ?l36 ?c36 ?k36 ?a37 ?l37 ?c37 ?k37 ?a38 ?l38 ?c38 ?k38 ?a39 ?l39 ?c39 ?k39 ?a40 ?l40 ?c40 ?k40 ?a41 ?l41 ?c41 ?k41 ?a42 ?l42 ?c42 ?k42 ?a43 ?l43 ?c43 ?k43 ?a44 ?l44 ?c44 ?k44 ?a45 ?l45 ?c45 ?k45 ?a46 ?l46 ?c46 ?k46 ?aC_Fronted ?pg_Fronted ?hd_Fronted ?po_Fronted ?sa_Fronted ?mk_Fronted ?kc_Fronted ?n_Fronted_item ?n_Fronted_behind ?aC_Later ?pg_Later ?hd_Later ?po_Later ?sa_Later ?mk_Later ?kc_Later ?n_Later_tree ?n_Later_place ?aC_Word ?pg_Word ?hd_Word ?po_Word ?sa_Word ?mk_Word ?kc_Word ?n_Word_kind ?n_Word_load ?n_Word_yes ?n_Word_no ?n_Word_body ?n_Word_size ?aC_Text ?pg_Text ?hd_Text ?po_Text ?sa_Text ?mk_Text ?kc_Text ?n_Text_tree ?n_Text_words ?aC_Going ?pg_Going ?hd_Going ?po_Going ?sa_Going ?mk_Going ?kc_Going ?n_Going_text ?n_Going_place ?aC_Walk ?pg_Walk ?hd_Walk ?po_Walk ?sa_Walk ?mk_Walk ?kc_Walk ?n_Walk_goings ?n_Walk_stack ?n_Walk_numbers ?n_Walk_left ?eq_Fronted ?ob_Fronted ?tu_Fronted ?sb_Fronted ?ca_Fronted ?eq_Later ?ob_Later ?tu_Later ?sb_Later ?ca_Later ?cn ?ct ?iTF ?iTL ?iFF ?iLF ?iLL ?a_Fronted___init__ ?i_Fronted___init__ ?l_Fronted___init__ ?c_Fronted___init__ ?k_Fronted___init__ ?a_Later___init__ ?i_Later___init__ ?l_Later___init__ ?c_Later___init__ ?k_Later___init__ ?a_Word___init__ ?i_Word___init__ ?l_Word___init__ ?c_Word___init__ ?k_Word___init__ ?a_Word_body_parts ?i_Word_body_parts ?l_Word_body_parts ?c_Word_body_parts ?k_Word_body_parts ?a_Text___init__ ?i_Text___init__ ?l_Text___init__ ?c_Text___init__ ?k_Text___init__ ?a_Text_word_at ?i_Text_word_at ?l_Text_word_at ?c_Text_word_at ?k_Text_word_at ?a_Going___init__ ?i_Going___init__ ?l_Going___init__ ?c_Going___init__ ?k_Going___init__ ?a_Walk___init__ ?i_Walk___init__ ?l_Walk___init__ ?c_Walk___init__ ?k_Walk___init__ ?a_Walk_at_end ?i_Walk_at_end ?l_Walk_at_end ?c_Walk_at_end ?k_Walk_at_end ?a_Walk_top ?i_Walk_top ?l_Walk_top ?c_Walk_top ?k_Walk_top ?a_Walk_tally ?i_Walk_tally ?l_Walk_tally ?c_Walk_tally ?k_Walk_tally ?a_Walk_step ?i_Walk_step ?l_Walk_step ?c_Walk_step ?k_Walk_step ?a_Walk_move ?i_Walk_move ?l_Walk_move ?c_Walk_move ?k_Walk_move ?e_FORK_NO ?r_FORK_NO ?e_FORK_YES ?r_FORK_YES ?e_WHILE_PAST ?r_WHILE_PAST ?e_WHILE_INTO ?r_WHILE_INTO ?e_NO_WORD ?r_NO_WORD ?e_DROP ?r_DROP ?e_SWAP ?r_SWAP ?e_FRONT ?r_FRONT ?e_PART ?r_PART ?e_TURN ?r_TURN ?e_PLACES ?r_PLACES ?e_SHUT ?r_SHUT ?e_BODIES ?r_BODIES ?e_LOOKS ?l_LOOKS ?t_LOOKS ?e_NAMES ?l_NAMES ?y_NAMES ?x_NAMES ?e_NAMELESS ?r_NAMELESS ?e_FORK ?r_FORK ?e_WHILE ?r_WHILE ?e_LAY ?r_LAY ?e_LAID ?r_LAID ?e_TOP_REACHED ?r_TOP_REACHED ?e_INTO_NO ?r_INTO_NO ?e_INTO_YES ?r_INTO_YES ?e_STACK_PARTED ?r_STACK_PARTED ?e_WORKED ?l_WORKED ?t_WORKED ?e_PAST_BODY ?r_PAST_BODY ?e_INTO_BODY ?r_INTO_BODY ?e_COPIED ?r_COPIED ?e_TWIN ?r_TWIN ?z_min ?z_len ?z_tuple ?z_reversed ?z_range ?z_sum ?z_isinstance ?z_all ?z_list
  (case a1=>k_is); (case l1=>k_is); (case c1=>k_is); (case k1=>k_is)
  (case a2=>k_is); (case l2=>k_is); (case c2=>k_is); (case k2=>k_is)
  (case a3=>k_is); (case l3=>k_is); (case c3=>k_is); (case k3=>k_is)
  (case a4=>k_is); (case l4=>k_is); (case c4=>k_is); (case k4=>k_is)
  (case a5=>k_is); (case l5=>k_is); (case c5=>k_is); (case k5=>k_is)
  (case a6=>k_is); (case l6=>k_is); (case c6=>k_is); (case k6=>k_is)
  (case a7=>k_is); (case l7=>k_is); (case c7=>k_is); (case k7=>k_is)
  (case a8=>k_is); (case l8=>k_is); (case c8=>k_is); (case k8=>k_is)
  (case a9=>k_is); (case l9=>k_is); (case c9=>k_is); (case k9=>k_is)
  (case a10=>k_is); (case l10=>k_is); (case c10=>k_is); (case k10=>k_is)
  (case a11=>k_is); (case l11=>k_is); (case c11=>k_is); (case k11=>k_is)
  (case a12=>k_is); (case l12=>k_is); (case c12=>k_is); (case k12=>k_is)
  (case a13=>k_is); (case l13=>k_is); (case c13=>k_is); (case k13=>k_is)
  (case a14=>k_is); (case l14=>k_is); (case c14=>k_is); (case k14=>k_is)
  (case a15=>k_is); (case l15=>k_is); (case c15=>k_is); (case k15=>k_is)
  (case a16=>k_is); (case l16=>k_is); (case c16=>k_is); (case k16=>k_is)
  (case a17=>k_is); (case l17=>k_is); (case c17=>k_is); (case k17=>k_is)
  (case a18=>k_is); (case l18=>k_is); (case c18=>k_is); (case k18=>k_is)
  (case a19=>k_is); (case l19=>k_is); (case c19=>k_is); (case k19=>k_is)
  (case a20=>k_is); (case l20=>k_is); (case c20=>k_is); (case k20=>k_is)
  (case a21=>k_is); (case l21=>k_is); (case c21=>k_is); (case k21=>k_is)
  (case a22=>k_is); (case l22=>k_is); (case c22=>k_is); (case k22=>k_is)
  (case a23=>k_is); (case l23=>k_is); (case c23=>k_is); (case k23=>k_is)
  (case a24=>k_is); (case l24=>k_is); (case c24=>k_is); (case k24=>k_is)
  (case a25=>k_is); (case l25=>k_is); (case c25=>k_is); (case k25=>k_is)
  (case a26=>k_is); (case l26=>k_is); (case c26=>k_is); (case k26=>k_is)
  (case a27=>k_is); (case l27=>k_is); (case c27=>k_is); (case k27=>k_is)
  (case a28=>k_is); (case l28=>k_is); (case c28=>k_is); (case k28=>k_is)
  (case a29=>k_is); (case l29=>k_is); (case c29=>k_is); (case k29=>k_is)
  (case a30=>k_is); (case l30=>k_is); (case c30=>k_is); (case k30=>k_is)
  (case a31=>k_is); (case l31=>k_is); (case c31=>k_is); (case k31=>k_is)
  (case a32=>k_is); (case l32=>k_is); (case c32=>k_is); (case k32=>k_is)
  (case a33=>k_is); (case l33=>k_is); (case c33=>k_is); (case k33=>k_is)
  (case a34=>k_is); (case l34=>k_is); (case c34=>k_is); (case k34=>k_is)
  (case a35=>k_is); (case l35=>k_is); (case c35=>k_is); (case k35=>k_is)
  (case a36=>k_is); (case l36=>k_is); (case c36=>k_is); (case k36=>k_is)
  (case a37=>k_is); (case l37=>k_is); (case c37=>k_is); (case k37=>k_is)
  (case a38=>k_is); (case l38=>k_is); (case c38=>k_is); (case k38=>k_is)
  (case a39=>k_is); (case l39=>k_is); (case c39=>k_is); (case k39=>k_is)
  (case a40=>k_is); (case l40=>k_is); (case c40=>k_is); (case k40=>k_is)
  (case a41=>k_is); (case l41=>k_is); (case c41=>k_is); (case k41=>k_is)
  (case a42=>k_is); (case l42=>k_is); (case c42=>k_is); (case k42=>k_is)
  (case a43=>k_is); (case l43=>k_is); (case c43=>k_is); (case k43=>k_is)
  (case a44=>k_is); (case l44=>k_is); (case c44=>k_is); (case k44=>k_is)
  (case a45=>k_is); (case l45=>k_is); (case c45=>k_is); (case k45=>k_is)
  (case a46=>k_is); (case l46=>k_is); (case c46=>k_is); (case k46=>k_is)
  (case aC_Fronted=>k_is)
  (case pg_Fronted=>k_is)
  (case hd_Fronted=>k_is)
  (case po_Fronted=>k_is)
  (case sa_Fronted=>k_is)
  (case mk_Fronted=>k_is)
  (case kc_Fronted=>k_is)
  (case n_Fronted_item=>k_is)
  (case n_Fronted_behind=>k_is)
  (case aC_Later=>k_is)
  (case pg_Later=>k_is)
  (case hd_Later=>k_is)
  (case po_Later=>k_is)
  (case sa_Later=>k_is)
  (case mk_Later=>k_is)
  (case kc_Later=>k_is)
  (case n_Later_tree=>k_is)
  (case n_Later_place=>k_is)
  (case aC_Word=>k_is)
  (case pg_Word=>k_is)
  (case hd_Word=>k_is)
  (case po_Word=>k_is)
  (case sa_Word=>k_is)
  (case mk_Word=>k_is)
  (case kc_Word=>k_is)
  (case n_Word_kind=>k_is)
  (case n_Word_load=>k_is)
  (case n_Word_yes=>k_is)
  (case n_Word_no=>k_is)
  (case n_Word_body=>k_is)
  (case n_Word_size=>k_is)
  (case aC_Text=>k_is)
  (case pg_Text=>k_is)
  (case hd_Text=>k_is)
  (case po_Text=>k_is)
  (case sa_Text=>k_is)
  (case mk_Text=>k_is)
  (case kc_Text=>k_is)
  (case n_Text_tree=>k_is)
  (case n_Text_words=>k_is)
  (case aC_Going=>k_is)
  (case pg_Going=>k_is)
  (case hd_Going=>k_is)
  (case po_Going=>k_is)
  (case sa_Going=>k_is)
  (case mk_Going=>k_is)
  (case kc_Going=>k_is)
  (case n_Going_text=>k_is)
  (case n_Going_place=>k_is)
  (case aC_Walk=>k_is)
  (case pg_Walk=>k_is)
  (case hd_Walk=>k_is)
  (case po_Walk=>k_is)
  (case sa_Walk=>k_is)
  (case mk_Walk=>k_is)
  (case kc_Walk=>k_is)
  (case n_Walk_goings=>k_is)
  (case n_Walk_stack=>k_is)
  (case n_Walk_numbers=>k_is)
  (case n_Walk_left=>k_is)
  (case eq_Fronted=>k_is)
  (case ob_Fronted=>k_is)
  (case tu_Fronted=>k_is)
  (case sb_Fronted=>k_is)
  (case ca_Fronted=>k_is)
  (case eq_Later=>k_is)
  (case ob_Later=>k_is)
  (case tu_Later=>k_is)
  (case sb_Later=>k_is)
  (case ca_Later=>k_is)
  (case cn=>k_is)
  (case ct=>k_is)
  (case iTF=>kit_is)
  (case iTL=>kit_is)
  (case iFF=>kit_is)
  (case iLF=>kit_is)
  (case iLL=>kit_is)
  (case a_Fronted___init__=>k_is)
  (case i_Fronted___init__=>k_is)
  (case l_Fronted___init__=>k_is)
  (case c_Fronted___init__=>k_is)
  (case k_Fronted___init__=>k_is)
  (case a_Later___init__=>k_is)
  (case i_Later___init__=>k_is)
  (case l_Later___init__=>k_is)
  (case c_Later___init__=>k_is)
  (case k_Later___init__=>k_is)
  (case a_Word___init__=>k_is)
  (case i_Word___init__=>k_is)
  (case l_Word___init__=>k_is)
  (case c_Word___init__=>k_is)
  (case k_Word___init__=>k_is)
  (case a_Word_body_parts=>k_is)
  (case i_Word_body_parts=>k_is)
  (case l_Word_body_parts=>k_is)
  (case c_Word_body_parts=>k_is)
  (case k_Word_body_parts=>k_is)
  (case a_Text___init__=>k_is)
  (case i_Text___init__=>k_is)
  (case l_Text___init__=>k_is)
  (case c_Text___init__=>k_is)
  (case k_Text___init__=>k_is)
  (case a_Text_word_at=>k_is)
  (case i_Text_word_at=>k_is)
  (case l_Text_word_at=>k_is)
  (case c_Text_word_at=>k_is)
  (case k_Text_word_at=>k_is)
  (case a_Going___init__=>k_is)
  (case i_Going___init__=>k_is)
  (case l_Going___init__=>k_is)
  (case c_Going___init__=>k_is)
  (case k_Going___init__=>k_is)
  (case a_Walk___init__=>k_is)
  (case i_Walk___init__=>k_is)
  (case l_Walk___init__=>k_is)
  (case c_Walk___init__=>k_is)
  (case k_Walk___init__=>k_is)
  (case a_Walk_at_end=>k_is)
  (case i_Walk_at_end=>k_is)
  (case l_Walk_at_end=>k_is)
  (case c_Walk_at_end=>k_is)
  (case k_Walk_at_end=>k_is)
  (case a_Walk_top=>k_is)
  (case i_Walk_top=>k_is)
  (case l_Walk_top=>k_is)
  (case c_Walk_top=>k_is)
  (case k_Walk_top=>k_is)
  (case a_Walk_tally=>k_is)
  (case i_Walk_tally=>k_is)
  (case l_Walk_tally=>k_is)
  (case c_Walk_tally=>k_is)
  (case k_Walk_tally=>k_is)
  (case a_Walk_step=>k_is)
  (case i_Walk_step=>k_is)
  (case l_Walk_step=>k_is)
  (case c_Walk_step=>k_is)
  (case k_Walk_step=>k_is)
  (case a_Walk_move=>k_is)
  (case i_Walk_move=>k_is)
  (case l_Walk_move=>k_is)
  (case c_Walk_move=>k_is)
  (case k_Walk_move=>k_is)
  (case e_FORK_NO=>k_is)
  (case r_FORK_NO=>exact⟨_,rfl⟩)
  (case e_FORK_YES=>k_is)
  (case r_FORK_YES=>exact⟨_,rfl⟩)
  (case e_WHILE_PAST=>k_is)
  (case r_WHILE_PAST=>exact⟨_,rfl⟩)
  (case e_WHILE_INTO=>k_is)
  (case r_WHILE_INTO=>exact⟨_,rfl⟩)
  (case e_NO_WORD=>k_is)
  (case r_NO_WORD=>exact⟨_,rfl⟩)
  (case e_DROP=>k_is)
  (case r_DROP=>exact⟨_,rfl⟩)
  (case e_SWAP=>k_is)
  (case r_SWAP=>exact⟨_,rfl⟩)
  (case e_FRONT=>k_is)
  (case r_FRONT=>exact⟨_,rfl⟩)
  (case e_PART=>k_is)
  (case r_PART=>exact⟨_,rfl⟩)
  (case e_TURN=>k_is)
  (case r_TURN=>exact⟨_,rfl⟩)
  (case e_PLACES=>k_is)
  (case r_PLACES=>exact⟨_,rfl⟩)
  (case e_SHUT=>k_is)
  (case r_SHUT=>exact⟨_,rfl⟩)
  (case e_BODIES=>k_is)
  (case r_BODIES=>exact⟨_,rfl⟩)
  (case e_LOOKS=>k_is)
  (case l_LOOKS=>k_is)
  (case t_LOOKS=>exact⟨_,_,rfl,rfl,by decide,by repeat (first | exact .nil | refine .cons ⟨_,rfl⟩ ?_)⟩)
  (case e_NAMES=>k_is)
  (case l_NAMES=>k_is)
  (case y_NAMES=>exact⟨_,_,rfl,rfl,by decide,by repeat (first | exact .nil | refine .cons ⟨_,rfl⟩ ?_)⟩)
  (case x_NAMES=>exact⟨rfl,rfl⟩)
  (case e_NAMELESS=>k_is)
  (case r_NAMELESS=>exact⟨_,rfl⟩)
  (case e_FORK=>k_is)
  (case r_FORK=>exact⟨_,rfl⟩)
  (case e_WHILE=>k_is)
  (case r_WHILE=>exact⟨_,rfl⟩)
  (case e_LAY=>k_is)
  (case r_LAY=>exact⟨_,rfl⟩)
  (case e_LAID=>k_is)
  (case r_LAID=>exact⟨_,rfl⟩)
  (case e_TOP_REACHED=>k_is)
  (case r_TOP_REACHED=>exact⟨_,rfl⟩)
  (case e_INTO_NO=>k_is)
  (case r_INTO_NO=>exact⟨_,rfl⟩)
  (case e_INTO_YES=>k_is)
  (case r_INTO_YES=>exact⟨_,rfl⟩)
  (case e_STACK_PARTED=>k_is)
  (case r_STACK_PARTED=>exact⟨_,rfl⟩)
  (case e_WORKED=>k_is)
  (case l_WORKED=>k_is)
  (case t_WORKED=>exact⟨_,_,rfl,rfl,by decide,by repeat (first | exact .nil | refine .cons ⟨_,rfl⟩ ?_)⟩)
  (case e_PAST_BODY=>k_is)
  (case r_PAST_BODY=>exact⟨_,rfl⟩)
  (case e_INTO_BODY=>k_is)
  (case r_INTO_BODY=>exact⟨_,rfl⟩)
  (case e_COPIED=>k_is)
  (case r_COPIED=>exact⟨_,rfl⟩)
  (case e_TWIN=>k_is)
  (case r_TWIN=>exact⟨_,rfl⟩)
  (case z_min=>k_is)
  (case z_len=>k_is)
  (case z_tuple=>k_is)
  (case z_reversed=>k_is)
  (case z_range=>k_is)
  (case z_sum=>k_is)
  (case z_isinstance=>k_is)
  (case z_all=>k_is)
  (case z_list=>k_is)
#print axioms PySem.Challenge.cw_selfword_k92_whole_its_own_text_in_any_t_holds
